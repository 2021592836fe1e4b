/- TEXTS JOINED: DkCall, DkTurn, LyMath, LyKit, LyLA, LyLC. -/
import Derived.Deep.Slices
import Derived.Test.YtndlfmofjmieaaaPome1
import Derived.Laws.CopyOwn
import Derived.Below
import Derived.Lib.SmallJoins
import Derived.Deep.OwnRows
namespace Go.Proofs.Ytndlfmofjmieaaa.Gf
set_option linter.unusedVariables false
set_option linter.unusedSimpArgs false
open Go.RowKit
open Go.ChangeShapes
theorem rdI_row2 {w : World} {a : Option Addr} {len cap : Nat} {zs : List Int}
    (h : (a = none ∧ len = 0 ∧ cap = 0 ∧ zs = []) ∨ ∃ x, a = some x ∧ len ≤ cap ∧ cap ≤ maxLen ∧ zs.length = cap ∧ (∀ i, i < zs.length → w.cell? (x.add i) = some (.int .i64 (zs.getD i 0))) ∧ ∀ n ∈ zs, (Lit.int .i64 n).wf = true) :
    ∃ p : List Int, RdI w (.slice a len cap) p ∧ ∀ z ∈ p, (Lit.int .i64 z).wf = true := by
  rcases h with ⟨rfl, rfl, rfl, rfl⟩ | ⟨x, rfl, hl, hm, hz, hcell, hwz⟩
  · exact ⟨[], Or.inl ⟨none, 0, rfl, rfl⟩, by simp⟩
  · have hlen : (zs.take len).length = len := by rw [List.length_take]; omega
    refine ⟨zs.take len, ?_, fun z hz1 => hwz z (List.mem_of_mem_take hz1)⟩
    by_cases h0 : len = 0
    · subst h0
      exact Or.inl ⟨_, cap, by simp, rfl⟩
    · obtain ⟨b, off, spot⟩ := x
      have hc := hcell 0 (by omega)
      have hspot : spot = none := by simpa [Addr.add] using World.cell?_spot hc
      subst hspot
      have hbw : b < w.heap.size := by
        have e : w.cell? ⟨b, off, none⟩ = some (.int .i64 (zs.getD 0 0)) := by simpa [Addr.add] using hc
        unfold World.cell? at e
        by_cases hb : b < w.heap.size
        · exact hb
        · rw [Array.getElem?_eq_none (by show w.heap.size ≤ b; omega)] at e; cases e
      refine Or.inr ⟨b, off, cap, fun h => by rw [h] at hlen; simp at hlen; omega, by rw [hlen], by rw [hlen]; omega, hbw, fun i hi => ?_⟩
      rw [hlen] at hi
      have e1 := hcell i (by omega)
      rw [add_at] at e1
      rw [e1]
      simp [List.getD, List.getElem?_take_of_lt hi]
end Go.Proofs.Ytndlfmofjmieaaa.Gf

namespace Go.Proofs.Ytndlfmofjmieaaa.Gf
set_option linter.unusedVariables false
set_option linter.unusedSimpArgs false
open Go.RowKit
structure TurnG (G : Nat → Prop) (w w' : World) : Prop where
  os : w'.os = w.os
  tape : w'.tape = w.tape
  output : w'.output = w.output
  size : w.heap.size ≤ w'.heap.size
  block : ∀ k, k < w.heap.size → ¬ G k → w'.heap[k]? = w.heap[k]?
theorem TurnG.refl (G : Nat → Prop) (w : World) : TurnG G w w := ⟨rfl, rfl, rfl, Nat.le_refl _, fun _ _ _ => rfl⟩
theorem TurnG.trans {G : Nat → Prop} {a b c : World} (h : TurnG G a b) (k : TurnG G b c) : TurnG G a c :=
  ⟨k.os.trans h.os, k.tape.trans h.tape, k.output.trans h.output, Nat.le_trans h.size k.size, fun i hi hg => (k.block i (Nat.lt_of_lt_of_le hi h.size) hg).trans (h.block i hi hg)⟩
theorem Below.turnG {w w' : World} (h : Below w.heap.size w w') (G : Nat → Prop) : TurnG G w w' := ⟨h.os, h.tape, h.output, h.size, fun k hk _ => h.block k hk⟩
theorem Only.turnG {g : Nat} {G : Nat → Prop} {w w' : World} (h : Only g w w') (hg : G g) : TurnG G w w' :=
  ⟨h.os, h.tape, h.output, by rw [h.size]; exact Nat.le_refl _, fun k _ hk => h.block k (fun e => hk (by rw [e]; exact hg))⟩
theorem TurnG.drew {G : Nat → Prop} {a w : World} (h : TurnG G a w) : TurnG G a w.drew := ⟨h.os, h.tape, h.output, h.size, h.block⟩
theorem TurnG.below {G : Nat → Prop} {B : Nat} {w w' : World} (h : TurnG G w w') (hg : ∀ g, G g → B ≤ g) (hB : B ≤ w.heap.size) : Below B w w' :=
  ⟨h.os, h.tape, h.output, h.size, fun k hk => h.block k (by omega) (fun e => by have := hg k e; omega)⟩
theorem TurnG.cell {G : Nat → Prop} {w w' : World} (h : TurnG G w w') {p : Addr} (hs : p.block < w.heap.size) (hp : ¬ G p.block) : w'.cell? p = w.cell? p := World.cell?_of_block (w := w) (h.block p.block hs hp)
theorem TurnG.frozen {G : Nat → Prop} {w w' : World} (h : TurnG G w w') {p : Addr} (hs : p.block < w.heap.size) (hp : ¬ G p.block) : w'.frozen? p = w.frozen? p := World.frozen?_of_block (w := w) (h.block p.block hs hp)
/-- a slice that lies in none of the blocks -/
def ApartG (G : Nat → Prop) (v : Value) : Prop := ∀ x n c, v = .slice (some x) n c → n = 0 ∨ ¬ G x.block
end Go.Proofs.Ytndlfmofjmieaaa.Gf

namespace Go.Proofs.Ytndlfmofjmieaaa.Gf
set_option linter.unusedVariables false
set_option linter.unusedSimpArgs false
open Go.RowKit
/-- a geometry: data shards, parity shards, bytes of a shard, stripes, slots, objects -/
structure GeoS where
  k : Int
  m : Int
  z : Int
  s : Int
  t : Int
  o : Int
structure GeoS.Wf (g : GeoS) : Prop where
  k : (Lit.int .i64 g.k).wf = true
  m : (Lit.int .i64 g.m).wf = true
  z : (Lit.int .i64 g.z).wf = true
  s : (Lit.int .i64 g.s).wf = true
  t : (Lit.int .i64 g.t).wf = true
  o : (Lit.int .i64 g.o).wf = true
def aggG (g : GeoS) : Value := .agg #[.int .i64 g.k, .int .i64 g.m, .int .i64 g.z, .int .i64 g.s, .int .i64 g.t, .int .i64 g.o]
theorem aggE {k m z s t o : Int} : aggG ⟨k, m, z, s, t, o⟩ = .agg #[.int .i64 k, .int .i64 m, .int .i64 z, .int .i64 s, .int .i64 t, .int .i64 o] := rfl
def okG (g : GeoS) : Prop := 1 ≤ g.k ∧ 0 ≤ g.m ∧ g.k + g.m ≤ 32 ∧ 1 ≤ g.z ∧ g.z ≤ 4096 ∧ 1 ≤ g.s ∧ g.s ≤ 256 ∧ 1 ≤ g.t ∧ g.t ≤ 64 ∧ 1 ≤ g.o ∧ g.o ≤ 64
instance (g : GeoS) : Decidable (okG g) := inferInstanceAs (Decidable (_ ∧ _ ∧ _ ∧ _ ∧ _ ∧ _ ∧ _ ∧ _ ∧ _ ∧ _ ∧ _))
/-- what Check, Sectors, Area, Slot, Stripe, Disk, Shard, Needs answer -/
def chG (g : GeoS) : Int := if okG g then 0 else 50
def neG (g : GeoS) (b : Int) : Int := if okG g ∧ 1 ≤ b then (b - 1) / (g.k * g.z) + 1 else 0
theorem one_pos {g : GeoS} (h : okG g) : 1 ≤ g.k * g.z ∧ g.k * g.z ≤ 131072 := by
  obtain ⟨h1, h2, h3, h4, h5, _⟩ := h
  refine ⟨?_, ?_⟩
  · have := Int.mul_le_mul h1 h4 (by omega) (by omega)
    omega
  · have hk : g.k ≤ 32 := by omega
    have := Int.mul_le_mul hk h5 (by omega) (by omega)
    omega
theorem div_up {b c : Int} (hc : 0 < c) (h : 0 < b % c) : (b - 1) / c + 1 = b / c + 1 ∧ (0 ≤ b → b / c < b) := by
  have e := Int.emod_add_mul_ediv b c
  have e3 := Int.emod_lt_of_pos b hc
  refine ⟨?_, fun hb => ?_⟩
  · have : b - 1 = (b % c - 1) + c * (b / c) := by omega
    rw [this, Int.add_mul_ediv_left _ _ (by omega), Int.ediv_eq_zero_of_lt (by omega) (by omega), Int.zero_add]
  · have h2 : 2 ≤ c := by omega
    have e4 := Int.ediv_nonneg hb (show 0 ≤ c by omega)
    have := Int.mul_le_mul_of_nonneg_right h2 e4
    omega
theorem div_even {b c : Int} (hc : 0 < c) (h : ¬ 0 < b % c) : (b - 1) / c + 1 = b / c := by
  have e := Int.emod_add_mul_ediv b c
  have e2 := Int.emod_nonneg b (show c ≠ 0 by omega)
  have : b - 1 = (c - 1) + c * (b / c - 1) := by rw [Int.mul_sub]; omega
  rw [this, Int.add_mul_ediv_left _ _ (by omega), Int.ediv_eq_zero_of_lt (by omega) (by omega)]
  omega
theorem sixG {cs : List Value} (h : cs.length = 6) : ∃ v0 v1 v2 v3 v4 v5, cs = [v0, v1, v2, v3, v4, v5] := by
  match cs, h with
  | [a, b, c, d, e, f], _ => exact ⟨a, b, c, d, e, f, rfl⟩
section
variable {H : Type} {enc : TypeId × Value → H} {P : Program} {w : World} {base : Nat} {held : Bool}
/-- a geometry by value -/
theorem open_geo {r : Reach} {b0 : Nat} {t : TypeId} {f0 f1 f2 f3 f4 f5 : Field} {v : Value} {d : DataW H} {p : List MemPlace} (he : P.underlying t = some (.struct #[f0, f1, f2, f3, f4, f5])) (ce : P.cellsOf t = 6)
    (o0 : f0.offset = 0) (o1 : f1.offset = 1) (o2 : f2.offset = 2) (o3 : f3.offset = 3) (o4 : f4.offset = 4) (o5 : f5.offset = 5)
    (t0 : P.underlying f0.type = some (.int .i64)) (t1 : P.underlying f1.type = some (.int .i64)) (t2 : P.underlying f2.type = some (.int .i64)) (t3 : P.underlying f3.type = some (.int .i64)) (t4 : P.underlying f4.type = some (.int .i64)) (t5 : P.underlying f5.type = some (.int .i64))
    (n0 : P.cellsOf f0.type = 1) (n1 : P.cellsOf f1.type = 1) (n2 : P.cellsOf f2.type = 1) (n3 : P.cellsOf f3.type = 1) (n4 : P.cellsOf f4.type = 1) (n5 : P.cellsOf f5.type = 1)
    (hv : Value.okWide P w r b0 t v) (h : DataW.Trod enc P w base (fun _ => true) held t v d p) : ∃ g : GeoS, v = aggG g ∧ g.Wf := by
  obtain ⟨cs, rfl, hsz⟩ := Go.WideShapes.okWide_struct he hv
  obtain ⟨fuel, hf⟩ := h
  obtain ⟨xs, n', _, _, hlen, hxl, hfd⟩ := DataW.trod_struct he hf
  obtain ⟨l⟩ := cs
  have hll : l.length = 6 := by simpa [ce] using hsz
  obtain ⟨v0, v1, v2, v3, v4, v5, rfl⟩ := sixG hll
  have hxl' : xs.length = 6 := hxl
  have g : ∀ k, k < 6 → ∃ y, xs[k]? = some y := fun k hk => ⟨xs[k], List.getElem?_eq_getElem (by omega)⟩
  obtain ⟨y0, e0⟩ := g 0 (by omega)
  obtain ⟨y1, e1⟩ := g 1 (by omega)
  obtain ⟨y2, e2⟩ := g 2 (by omega)
  obtain ⟨y3, e3⟩ := g 3 (by omega)
  obtain ⟨y4, e4⟩ := g 4 (by omega)
  obtain ⟨y5, e5⟩ := g 5 (by omega)
  have q0 := hfd 0 f0 rfl
  have q1 := hfd 1 f1 rfl
  have q2 := hfd 2 f2 rfl
  have q3 := hfd 3 f3 rfl
  have q4 := hfd 4 f4 rfl
  have q5 := hfd 5 f5 rfl
  rw [o0, n0, e0] at q0
  rw [o1, n1, e1] at q1
  rw [o2, n2, e2] at q2
  rw [o3, n3, e3] at q3
  rw [o4, n4, e4] at q4
  rw [o5, n5, e5] at q5
  obtain ⟨z0, r0, _, w0⟩ := DataW.trod_int t0 q0
  obtain ⟨z1, r1, _, w1⟩ := DataW.trod_int t1 q1
  obtain ⟨z2, r2, _, w2⟩ := DataW.trod_int t2 q2
  obtain ⟨z3, r3, _, w3⟩ := DataW.trod_int t3 q3
  obtain ⟨z4, r4, _, w4⟩ := DataW.trod_int t4 q4
  obtain ⟨z5, r5, _, w5⟩ := DataW.trod_int t5 q5
  simp [Value.cells] at r0 r1 r2 r3 r4 r5
  subst r0 r1 r2 r3 r4 r5
  exact ⟨⟨z0, z1, z2, z3, z4, z5⟩, rfl, w0, w1, w2, w3, w4, w5⟩
end
end Go.Proofs.Ytndlfmofjmieaaa.Gf

namespace Go.Proofs.Ytndlfmofjmieaaa.Gf
set_option linter.unusedVariables false
set_option linter.unusedSimpArgs false
open Go.RowKit
def okK (k m : Int) : Prop := 1 ≤ k ∧ k ≤ 256 ∧ 0 ≤ m ∧ m ≤ 256 ∧ k + m ≤ 256
instance (k m : Int) : Decidable (okK k m) := inferInstanceAs (Decidable (_ ∧ _ ∧ _ ∧ _ ∧ _))
theorem belL (w : World) (o : Obj) : Below w.heap.size w (w.alloc o) := (Below.refl _ _).alloc (Nat.le_refl _) _
theorem _root_.Go.RowKit.Below.stepL {w w1 w2 : World} {B : Nat} (h : Below B w w1) (k : Below w1.heap.size w1 w2) (hB : B ≤ w1.heap.size) : Below B w w2 := h.trans (k.mono hB)
/-- a geometry variable -/
def GeoAt (w : World) (b : Nat) (g : GeoS) : Prop := w.cell? ⟨b, 0, none⟩ = some (.int .i64 g.k) ∧ w.cell? ⟨b, 1, none⟩ = some (.int .i64 g.m) ∧ w.cell? ⟨b, 2, none⟩ = some (.int .i64 g.z) ∧ w.cell? ⟨b, 3, none⟩ = some (.int .i64 g.s) ∧ w.cell? ⟨b, 4, none⟩ = some (.int .i64 g.t) ∧ w.cell? ⟨b, 5, none⟩ = some (.int .i64 g.o)
def cellsG (g : GeoS) : Array Value := #[.int .i64 g.k, .int .i64 g.m, .int .i64 g.z, .int .i64 g.s, .int .i64 g.t, .int .i64 g.o]
theorem GeoAt.below {w w' : World} {b : Nat} {g : GeoS} (h : GeoAt w b g) (hb : b < w.heap.size) (hw : Below w.heap.size w w') : GeoAt w' b g :=
  ⟨(hw.cell (p := ⟨b, 0, none⟩) hb).trans h.1, (hw.cell (p := ⟨b, 1, none⟩) hb).trans h.2.1, (hw.cell (p := ⟨b, 2, none⟩) hb).trans h.2.2.1, (hw.cell (p := ⟨b, 3, none⟩) hb).trans h.2.2.2.1, (hw.cell (p := ⟨b, 4, none⟩) hb).trans h.2.2.2.2.1, (hw.cell (p := ⟨b, 5, none⟩) hb).trans h.2.2.2.2.2⟩
/-- a geometry that was laid as a parameter -/
theorem geo_laid (w : World) (g : GeoS) (e : Nat) : ∀ W, Below (w.alloc (.cells (cellsG g) e)).heap.size (w.alloc (.cells (cellsG g) e)) W → GeoAt W w.heap.size g ∧ Below w.heap.size w W := by
  intro W hW
  have cc : ∀ j, (w.alloc (.cells (cellsG g) e)).cell? ⟨w.heap.size, j, none⟩ = (cellsG g)[j]? := fun j => World.cell?_alloc_new _ _ _ _
  have h0 : GeoAt (w.alloc (.cells (cellsG g) e)) w.heap.size g := ⟨(cc 0).trans rfl, (cc 1).trans rfl, (cc 2).trans rfl, (cc 3).trans rfl, (cc 4).trans rfl, (cc 5).trans rfl⟩
  exact ⟨h0.below (by simp) hW, (belL w _).trans (hW.mono (by simp))⟩
theorem info_boolL : (Try.prog.info? 4).map (fun i => (i.zero, i.size, i.bytes)) = some (some (.bool false), 1, 1) := by kernel_rfl
/-- a row of bools, all false -/
theorem madeB (w : World) (n : Nat) (hn : n ≤ 1000) : ∃ u, (Instr.makeSlice 50 (.int .i64 (n : Int)) (.int .i64 (n : Int))).run Try.prog w = .ok (.slice (some ⟨w.heap.size, 0, none⟩) n n) u ∧ u.rowIs w.heap.size 4 n (fun _ => .bool false) ∧ Below w.heap.size w u :=
  ⟨_, run_make_row' (P := Try.prog) 50 4 (.bool false) 1 Try.underlying50 info_boolL rfl .i64 .i64 n (by omega) (by omega) w, World.rowIs_made _ _ _ _, belL _ _⟩
end Go.Proofs.Ytndlfmofjmieaaa.Gf

namespace Go.Proofs.Ytndlfmofjmieaaa.Gf
set_option linter.unusedVariables false
set_option linter.unusedSimpArgs false
open Go.RowKit
theorem lchk_any {w : World} {k m : Int} {x : Int} (hx : (if okK k m then 0 else 50) = x) : Calls Try.prog 28 #[.int .i64 k, .int .i64 m] w fun e w' => e = .returned (.int .i64 x) ∧ w' = w := by
  by_cases h0 : k < 1
  · rw [if_neg (by unfold okK; omega)] at hx
    subst hx
    go_enter Try.func28, Try.ntmps28
    go_wp2
    go_ret
    exact ⟨rfl, rfl⟩
  by_cases h1 : k > 256
  · rw [if_neg (by unfold okK; omega)] at hx
    subst hx
    go_enter Try.func28, Try.ntmps28
    go_wp2
    go_ret
    exact ⟨rfl, rfl⟩
  by_cases h2 : m < 0
  · rw [if_neg (by unfold okK; omega)] at hx
    subst hx
    go_enter Try.func28, Try.ntmps28
    go_wp2
    go_ret
    exact ⟨rfl, rfl⟩
  by_cases h3 : m > 256
  · rw [if_neg (by unfold okK; omega)] at hx
    subst hx
    go_enter Try.func28, Try.ntmps28
    go_wp2
    go_ret
    exact ⟨rfl, rfl⟩
  have gw : IntKind.i64.wrap (k + m) = k + m := by rw [IntKind.wrap_i64]; omega
  by_cases h4 : k + m > 256
  · rw [if_neg (by unfold okK; omega)] at hx
    subst hx
    go_enter Try.func28, Try.ntmps28
    go_wp2
    go_ret
    exact ⟨rfl, rfl⟩
  · rw [if_pos (by unfold okK; omega)] at hx
    subst hx
    go_enter Try.func28, Try.ntmps28
    go_wp2
    go_ret
    exact ⟨rfl, rfl⟩
theorem ldisks_any {w : World} {g : GeoS} {x : Int} (hx : IntKind.i64.wrap (g.k + g.m) = x) : Calls Try.prog 30 #[aggG g] w fun e w' => e = .returned (.int .i64 x) ∧ Below w.heap.size w w' := by
  obtain ⟨k, m, z, s, t, o⟩ := g
  rw [aggE]
  have FB := fun o => belL w o
  simp only at hx
  go_enter Try.func30, Try.ntmps30
  go_wp2
  go_ret
  exact ⟨rfl, FB _⟩
theorem lask_any {w : World} {b : Nat} {n most : Int} {x y : Bool} (hy : (x && decide (1 ≤ n ∧ n ≤ most)) = y) (c : w.cell? ⟨b, 0, none⟩ = some (.bool x)) (fz : w.frozen? ⟨b, 0, none⟩ = false) : Calls Try.prog 29 #[.int .i64 n, .int .i64 most, .pointer (some ⟨b, 0, none⟩)] w fun e w' => e = .returned (.tuple #[]) ∧ w'.cell? ⟨b, 0, none⟩ = some (.bool y) ∧ w'.frozen? ⟨b, 0, none⟩ = false ∧ Only b w w' := by
  have OO := fun v => (Only.refl b w).setCell 0 v
  have FF : ∀ v : Value, (w.setCell ⟨b, 0, none⟩ v).frozen? ⟨b, 0, none⟩ = false := fun v => by simp [go_sem, fz]
  have CC : ∀ v : Value, (w.setCell ⟨b, 0, none⟩ v).cell? ⟨b, 0, none⟩ = some v := fun v => by simp [go_sem, c]
  cases x
  · rw [Bool.false_and] at hy
    subst hy
    go_enter Try.func29, Try.ntmps29
    go_wp2
    go_end0
    exact ⟨rfl, CC _, FF _, OO _⟩
  · rw [Bool.true_and] at hy
    by_cases h0 : n ≥ 1
    · by_cases h1 : n ≤ most
      · rw [decide_eq_true ⟨h0, h1⟩] at hy
        subst hy
        go_enter Try.func29, Try.ntmps29
        go_wp2
        go_end0
        exact ⟨rfl, CC _, FF _, OO _⟩
      · rw [decide_eq_false (fun h => h1 h.2)] at hy
        subst hy
        go_enter Try.func29, Try.ntmps29
        go_wp2
        go_end0
        exact ⟨rfl, CC _, FF _, OO _⟩
    · rw [decide_eq_false (fun h => h0 h.1)] at hy
      subst hy
      go_enter Try.func29, Try.ntmps29
      go_wp2
      go_end0
      exact ⟨rfl, CC _, FF _, OO _⟩
/-- a geometry, and whether it may be as far as was asked -/
structure ChkAt (w W : World) (gb mb : Nat) (g : GeoS) (y : Bool) : Prop where
  geo : GeoAt W gb g
  may : W.cell? ⟨mb, 0, none⟩ = some (.bool y)
  fz : W.frozen? ⟨mb, 0, none⟩ = false
  l1 : mb < W.heap.size
  l2 : gb < W.heap.size
  l3 : w.heap.size ≤ mb
  ne : gb ≠ mb
  b : Below w.heap.size w W
theorem ChkAt.below {w W W' : World} {gb mb : Nat} {g : GeoS} {y : Bool} (h : ChkAt w W gb mb g y) (hB : Below W.heap.size W W') : ChkAt w W' gb mb g y :=
  ⟨h.geo.below h.l2 hB, (hB.cell (p := ⟨mb, 0, none⟩) h.l1).trans h.may, (hB.frozen (p := ⟨mb, 0, none⟩) h.l1).trans h.fz, Nat.lt_of_lt_of_le h.l1 hB.size, Nat.lt_of_lt_of_le h.l2 hB.size, h.l3, h.ne, h.b.stepL hB h.b.size⟩
theorem ChkAt.ask {w W W' : World} {gb mb : Nat} {g : GeoS} {y y' : Bool} (h : ChkAt w W gb mb g y) (c : W'.cell? ⟨mb, 0, none⟩ = some (.bool y')) (f : W'.frozen? ⟨mb, 0, none⟩ = false) (hO : Only mb W W') : ChkAt w W' gb mb g y' :=
  ⟨⟨(hO.cell (p := ⟨gb, 0, none⟩) h.ne).trans h.geo.1, (hO.cell (p := ⟨gb, 1, none⟩) h.ne).trans h.geo.2.1, (hO.cell (p := ⟨gb, 2, none⟩) h.ne).trans h.geo.2.2.1, (hO.cell (p := ⟨gb, 3, none⟩) h.ne).trans h.geo.2.2.2.1, (hO.cell (p := ⟨gb, 4, none⟩) h.ne).trans h.geo.2.2.2.2.1, (hO.cell (p := ⟨gb, 5, none⟩) h.ne).trans h.geo.2.2.2.2.2⟩, c, f, by rw [hO.size]; exact h.l1, by rw [hO.size]; exact h.l2, h.l3, h.ne, h.b.trans (hO.below h.l3)⟩
theorem chk_laid (w : World) (g : GeoS) (e e2 : Nat) (y : Bool) : ChkAt w ((w.alloc (.cells (cellsG g) e)).alloc (.cells #[.bool y] e2)) w.heap.size (w.heap.size + 1) g y := by
  have B0 := belL (w.alloc (.cells (cellsG g) e)) (.cells #[.bool y] e2)
  obtain ⟨h1, h2⟩ := geo_laid w g e _ B0
  refine ⟨h1, ?_, ?_, by simp, by simp; omega, by omega, by omega, h2⟩
  · simp
  · have hs : (w.alloc (.cells (cellsG g) e)).heap.size = w.heap.size + 1 := by simp
    rw [← hs]
    simp [go_sem]
theorem chl_all {k m z s t o : Int} {y : Bool} {n : Int} (hn : okK k m → n = k + m) (h : (decide (okK k m) && decide (1 ≤ n ∧ n ≤ 32) && decide (1 ≤ z ∧ z ≤ 4096) && decide (1 ≤ s ∧ s ≤ 256) && decide (1 ≤ t ∧ t ≤ 64) && decide (1 ≤ o ∧ o ≤ 64)) = y) : chG ⟨k, m, z, s, t, o⟩ = if y = true then 0 else 50 := by
  subst h
  unfold chG
  by_cases ho : okG ⟨k, m, z, s, t, o⟩
  · rw [if_pos ho, if_pos]
    obtain ⟨o1, o2, o3, o4, o5, o6, o7, o8, o9, o10, o11⟩ := ho
    simp only at o1 o2 o3 o4 o5 o6 o7 o8 o9 o10 o11
    have hk : okK k m := by unfold okK; omega
    have e := hn hk
    simp only [Bool.and_eq_true, decide_eq_true_eq]
    exact ⟨⟨⟨⟨⟨hk, by omega⟩, by omega⟩, by omega⟩, by omega⟩, by omega⟩
  · rw [if_neg ho, if_neg]
    intro h
    simp only [Bool.and_eq_true, decide_eq_true_eq] at h
    obtain ⟨⟨⟨⟨⟨hk, h1⟩, h2⟩, h3⟩, h4⟩, h5⟩ := h
    have e := hn hk
    unfold okK at hk
    exact ho ⟨by simp only; omega, by simp only; omega, by simp only; omega, by simp only; omega, by simp only; omega, by simp only; omega, by simp only; omega, by simp only; omega, by simp only; omega, by simp only; omega, by simp only; omega⟩
set_option maxRecDepth 100000 in
set_option maxHeartbeats 4000000 in
theorem lcheck_any {w : World} {g : GeoS} (hg : g.Wf) {x : Int} (hx : chG g = x) : Calls Try.prog 11 #[aggG g] w fun e w' => e = .returned (.int .i64 x) ∧ Below w.heap.size w w' := by
  obtain ⟨k, m, z, s, t, o⟩ := g
  have K := fun W => @lchk_any W k m _ rfl
  have KD := fun W => @ldisks_any W ⟨k, m, z, s, t, o⟩ _ rfl
  simp only at KD
  have LA := chk_laid w ⟨k, m, z, s, t, o⟩
  rw [aggE] at KD ⊢
  obtain ⟨n, hn⟩ : ∃ n, Hid (n = IntKind.i64.wrap (k + m)) := ⟨_, rfl⟩
  rw [← hn.out] at KD
  have hn2 : Hid (okK k m → n = k + m) := fun hk => by rw [hn.out, IntKind.wrap_i64]; unfold okK at hk; omega
  clear hn
  obtain ⟨y0, e0⟩ : ∃ y, Hid (decide (okK k m) = y) := ⟨_, rfl⟩
  obtain ⟨y1, e1⟩ : ∃ y, Hid ((y0 && decide (1 ≤ n ∧ n ≤ 32)) = y) := ⟨_, rfl⟩
  obtain ⟨y2, e2⟩ : ∃ y, Hid ((y1 && decide (1 ≤ z ∧ z ≤ 4096)) = y) := ⟨_, rfl⟩
  obtain ⟨y3, e3⟩ : ∃ y, Hid ((y2 && decide (1 ≤ s ∧ s ≤ 256)) = y) := ⟨_, rfl⟩
  obtain ⟨y4, e4⟩ : ∃ y, Hid ((y3 && decide (1 ≤ t ∧ t ≤ 64)) = y) := ⟨_, rfl⟩
  obtain ⟨y5, e5⟩ : ∃ y, Hid ((y4 && decide (1 ≤ o ∧ o ≤ 64)) = y) := ⟨_, rfl⟩
  have EX : Hid (x = if y5 = true then 0 else 50) := by
    show _ = _
    rw [← hx]
    exact chl_all hn2.out (by rw [e0.out, e1.out, e2.out, e3.out, e4.out, e5.out])
  clear hx
  obtain ⟨q, hq⟩ : ∃ q : Int, Hid (q = if okK k m then 0 else 50) := ⟨_, rfl⟩
  rw [← hq.out] at K
  have E0 : (q == 0) = y0 := by
    rw [hq.out, ← e0.out]
    by_cases h : okK k m
    · rw [if_pos h, decide_eq_true h]; rfl
    · rw [if_neg h, decide_eq_false h]; rfl
  go_enter Try.func11, Try.ntmps11
  go_wp2_with fail
  refine (K _).mono ?_
  rintro _ wq ⟨rfl, hwq⟩
  rw [hwq]
  clear hwq wq K
  have C0 : Hid (ChkAt w ((w.alloc (.cells (cellsG ⟨k, m, z, s, t, o⟩) 24)).alloc (.cells #[.bool (q == 0)] 4)) w.heap.size (w.heap.size + 1) ⟨k, m, z, s, t, o⟩ y0) := by
    have := LA 24 4 (q == 0)
    rw [E0] at this ⊢
    exact this
  clear E0 LA
  go_wp2_with fail
  refine (KD _).mono ?_
  rintro _ v0 ⟨rfl, b0⟩
  have C1 := C0.out.below b0
  clear b0 C0 KD
  obtain ⟨x0, x1, x2, x3, x4, x5⟩ := C1.geo
  have xm := C1.may
  have xf := C1.fz
  simp only at x0 x1 x2 x3 x4 x5
  go_wp2_with fail
  refine (lask_any e1.out xm xf).mono ?_
  rintro _ v1 ⟨rfl, cm, cf, O1⟩
  have C2 := C1.ask cm cf O1
  clear x0 x1 x2 x3 x4 x5 xm xf cm cf O1 C1
  obtain ⟨x0, x1, x2, x3, x4, x5⟩ := C2.geo
  have xm := C2.may
  have xf := C2.fz
  simp only at x0 x1 x2 x3 x4 x5
  go_wp2_with fail
  refine (lask_any e2.out xm xf).mono ?_
  rintro _ v2 ⟨rfl, cm, cf, O2⟩
  have C3 := C2.ask cm cf O2
  clear x0 x1 x2 x3 x4 x5 xm xf cm cf O2 C2
  obtain ⟨x0, x1, x2, x3, x4, x5⟩ := C3.geo
  have xm := C3.may
  have xf := C3.fz
  simp only at x0 x1 x2 x3 x4 x5
  go_wp2_with fail
  refine (lask_any e3.out xm xf).mono ?_
  rintro _ v3 ⟨rfl, cm, cf, O3⟩
  have C4 := C3.ask cm cf O3
  clear x0 x1 x2 x3 x4 x5 xm xf cm cf O3 C3
  obtain ⟨x0, x1, x2, x3, x4, x5⟩ := C4.geo
  have xm := C4.may
  have xf := C4.fz
  simp only at x0 x1 x2 x3 x4 x5
  go_wp2_with fail
  refine (lask_any e4.out xm xf).mono ?_
  rintro _ v4 ⟨rfl, cm, cf, O4⟩
  have C5 := C4.ask cm cf O4
  clear x0 x1 x2 x3 x4 x5 xm xf cm cf O4 C4
  obtain ⟨x0, x1, x2, x3, x4, x5⟩ := C5.geo
  have xm := C5.may
  have xf := C5.fz
  simp only at x0 x1 x2 x3 x4 x5
  go_wp2_with fail
  refine (lask_any e5.out xm xf).mono ?_
  rintro _ v5 ⟨rfl, cm, cf, O5⟩
  have C6 := C5.ask cm cf O5
  clear x0 x1 x2 x3 x4 x5 xm xf cm cf O5 C5
  obtain ⟨x0, x1, x2, x3, x4, x5⟩ := C6.geo
  have xm := C6.may
  have xf := C6.fz
  simp only at x0 x1 x2 x3 x4 x5
  have F := C6.b
  clear C6
  cases y5
  · have X := EX.out
    simp only [Bool.false_eq_true, if_false] at X
    subst X
    go_wp2
    go_ret
    exact ⟨rfl, F⟩
  · have X := EX.out
    simp only [if_true] at X
    subst X
    go_wp2
    go_ret
    exact ⟨rfl, F⟩
end Go.Proofs.Ytndlfmofjmieaaa.Gf

namespace Go.Proofs.Ytndlfmofjmieaaa.Gf
set_option linter.unusedVariables false
set_option linter.unusedSimpArgs false
open Go.RowKit
set_option maxRecDepth 100000 in
set_option maxHeartbeats 1000000 in
theorem lneeds_any {w : World} {g : GeoS} (hg : g.Wf) {b : Int} (hb : (Lit.int .i64 b).wf = true) {x : Int} (hx : neG g b = x) : Calls Try.prog 21 #[aggG g, .int .i64 b] w fun e w' => e = .returned (.int .i64 x) ∧ Below w.heap.size w w' := by
  obtain ⟨k, m, z, s, t, o⟩ := g
  have LA := geo_laid w ⟨k, m, z, s, t, o⟩
  rw [aggE]
  have bk := bounds_i64 hg.k
  have bm := bounds_i64 hg.m
  simp only at bk bm
  have KC := fun W => @lcheck_any W ⟨k, m, z, s, t, o⟩ hg _ rfl
  rw [aggE] at KC
  have bb := bounds_i64 hb
  by_cases h0 : okG ⟨k, m, z, s, t, o⟩
  · rw [show chG ⟨k, m, z, s, t, o⟩ = 0 from if_pos h0] at KC
    have op := one_pos h0
    by_cases b1 : b < 1
    · rw [show neG ⟨k, m, z, s, t, o⟩ b = 0 from if_neg (fun h => by have := h.2; omega)] at hx
      subst hx
      go_enter Try.func21, Try.ntmps21
      go_wp2_with fail
      refine (KC _).mono ?_
      rintro _ w1 ⟨rfl, B1⟩
      obtain ⟨⟨x0, x1, x2, x3, x4, x5⟩, F1⟩ := LA _ _ B1
      simp only at x0 x1 x2 x3 x4 x5
      clear B1 LA KC
      go_wp2
      go_ret
      exact ⟨rfl, F1⟩
    rw [show neG ⟨k, m, z, s, t, o⟩ b = (b - 1) / (k * z) + 1 from if_pos ⟨h0, by omega⟩] at hx
    simp only at op
    obtain ⟨c, hc⟩ : ∃ c, Hid (c = k * z) := ⟨_, rfl⟩
    rw [← hc.out] at op hx
    have gk : IntKind.i64.wrap (k * z) = c := by rw [← hc.out, IntKind.wrap_i64]; omega
    have nz : ¬ c = 0 := by omega
    have nz' : (c == 0) = false := beq_eq_false_iff_ne.2 nz
    have gb : IntKind.i64.wrap (b - 1) = b - 1 := by rw [IntKind.wrap_i64]; omega
    have td : (b - 1).tdiv c = (b - 1) / c := Int.tdiv_eq_ediv_of_nonneg (by omega)
    have e4 := Int.ediv_nonneg (show 0 ≤ b - 1 by omega) (show 0 ≤ c by omega)
    have e5 : (b - 1) / c ≤ b - 1 := Int.ediv_le_self _ (by omega)
    have gd : IntKind.i64.wrap ((b - 1) / c) = (b - 1) / c := by rw [IntKind.wrap_i64]; omega
    have g5 : IntKind.i64.wrap ((b - 1) / c + 1) = (b - 1) / c + 1 := by rw [IntKind.wrap_i64]; omega
    clear e4 e5
    subst hx
    go_enter Try.func21, Try.ntmps21
    go_wp2_with fail
    refine (KC _).mono ?_
    rintro _ w1 ⟨rfl, B1⟩
    obtain ⟨⟨x0, x1, x2, x3, x4, x5⟩, F1⟩ := LA _ _ B1
    simp only at x0 x1 x2 x3 x4 x5
    clear B1 LA KC
    go_wp2
    go_ret
    exact ⟨rfl, F1⟩
  · rw [show chG ⟨k, m, z, s, t, o⟩ = 50 from if_neg h0] at KC
    rw [show neG ⟨k, m, z, s, t, o⟩ b = 0 from if_neg (fun h => h0 h.1)] at hx
    subst hx
    go_enter Try.func21, Try.ntmps21
    go_wp2_with fail
    refine (KC _).mono ?_
    rintro _ w1 ⟨rfl, B1⟩
    obtain ⟨⟨x0, x1, x2, x3, x4, x5⟩, F1⟩ := LA _ _ B1
    simp only at x0 x1 x2 x3 x4 x5
    clear B1 LA KC
    go_wp2
    go_ret
    exact ⟨rfl, F1⟩
end Go.Proofs.Ytndlfmofjmieaaa.Gf
