/- TEXTS JOINED: ReNx. -/
import Derived.Test.YthmoiffkgcnjmaaPome9
namespace Go.Proofs.Ythmoiffkgcnjmaa.Gf
set_option linter.unusedVariables false
set_option linter.unusedSimpArgs false
open Go.RowKit
structure GotN (w1 : World) (G : Nat) (wr : World) (k : Int) (y : List UInt8) (n : Int) (v : Value) (zs : List Int) : Prop where
  c0 : wr.cell? ⟨G, 0, none⟩ = some (.int .i64 k)
  c1 : wr.cell? ⟨G, 1, none⟩ = some (.string ⟨y.toArray⟩)
  c2 : wr.cell? ⟨G, 2, none⟩ = some (.int .i64 n)
  c3 : wr.cell? ⟨G, 3, none⟩ = some v
  fz : ∀ j, wr.frozen? ⟨G, j, none⟩ = false
  own : OwnZ wr w1.heap.size 3 v zs
  tn : Turn G w1 wr
  lg : G < w1.heap.size
section
variable {w1 : World} {G : Nat} {wr w' : World} {k : Int} {y : List UInt8} {n : Int} {v v' : Value} {zs zs' : List Int}
theorem GotN.below (h : GotN w1 G wr k y n v zs) (b : Below wr.heap.size wr w') : GotN w1 G w' k y n v zs := by
  have l : G < wr.heap.size := Nat.lt_of_lt_of_le h.lg h.tn.size
  exact ⟨(b.cell (p := ⟨G, 0, none⟩) l).trans h.c0, (b.cell (p := ⟨G, 1, none⟩) l).trans h.c1, (b.cell (p := ⟨G, 2, none⟩) l).trans h.c2, (b.cell (p := ⟨G, 3, none⟩) l).trans h.c3, fun j => (b.frozen (p := ⟨G, j, none⟩) l).trans (h.fz j), owns_later h.own b, h.tn.trans (Below.turn b G), h.lg⟩
theorem GotN.put2 (h : GotN w1 G wr k y n v zs) (n' : Int) : GotN w1 G (wr.setCell ⟨G, 2, none⟩ (.int .i64 n')) k y n' v zs := by
  have o : Only G wr (wr.setCell ⟨G, 2, none⟩ (.int .i64 n')) := (Only.refl _ _).setCell _ _
  exact ⟨(World.cell?_setCell_other _ _ _ _ (by simp)).trans h.c0, (World.cell?_setCell_other _ _ _ _ (by simp)).trans h.c1, World.cell?_setCell_same _ _ _ h.c2, (World.cell?_setCell_other _ _ _ _ (by simp)).trans h.c3, fun j => (World.frozen?_setCell _ _ _ _).trans (h.fz j), h.own.only o h.lg, h.tn.trans o.turn, h.lg⟩
theorem GotN.spot (h : GotN w1 G wr k y n v zs) (g : Gro wr v w' v') : w'.cell? ⟨G, 3, none⟩ = some v ∧ w'.frozen? ⟨G, 3, none⟩ = false := by
  have nb : v.ownBlock ≠ some G := fun e => by have := (World.ownsRow.lt h.own G e).1; have := h.lg; omega
  have lw : G < wr.heap.size := Nat.lt_of_lt_of_le h.lg h.tn.size
  exact ⟨(g.cell (p := ⟨G, 3, none⟩) lw nb).trans h.c3, (g.frozen (p := ⟨G, 3, none⟩) lw nb).trans (h.fz 3)⟩
theorem GotN.grow (h : GotN w1 G wr k y n v zs) (g : Gro wr v w' v') (o : OwnZ w' w1.heap.size 3 v' zs') : GotN w1 G (w'.setCell ⟨G, 3, none⟩ v') k y n v' zs' := by
  have nb : ∀ b, b < w1.heap.size → v.ownBlock ≠ some b := fun b hb e => by have := (World.ownsRow.lt h.own b e).1; omega
  have lw : ∀ b, b < w1.heap.size → b < wr.heap.size := fun b hb => Nat.lt_of_lt_of_le hb h.tn.size
  have e : ∀ j, w'.cell? ⟨G, j, none⟩ = wr.cell? ⟨G, j, none⟩ := fun j => g.cell (p := ⟨G, j, none⟩) (lw _ h.lg) (nb _ h.lg)
  have O : Only G w' (w'.setCell ⟨G, 3, none⟩ v') := (Only.refl _ _).setCell _ _
  have oth : ∀ j, j ≠ 3 → (w'.setCell ⟨G, 3, none⟩ v').cell? ⟨G, j, none⟩ = w'.cell? ⟨G, j, none⟩ := fun j hj => World.cell?_setCell_other _ _ _ _ (by simp; try omega)
  refine ⟨?_, ?_, ?_, ?_, fun i => (World.frozen?_setCell _ _ _ _).trans ((g.frozen (p := ⟨G, i, none⟩) (lw _ h.lg) (nb _ h.lg)).trans (h.fz i)), o.only O h.lg, ?_, h.lg⟩
  · rw [oth 0 (by omega), e 0, h.c0]
  · rw [oth 1 (by omega), e 1, h.c1]
  · rw [oth 2 (by omega), e 2, h.c2]
  · exact World.cell?_setCell_same _ _ _ ((e 3).trans h.c3)
  · have T1 : Turn G w1 w' := ⟨g.gr.os.trans h.tn.os, g.gr.tape.trans h.tn.tape, g.gr.output.trans h.tn.output, Nat.le_trans h.tn.size g.gr.size, fun i hi hg => (g.gr.block i (lw i hi) (fun e => nb i hi e.symm)).trans (h.tn.block i hi hg)⟩
    exact T1.trans O.turn
end
theorem cut_lh16 (w : World) (a : Option Addr) {n c lo hi : Nat} (h : lo ≤ hi) (h2 : hi ≤ c) : (Instr.slice 26 (.slice a n c) (some (.int .i64 (lo : Int))) (some (.int .i64 (hi : Int))) none).run Try.prog w = .ok (.slice (if c = lo then a else a.map (·.add lo)) (hi - lo) (c - lo)) w := by
  have e := run_slice_lh (P := Try.prog) w 26 a n c und_bytes16 .i64 .i64 (lo : Int) (hi : Int) (by omega) (by omega) (by omega)
  rw [e, elem_bytes16, size_u816]
  simp [sliced]
theorem Rd.mid16 {w : World} {a : Option Addr} {n c lo hi : Nat} {p : List UInt8} (h : Rd w (.slice a n c) p) (h1 : lo ≤ hi) (h2 : hi ≤ n) : Rd w (.slice (if c = lo then a else a.map (·.add lo)) (hi - lo) (c - lo)) ((p.drop lo).take (hi - lo)) :=
  (h.rest16 (k := lo) (by omega)).first16 (by omega)
end Go.Proofs.Ythmoiffkgcnjmaa.Gf
