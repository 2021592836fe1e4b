/-
  THE STATEMENTS' HEAD OF LAYER 5 BY CONTRACT: 'awake' answers true.
-/
import Derived.Test.YthfimeddfpchpaaCaCode
import Derived.Test.YthfimeddfpchpaaMxRSame
namespace Go.Proofs.Ythfimeddfpchpaa.Gf
set_option linter.unusedVariables false
set_option linter.unusedSimpArgs false
open Go.RowKit

theorem ca_aw1 : flat 1 2 (parF 2) = [142, 244] := by decide +kernel
theorem ca_aw2 : flat (1 + 1) 1 (genF 1) = [1, 1] := by decide +kernel
theorem ca_aw3 : flat 1 (1 + 1) (chkF 1) = [1, 1] := by decide +kernel
theorem not_okC : ¬ OkC 0 1 := fun h => by have := h.1; omega
theorem yes_okC : OkC 256 0 := ⟨by omega, by omega, by omega⟩

set_option maxRecDepth 100000 in
set_option maxHeartbeats 4000000 in
theorem awake5_any (w : World) : Calls Try.prog 9 #[] w fun e w' => e = .returned (.bool true) ∧ Below w.heap.size w w' := by
  go_enter Try.func9, Try.ntmps9
  have B : Below w.heap.size w w := Below.refl _ _
  go_wp2_with fail
  refine (new_any _).mono ?_
  rintro e u1 ⟨rfl, F, hO⟩
  have b := hO.below
  clear hO
  have D : Below (World.heap w |>.size) w u1 := Below.next (by repeat (first | exact Below.refl _ _ | apply Below.draws | apply below_lit)) b
  have sD := D.size
  replace B := Below.next B D
  clear b D sD
  go_wp2_with fail
  refine (cpar_ok 2 1 (F.below (by repeat (first | exact Below.refl _ _ | apply Below.draws | apply below_lit))) (by decide) (by decide) rfl rfl).mono ?_
  rintro e u2 ⟨vp, rfl, Rp, b⟩
  have D : Below (World.heap u1 |>.size) u1 u2 := Below.next (by repeat (first | exact Below.refl _ _ | apply Below.draws | apply below_lit)) b
  have sD := D.size
  replace F := F.below D
  replace B := Below.next B D
  clear b D sD
  rw [ca_aw1] at Rp
  obtain ⟨gp, op, cp, rfl⟩ := Rp.somewhere (by decide)
  go_wp2_with fail
  refine (cgen_ok 1 1 (F.below (by repeat (first | exact Below.refl _ _ | apply Below.draws | apply below_lit))) (by decide) (by decide) rfl rfl).mono ?_
  rintro e u3 ⟨vg, rfl, Rg, b⟩
  have D : Below (World.heap u2 |>.size) u2 u3 := Below.next (by repeat (first | exact Below.refl _ _ | apply Below.draws | apply below_lit)) b
  have sD := D.size
  replace F := F.below D
  replace Rp := Rp.below D
  have Xp : Box u3 (World.heap u2 |>.size) _ _ _ := Below.box b (by simp <;> omega) (by first | exact Box.new _ _ _ _ _ | exact (Box.new _ _ _ _ _).alloc (by simp) _ | exact ((Box.new _ _ _ _ _).alloc (by simp) _).alloc (by simp <;> omega) _)
  have lp : (World.heap u2 |>.size) < (World.heap u3 |>.size) := by have := b.size; simp at this; omega
  replace B := Below.next B D
  clear b D sD
  have xp0 := Xp.c0
  have xp1 := Xp.c1
  have xp2 := Xp.c2
  rw [ca_aw2] at Rg
  obtain ⟨gg, og, cg, rfl⟩ := Rg.somewhere (by decide)
  go_wp2_with fail
  refine (cchk_ok 1 1 (F.below (by repeat (first | exact Below.refl _ _ | apply Below.draws | apply below_lit))) (by decide) (by decide) rfl rfl).mono ?_
  rintro e u4 ⟨vc, rfl, Rc, b⟩
  clear xp0 xp1 xp2
  have D : Below (World.heap u3 |>.size) u3 u4 := Below.next (by repeat (first | exact Below.refl _ _ | apply Below.draws | apply below_lit)) b
  have sD := D.size
  replace F := F.below D
  replace Rp := Rp.below D
  replace Rg := Rg.below D
  replace Xp := Xp.below lp D
  replace lp := Nat.lt_of_lt_of_le lp sD
  have Xg : Box u4 (World.heap u3 |>.size) _ _ _ := Below.box b (by simp <;> omega) (by first | exact Box.new _ _ _ _ _ | exact (Box.new _ _ _ _ _).alloc (by simp) _ | exact ((Box.new _ _ _ _ _).alloc (by simp) _).alloc (by simp <;> omega) _)
  have lg : (World.heap u3 |>.size) < (World.heap u4 |>.size) := by have := b.size; simp at this; omega
  replace B := Below.next B D
  clear b D sD
  have xp0 := Xp.c0
  have xp1 := Xp.c1
  have xp2 := Xp.c2
  have xg0 := Xg.c0
  have xg1 := Xg.c1
  have xg2 := Xg.c2
  rw [ca_aw3] at Rc
  obtain ⟨gc, oc, cc, rfl⟩ := Rc.somewhere (by decide)
  have y1 : World.cell? u4 ⟨gp, op, none⟩ = some (.int .u8 142) := Rp.cellAt (i := 0) (by decide)
  have y2 : World.cell? u4 ⟨gp, op + 1, none⟩ = some (.int .u8 244) := Rp.cellAt (i := 1) (by decide)
  have y3 : World.cell? u4 ⟨gg, og + 1, none⟩ = some (.int .u8 1) := Rg.cellAt (i := 1) (by decide)
  have y4 : World.cell? u4 ⟨gc, oc, none⟩ = some (.int .u8 1) := Rc.cellAt (i := 0) (by decide)
  have qp : gp < (World.heap u4 |>.size) := World.block_lt_of_cell? u4 _ y1
  have qg : gg < (World.heap u4 |>.size) := World.block_lt_of_cell? u4 _ y3
  have qc : gc < (World.heap u4 |>.size) := World.block_lt_of_cell? u4 _ y4
  go_wp2_with fail
  refine (ccheck_bad _ not_okC).mono ?_
  rintro e u5 ⟨rfl, b⟩
  clear xp0 xp1 xp2 xg0 xg1 xg2
  have D : Below (World.heap u4 |>.size) u4 u5 := Below.next (by repeat (first | exact Below.refl _ _ | apply Below.draws | apply below_lit)) b
  have sD := D.size
  replace F := F.below D
  replace Rp := Rp.below D
  replace Rg := Rg.below D
  replace Rc := Rc.below D
  replace Xp := Xp.below lp D
  replace lp := Nat.lt_of_lt_of_le lp sD
  replace Xg := Xg.below lg D
  replace lg := Nat.lt_of_lt_of_le lg sD
  have Xc : Box u5 (World.heap u4 |>.size) _ _ _ := Below.box b (by simp <;> omega) (by first | exact Box.new _ _ _ _ _ | exact (Box.new _ _ _ _ _).alloc (by simp) _ | exact ((Box.new _ _ _ _ _).alloc (by simp) _).alloc (by simp <;> omega) _)
  have lc : (World.heap u4 |>.size) < (World.heap u5 |>.size) := by have := b.size; simp at this; omega
  replace B := Below.next B D
  clear b D sD
  have xp0 := Xp.c0
  have xp1 := Xp.c1
  have xp2 := Xp.c2
  have xg0 := Xg.c0
  have xg1 := Xg.c1
  have xg2 := Xg.c2
  have xc0 := Xc.c0
  have xc1 := Xc.c1
  have xc2 := Xc.c2
  go_wp2_with fail
  refine (ccheck_ok _ yes_okC).mono ?_
  rintro e u6 ⟨rfl, b⟩
  clear xp0 xp1 xp2 xg0 xg1 xg2 xc0 xc1 xc2
  have D : Below (World.heap u5 |>.size) u5 u6 := Below.next (by repeat (first | exact Below.refl _ _ | apply Below.draws | apply below_lit)) b
  have sD := D.size
  replace F := F.below D
  replace Rp := Rp.below D
  replace Rg := Rg.below D
  replace Rc := Rc.below D
  replace Xp := Xp.below lp D
  replace lp := Nat.lt_of_lt_of_le lp sD
  replace Xg := Xg.below lg D
  replace lg := Nat.lt_of_lt_of_le lg sD
  replace Xc := Xc.below lc D
  replace lc := Nat.lt_of_lt_of_le lc sD
  replace B := Below.next B D
  clear b D sD
  have xp0 := Xp.c0
  have xp1 := Xp.c1
  have xp2 := Xp.c2
  have xg0 := Xg.c0
  have xg1 := Xg.c1
  have xg2 := Xg.c2
  have xc0 := Xc.c0
  have xc1 := Xc.c1
  have xc2 := Xc.c2
  go_wp2
  go_ret
  exact ⟨rfl, Below.next B (by repeat (first | exact Below.refl _ _ | apply Below.draws | apply below_lit))⟩

end Go.Proofs.Ythfimeddfpchpaa.Gf
