/-
  THE STATEMENTS' HEAD OF LAYER 6 BY CONTRACT: 'awake' answers true.
-/
import Derived.Test.YtehphjapahdalaaBkEnc
import Derived.Test.YtehphjapahdalaaBkUx
namespace Go.Proofs.Ytehphjapahdalaa.Gf
set_option linter.unusedVariables false
set_option linter.unusedSimpArgs false
open Go.RowKit

theorem bk_aw1 : encX 2 1 [[1], [2]] = 0 := by decide +kernel
theorem bk_aw2 : encR 2 1 [[1], [2]] = [[1], [2], [123]] := by decide +kernel
theorem bk_aw3 : encX 2 1 [[1]] = 60 := by decide +kernel
theorem bk_aw4 : encR 2 1 [[1]] = [] := by decide +kernel
theorem bk_aw5 : fitX 1 1 [[1], [2]] = 0 := by decide +kernel
theorem bk_aw6 : fitB 1 1 [[1], [2]] = false := by decide +kernel
theorem bk_aw7 : updX 1 1 0 [1] [3] [[1]] = 0 := by decide +kernel
theorem bk_aw8 : updY 1 1 0 [1] [3] [[1]] = [[3]] := by decide +kernel

set_option maxRecDepth 100000 in
set_option maxHeartbeats 4000000 in
theorem awake6_any (w : World) : Calls Try.prog 9 #[] w fun e w' => e = .returned (.bool true) ∧ Below w.heap.size w w' := by
  go_enter Try.func9, Try.ntmps9
  have B : Below w.heap.size w w := Below.refl _ _
  go_wp2_with fail
  refine (new_any _).mono ?_
  rintro e u1 ⟨rfl, F, hO⟩
  have b := hO.below
  clear hO
  have D : Below (World.heap w |>.size) w u1 := Below.next (by repeat (first | exact Below.refl _ _ | apply Below.draws | apply below_lit)) b
  replace B := Below.next B D
  clear b D
  go_wp2_with fail
  refine (enc_any (L := [[1], [2]]) (F.below (by repeat (first | exact Below.refl _ _ | apply Below.draws | apply below_lit))) (rs_lit2 (by simp) ((rd_lit2 (w := u1) (cs := #[.int .u8 1]) (e := 5) [1] rfl rfl rfl (by decide)).below (by repeat (first | exact Below.refl _ _ | apply Below.draws | apply below_lit))) (rd_lit2 [2] (by simp) rfl rfl (by decide))) (small_mem (by decide) (by decide))).mono ?_
  rintro e u2 ⟨va, rfl, Ra, b⟩
  rw [bk_aw1]
  rw [bk_aw2] at Ra
  have D : Below (World.heap u1 |>.size) u1 u2 := Below.next (by repeat (first | exact Below.refl _ _ | apply Below.draws | apply below_lit)) b
  replace F := F.below D
  replace B := Below.next B D
  clear b D
  obtain ⟨ga, oa, ca, rfl, _⟩ := Ra.somewhere (by decide)
  go_wp2_with fail
  refine (enc_any (L := [[1]]) (F.below (by repeat (first | exact Below.refl _ _ | apply Below.draws | apply below_lit))) (rs_lit1 (by simp) (rd_lit2 [1] (by simp) rfl rfl (by decide))) (small_mem (by decide) (by decide))).mono ?_
  rintro e u3 ⟨vb, rfl, Rb, b⟩
  rw [bk_aw3]
  rw [bk_aw4] at Rb
  have D : Below (World.heap u2 |>.size) u2 u3 := Below.next (by repeat (first | exact Below.refl _ _ | apply Below.draws | apply below_lit)) b
  replace F := F.below D
  replace Ra := Ra.below D
  replace B := Below.next B D
  clear b D
  obtain ⟨gb, cb, rfl⟩ := Rb.form
  clear Rb
  go_wp2_with fail
  refine (fits_any (L := [[1], [2]]) (F.below (by repeat (first | exact Below.refl _ _ | apply Below.draws | apply below_lit))) (rs_lit2 (by simp) ((rd_lit2 (w := u3) (cs := #[.int .u8 1]) (e := 5) [1] rfl rfl rfl (by decide)).below (by repeat (first | exact Below.refl _ _ | apply Below.draws | apply below_lit))) (rd_lit2 [2] (by simp) rfl rfl (by decide))) (small_mem (by decide) (by decide))).mono ?_
  rintro e u4 ⟨rfl, b⟩
  rw [bk_aw5, bk_aw6]
  have D : Below (World.heap u3 |>.size) u3 u4 := Below.next (by repeat (first | exact Below.refl _ _ | apply Below.draws | apply below_lit)) b
  replace F := F.below D
  replace Ra := Ra.below D
  replace B := Below.next B D
  clear b D
  go_wp2_with fail
  refine (upd_any (p := [1]) (q := [3]) (A := [[1]]) (F.below (by repeat (first | exact Below.refl _ _ | apply Below.draws | apply below_lit))) ((rd_lit2 (w := u4) (cs := #[.int .u8 1]) (e := 5) [1] rfl rfl rfl (by decide)).below (by repeat (first | exact Below.refl _ _ | apply Below.draws | apply below_lit))) ((rd_lit2 (w := u4.alloc (.cells #[.int .u8 1] 5)) (cs := #[.int .u8 3]) (e := 5) [3] (by simp) rfl rfl (by decide)).below (by repeat (first | exact Below.refl _ _ | apply Below.draws | apply below_lit))) (rs_lit1 (by simp) (rd_lit2 [1] (by simp) rfl rfl (by decide))) (small_mem (by decide) (by decide)) (by decide)).mono ?_
  rintro e u5 ⟨vd, rfl, Rd', b⟩
  rw [bk_aw7]
  rw [bk_aw8] at Rd'
  have D : Below (World.heap u4 |>.size) u4 u5 := Below.next (by repeat (first | exact Below.refl _ _ | apply Below.draws | apply below_lit)) b
  replace F := F.below D
  replace Ra := Ra.below D
  replace B := Below.next B D
  clear b D
  obtain ⟨gd, od, cd, rfl, _⟩ := Rd'.somewhere (by decide)
  obtain ⟨xa, xc, c1, r1⟩ := Ra.get (i := 2) (by decide)
  obtain ⟨ya, yc, c2, r2⟩ := Rd'.get (i := 0) (by decide)
  obtain ⟨xb, xo, rfl, _, d1⟩ := r1.byte (i := 0) (by decide)
  obtain ⟨yb, yo, rfl, _, d2⟩ := r2.byte (i := 0) (by decide)
  rw [Nat.add_zero] at c2 d1 d2
  have e1 : (ro [[1], [2], [123]] 2).length = 1 := rfl
  have e2 : (ro [[3]] 0).length = 1 := rfl
  have e3 : (((co (ro [[1], [2], [123]] 2) 0).toNat : Nat) : Int) = 123 := by decide
  have e4 : (((co (ro [[3]] 0) 0).toNat : Nat) : Int) = 3 := by decide
  rw [e1] at c1
  rw [e2] at c2
  rw [e3] at d1
  rw [e4] at d2
  clear r1 r2 e1 e2 e3 e4
  go_wp2
  go_ret
  exact ⟨rfl, Below.next B (by repeat (first | exact Below.refl _ _ | apply Below.draws | apply below_lit))⟩

end Go.Proofs.Ytehphjapahdalaa.Gf
