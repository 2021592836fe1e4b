/-
  THE STATEMENTS' HEAD OF LAYER 3 BY CONTRACT: 'awake' answers true.
-/
import Derived.Test.YtljbecalobnkbaaMxCode
import Derived.Test.YtljbecalobnkbaaMxRSame
namespace Go.Proofs.Ytljbecalobnkbaa.Gf
set_option linter.unusedVariables false
set_option linter.unusedSimpArgs false
open Go.RowKit

theorem ok_a : OkM ((2 : Nat) : Int) ((2 : Nat) : Int) [1, 2, 3, 4] := okM_mk (by decide) (by decide) rfl
theorem ok_i : OkM ((2 : Nat) : Int) ((2 : Nat) : Int) (flat 2 2 one) := okM_mk (by decide) (by decide) (flat_length _ _ _)
theorem aw_mul : flat 2 2 (mm 2 (en 2 [1, 2, 3, 4]) (en 2 (flat 2 2 one))) = [1, 2, 3, 4] := by decide +kernel
theorem aw_inv : IsInv 1 (en 1 [2]) (fun _ _ => 142) := by
  refine ⟨fun i j hi hj => ?_, fun i j hi hj => ?_⟩
  all_goals
    obtain rfl : i = 0 := by omega
    obtain rfl : j = 0 := by omega
    decide +kernel
theorem aw_v (V : Mx) (h : IsInv 1 (en 1 [2]) V) : flat 1 1 V = [142] := by
  rw [flat_congr (G := fun _ _ => 142) (fun i j hi hj => aw_inv.unique h i j hi hj)]
  decide +kernel
theorem aw_pick : flat 1 2 (pickF 2 [1, 2, 3, 4] [1]) = [3, 4] := by decide +kernel
theorem aw_in : AllIn 2 [1] := fun i hi => by
  obtain rfl : i = 0 := by simp at hi; exact hi
  decide
theorem ok_2 : OkM ((1 : Nat) : Int) ((1 : Nat) : Int) [2] := okM_mk (by decide) (by decide) rfl
theorem ok_1 : OkM ((2 : Nat) : Int) ((2 : Nat) : Int) [1, 1, 1, 1] := okM_mk (by decide) (by decide) rfl
theorem not_ok : ¬ OkM 1 1 [] := fun h => by have := h.2.2.2.2; simp at this
theorem aw_sing (V : Mx) (h : IsInv 2 (en 2 [1, 1, 1, 1]) V) : False :=
  h.rows_apart (i := 0) (j := 1) (by decide) (by decide) (by decide) fun k hk => by
    match k, hk with
    | 0, _ => rfl
    | 1, _ => rfl

set_option maxRecDepth 100000 in
set_option maxHeartbeats 4000000 in
theorem awake3_any (w : World) : Calls Try.prog 9 #[] w fun e w' => e = .returned (.bool true) ∧ Below w.heap.size w w' := by
  go_enter Try.func9, Try.ntmps9
  have B : Below w.heap.size w w := Below.refl _ _
  go_wp2_with fail
  refine (new_any _).mono ?_
  rintro e u1 ⟨rfl, F, hO⟩
  have b := hO.below
  clear hO
  have D : Below (World.heap w |>.size) w u1 := Below.next (by repeat (first | exact Below.refl _ _ | apply Below.draws | apply below_lit)) b
  have sD := D.size
  replace B := Below.next B D
  clear b D sD
  go_wp2_with fail
  have Ra : Rd (World.alloc u1 (.cells #[.int .u8 1, .int .u8 2, .int .u8 3, .int .u8 4] 5)) (.slice (some ⟨World.heap u1 |>.size, 0, none⟩) 4 4) [1, 2, 3, 4] := rd_lit [1, 2, 3, 4] rfl rfl (by decide)
  have Xa := Box.new (World.alloc u1 (.cells #[.int .u8 1, .int .u8 2, .int .u8 3, .int .u8 4] 5)) 2 2 (.slice (some ⟨World.heap u1 |>.size, 0, none⟩) 4 4) 25
  rw [World.size_alloc] at Xa
  refine (mident_any 2 _ (by decide) rfl).mono ?_
  rintro e u2 ⟨vi, rfl, Ri, b⟩
  have la : (World.heap u1 |>.size) + 1 < (World.heap u2 |>.size) := by have := b.size; simp at this; omega
  replace Ra := (Ra.below (below_lit (Below.refl _ _) _)).below b
  replace Xa := Below.box b (by simp) Xa
  replace F := (F.below (by repeat (first | exact Below.refl _ _ | apply Below.draws | apply below_lit))).below b
  replace B := Below.next (Below.next B (by repeat (first | exact Below.refl _ _ | apply Below.draws | apply below_lit))) b
  clear b
  obtain ⟨ai, ci, rfl⟩ := Ri.form
  have xa0 := Xa.c0
  have xa1 := Xa.c1
  have xa2 := Xa.c2
  go_wp2_with fail
  refine (mmul_ok (F.below (by repeat (first | exact Below.refl _ _ | apply Below.draws | apply below_lit))) ⟨_, rfl, (Ra.below (by repeat (first | exact Below.refl _ _ | apply Below.draws | apply below_lit)))⟩ ⟨_, rfl, (Ri.below (by repeat (first | exact Below.refl _ _ | apply Below.draws | apply below_lit)))⟩ ok_a ok_i).mono ?_
  rintro e u3 ⟨vm, rfl, Rm, b⟩
  clear xa0 xa1 xa2
  have D : Below (World.heap u2 |>.size) u2 u3 := Below.next (by repeat (first | exact Below.refl _ _ | apply Below.draws | apply below_lit)) b
  have sD := D.size
  replace F := F.below D
  replace Ra := Ra.below D
  replace Ri := Ri.below D
  replace Xa := Xa.below la D
  replace la := Nat.lt_of_lt_of_le la sD
  have Xi : Box u3 (World.heap u2 |>.size) _ _ _ := Below.box b (by simp <;> omega) (by first | exact Box.new _ _ _ _ _ | exact (Box.new _ _ _ _ _).alloc (by simp) _ | exact ((Box.new _ _ _ _ _).alloc (by simp) _).alloc (by simp <;> omega) _)
  have li : (World.heap u2 |>.size) < (World.heap u3 |>.size) := by have := b.size; simp at this; omega
  replace B := Below.next B D
  clear b D sD
  have xa0 := Xa.c0
  have xa1 := Xa.c1
  have xa2 := Xa.c2
  have xi0 := Xi.c0
  have xi1 := Xi.c1
  have xi2 := Xi.c2
  obtain ⟨am, cm, rfl⟩ := Rm.form
  rw [aw_mul] at Rm
  go_wp2_with fail
  refine (minv_ok (F.below (by repeat (first | exact Below.refl _ _ | apply Below.draws | apply below_lit))) ⟨_, rfl, rd_lit2 [2] (by simp) (by rfl) (by rfl) (by decide)⟩ ok_2).mono ?_
  rintro e u4 (⟨V, hV, vv, rfl, Rv, b⟩ | ⟨hs, _⟩)
  rotate_left
  · exact (aw_inv.no_sing hs).elim
  clear xa0 xa1 xa2 xi0 xi1 xi2
  have D : Below (World.heap u3 |>.size) u3 u4 := Below.next (by repeat (first | exact Below.refl _ _ | apply Below.draws | apply below_lit)) b
  have sD := D.size
  replace F := F.below D
  replace Ra := Ra.below D
  replace Ri := Ri.below D
  replace Rm := Rm.below D
  replace Xa := Xa.below la D
  replace la := Nat.lt_of_lt_of_le la sD
  replace Xi := Xi.below li D
  replace li := Nat.lt_of_lt_of_le li sD
  have Xm : Box u4 (World.heap u3 |>.size) _ _ _ := Below.box b (by simp <;> omega) (by first | exact Box.new _ _ _ _ _ | exact (Box.new _ _ _ _ _).alloc (by simp) _ | exact ((Box.new _ _ _ _ _).alloc (by simp) _).alloc (by simp <;> omega) _)
  have lm : (World.heap u3 |>.size) < (World.heap u4 |>.size) := by have := b.size; simp at this; omega
  replace B := Below.next B D
  clear b D sD
  have xa0 := Xa.c0
  have xa1 := Xa.c1
  have xa2 := Xa.c2
  have xi0 := Xi.c0
  have xi1 := Xi.c1
  have xi2 := Xi.c2
  have xm0 := Xm.c0
  have xm1 := Xm.c1
  have xm2 := Xm.c2
  rw [aw_v V hV] at Rv
  clear hV
  obtain ⟨gv, ov, cv, rfl⟩ := Rv.somewhere (by decide)
  go_wp2_with fail
  refine (minv_ok (F.below (by repeat (first | exact Below.refl _ _ | apply Below.draws | apply below_lit))) ⟨_, rfl, rd_lit2 [1, 1, 1, 1] (by simp) (by rfl) (by rfl) (by decide)⟩ ok_1).mono ?_
  rintro e u5 (⟨V, hV, _⟩ | ⟨_, vs, rfl, Rs, b⟩)
  · exact (aw_sing V hV).elim
  clear xa0 xa1 xa2 xi0 xi1 xi2 xm0 xm1 xm2
  have D : Below (World.heap u4 |>.size) u4 u5 := Below.next (by repeat (first | exact Below.refl _ _ | apply Below.draws | apply below_lit)) b
  have sD := D.size
  replace F := F.below D
  replace Ra := Ra.below D
  replace Ri := Ri.below D
  replace Rm := Rm.below D
  replace Rv := Rv.below D
  replace Xa := Xa.below la D
  replace la := Nat.lt_of_lt_of_le la sD
  replace Xi := Xi.below li D
  replace li := Nat.lt_of_lt_of_le li sD
  replace Xm := Xm.below lm D
  replace lm := Nat.lt_of_lt_of_le lm sD
  have Xv : Box u5 (World.heap u4 |>.size) _ _ _ := Below.box b (by simp <;> omega) (by first | exact Box.new _ _ _ _ _ | exact (Box.new _ _ _ _ _).alloc (by simp) _ | exact ((Box.new _ _ _ _ _).alloc (by simp) _).alloc (by simp <;> omega) _)
  have lv : (World.heap u4 |>.size) < (World.heap u5 |>.size) := by have := b.size; simp at this; omega
  replace B := Below.next B D
  clear b D sD
  have xa0 := Xa.c0
  have xa1 := Xa.c1
  have xa2 := Xa.c2
  have xi0 := Xi.c0
  have xi1 := Xi.c1
  have xi2 := Xi.c2
  have xm0 := Xm.c0
  have xm1 := Xm.c1
  have xm2 := Xm.c2
  have xv0 := Xv.c0
  have xv1 := Xv.c1
  have xv2 := Xv.c2
  obtain ⟨aS, cS, rfl⟩ := Rs.form
  clear Rs
  go_wp2_with fail
  refine (mpick_ok ⟨_, rfl, (Ra.below (by repeat (first | exact Below.refl _ _ | apply Below.draws | apply below_lit)))⟩ (rdI_lit2 [1] (by simp) (by rfl) (by rfl) (by decide)) ok_a (by decide)).mono ?_
  rintro e u6 (⟨_, vp, rfl, Rp, b⟩ | ⟨hn, _⟩)
  rotate_left
  · exact absurd aw_in hn
  clear xa0 xa1 xa2 xi0 xi1 xi2 xm0 xm1 xm2 xv0 xv1 xv2
  have D : Below (World.heap u5 |>.size) u5 u6 := Below.next (by repeat (first | exact Below.refl _ _ | apply Below.draws | apply below_lit)) b
  have sD := D.size
  replace F := F.below D
  replace Ra := Ra.below D
  replace Ri := Ri.below D
  replace Rm := Rm.below D
  replace Rv := Rv.below D
  replace Xa := Xa.below la D
  replace la := Nat.lt_of_lt_of_le la sD
  replace Xi := Xi.below li D
  replace li := Nat.lt_of_lt_of_le li sD
  replace Xm := Xm.below lm D
  replace lm := Nat.lt_of_lt_of_le lm sD
  replace Xv := Xv.below lv D
  replace lv := Nat.lt_of_lt_of_le lv sD
  have Xs : Box u6 (World.heap u5 |>.size) _ _ _ := Below.box b (by simp <;> omega) (by first | exact Box.new _ _ _ _ _ | exact (Box.new _ _ _ _ _).alloc (by simp) _ | exact ((Box.new _ _ _ _ _).alloc (by simp) _).alloc (by simp <;> omega) _)
  have ls : (World.heap u5 |>.size) < (World.heap u6 |>.size) := by have := b.size; simp at this; omega
  replace B := Below.next B D
  clear b D sD
  have xa0 := Xa.c0
  have xa1 := Xa.c1
  have xa2 := Xa.c2
  have xi0 := Xi.c0
  have xi1 := Xi.c1
  have xi2 := Xi.c2
  have xm0 := Xm.c0
  have xm1 := Xm.c1
  have xm2 := Xm.c2
  have xv0 := Xv.c0
  have xv1 := Xv.c1
  have xv2 := Xv.c2
  have xs0 := Xs.c0
  have xs1 := Xs.c1
  have xs2 := Xs.c2
  replace Rp : Rd u6 vp [3, 4] := by rw [← aw_pick]; exact Rp
  obtain ⟨gp, op, cp, rfl⟩ := Rp.somewhere (by decide)
  go_wp2_with fail
  refine (same3 ⟨_, rfl, (Rm.below (by repeat (first | exact Below.refl _ _ | apply Below.draws | apply below_lit)))⟩ ⟨_, rfl, (Ra.below (by repeat (first | exact Below.refl _ _ | apply Below.draws | apply below_lit)))⟩).mono ?_
  rintro e u7 ⟨rfl, b⟩
  clear xa0 xa1 xa2 xi0 xi1 xi2 xm0 xm1 xm2 xv0 xv1 xv2 xs0 xs1 xs2
  have D : Below (World.heap u6 |>.size) u6 u7 := Below.next (by repeat (first | exact Below.refl _ _ | apply Below.draws | apply below_lit)) b
  have sD := D.size
  replace F := F.below D
  replace Ra := Ra.below D
  replace Ri := Ri.below D
  replace Rm := Rm.below D
  replace Rv := Rv.below D
  replace Rp := Rp.below D
  replace Xa := Xa.below la D
  replace la := Nat.lt_of_lt_of_le la sD
  replace Xi := Xi.below li D
  replace li := Nat.lt_of_lt_of_le li sD
  replace Xm := Xm.below lm D
  replace lm := Nat.lt_of_lt_of_le lm sD
  replace Xv := Xv.below lv D
  replace lv := Nat.lt_of_lt_of_le lv sD
  replace Xs := Xs.below ls D
  replace ls := Nat.lt_of_lt_of_le ls sD
  have Xp : Box u7 (World.heap u6 |>.size) _ _ _ := Below.box b (by simp <;> omega) (by first | exact Box.new _ _ _ _ _ | exact (Box.new _ _ _ _ _).alloc (by simp) _ | exact ((Box.new _ _ _ _ _).alloc (by simp) _).alloc (by simp <;> omega) _)
  have lp : (World.heap u6 |>.size) < (World.heap u7 |>.size) := by have := b.size; simp at this; omega
  replace B := Below.next B D
  clear b D sD
  have xa0 := Xa.c0
  have xa1 := Xa.c1
  have xa2 := Xa.c2
  have xi0 := Xi.c0
  have xi1 := Xi.c1
  have xi2 := Xi.c2
  have xm0 := Xm.c0
  have xm1 := Xm.c1
  have xm2 := Xm.c2
  have xv0 := Xv.c0
  have xv1 := Xv.c1
  have xv2 := Xv.c2
  have xs0 := Xs.c0
  have xs1 := Xs.c1
  have xs2 := Xs.c2
  have xp0 := Xp.c0
  have xp1 := Xp.c1
  have xp2 := Xp.c2
  have y1 : World.cell? u7 ⟨gv, ov, none⟩ = some (.int .u8 142) := Rv.cellAt (i := 0) (by decide)
  have y2 : World.cell? u7 ⟨gp, op + 1, none⟩ = some (.int .u8 4) := Rp.cellAt (i := 1) (by decide)
  go_wp2_with fail
  refine (mcheck_bad ⟨_, rfl, rd_none⟩ not_ok).mono ?_
  rintro e u8 ⟨rfl, b⟩
  clear xa0 xa1 xa2 xi0 xi1 xi2 xm0 xm1 xm2 xv0 xv1 xv2 xs0 xs1 xs2 xp0 xp1 xp2
  have D : Below (World.heap u7 |>.size) u7 u8 := Below.next (by repeat (first | exact Below.refl _ _ | apply Below.draws | apply below_lit)) b
  have sD := D.size
  replace F := F.below D
  replace Ra := Ra.below D
  replace Ri := Ri.below D
  replace Rm := Rm.below D
  replace Rv := Rv.below D
  replace Rp := Rp.below D
  replace Xa := Xa.below la D
  replace la := Nat.lt_of_lt_of_le la sD
  replace Xi := Xi.below li D
  replace li := Nat.lt_of_lt_of_le li sD
  replace Xm := Xm.below lm D
  replace lm := Nat.lt_of_lt_of_le lm sD
  replace Xv := Xv.below lv D
  replace lv := Nat.lt_of_lt_of_le lv sD
  replace Xs := Xs.below ls D
  replace ls := Nat.lt_of_lt_of_le ls sD
  replace Xp := Xp.below lp D
  replace lp := Nat.lt_of_lt_of_le lp sD
  replace B := Below.next B D
  clear b D sD
  have xa0 := Xa.c0
  have xa1 := Xa.c1
  have xa2 := Xa.c2
  have xi0 := Xi.c0
  have xi1 := Xi.c1
  have xi2 := Xi.c2
  have xm0 := Xm.c0
  have xm1 := Xm.c1
  have xm2 := Xm.c2
  have xv0 := Xv.c0
  have xv1 := Xv.c1
  have xv2 := Xv.c2
  have xs0 := Xs.c0
  have xs1 := Xs.c1
  have xs2 := Xs.c2
  have xp0 := Xp.c0
  have xp1 := Xp.c1
  have xp2 := Xp.c2
  go_wp2_with fail
  refine (mcheck_ok ⟨_, rfl, (Ra.below (by repeat (first | exact Below.refl _ _ | apply Below.draws | apply below_lit)))⟩ ok_a).mono ?_
  rintro e u9 ⟨rfl, b⟩
  clear xa0 xa1 xa2 xi0 xi1 xi2 xm0 xm1 xm2 xv0 xv1 xv2 xs0 xs1 xs2 xp0 xp1 xp2
  have D : Below (World.heap u8 |>.size) u8 u9 := Below.next (by repeat (first | exact Below.refl _ _ | apply Below.draws | apply below_lit)) b
  have sD := D.size
  replace F := F.below D
  replace Ra := Ra.below D
  replace Ri := Ri.below D
  replace Rm := Rm.below D
  replace Rv := Rv.below D
  replace Rp := Rp.below D
  replace Xa := Xa.below la D
  replace la := Nat.lt_of_lt_of_le la sD
  replace Xi := Xi.below li D
  replace li := Nat.lt_of_lt_of_le li sD
  replace Xm := Xm.below lm D
  replace lm := Nat.lt_of_lt_of_le lm sD
  replace Xv := Xv.below lv D
  replace lv := Nat.lt_of_lt_of_le lv sD
  replace Xs := Xs.below ls D
  replace ls := Nat.lt_of_lt_of_le ls sD
  replace Xp := Xp.below lp D
  replace lp := Nat.lt_of_lt_of_le lp sD
  replace B := Below.next B D
  clear b D sD
  have xa0 := Xa.c0
  have xa1 := Xa.c1
  have xa2 := Xa.c2
  have xi0 := Xi.c0
  have xi1 := Xi.c1
  have xi2 := Xi.c2
  have xm0 := Xm.c0
  have xm1 := Xm.c1
  have xm2 := Xm.c2
  have xv0 := Xv.c0
  have xv1 := Xv.c1
  have xv2 := Xv.c2
  have xs0 := Xs.c0
  have xs1 := Xs.c1
  have xs2 := Xs.c2
  have xp0 := Xp.c0
  have xp1 := Xp.c1
  have xp2 := Xp.c2
  go_wp2
  go_ret
  exact ⟨rfl, Below.next B (by repeat (first | exact Below.refl _ _ | apply Below.draws | apply below_lit))⟩

end Go.Proofs.Ytljbecalobnkbaa.Gf
