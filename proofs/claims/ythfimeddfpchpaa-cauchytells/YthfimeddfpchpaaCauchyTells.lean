/- PROVED: for all numbers k and m the call CauchyTells(k, m) returns true; no conditions. -/
import Derived.Test.YthfimeddfpchpaaRows
import Derived.Test.YthfimeddfpchpaaCaAwake
import Derived.Test.YthfimeddfpchpaaCaBoth
import Derived.Test.YthfimeddfpchpaaMxRSame
import Derived.WalkKit
import Derived.ProofKit
import Derived.OpenShut
import Derived.ShutString
namespace Go.Proofs.Ythfimeddfpchpaa.cauchyTells
open Go.ChangeShapes Go.WideShapes Go.ChangeAt Go.RowKit
open Go.ChangeMaps (open_string shut_string)
set_option linter.unusedVariables false      -- a walk need not use every 'w<i>' (that an integer argument fits its kind)

theorem own : ownKnob Try.prog.godebug = none := by kernel_rfl

open Gf
set_option linter.unusedSimpArgs false
set_option maxRecDepth 100000 in
set_option maxHeartbeats 2000000 in
theorem walk (a0 : Int) (a1 : Int) (w0 : (Lit.int .i64 a0).wf = true) (w1 : (Lit.int .i64 a1).wf = true) (w : World) :
    Calls Try.prog 4 #[.int .i64 a0, .int .i64 a1] w fun e w' => e = .returned (.bool true) ∧ Below w.heap.size w w' := by
  obtain ⟨E0, M0, N0⟩ := both_ccheck a0 a1
  obtain ⟨t, hf⟩ := few_some a0 a1
  obtain ⟨R1, C1, L1, E1, M1, N1⟩ := both_par a0 a1
  obtain ⟨R2, C2, L2, E2, M2, N2⟩ := both_gen a0 a1
  obtain ⟨R3, C3, L3, E3, M3, N3⟩ := both_chk a0 a1
  clear w0 w1
  rcases t with _ | _
  · go_enter Try.func4, Try.ntmps4
    have B : Below w.heap.size w w := Below.refl _ _
    go_wp2_with fail
    refine (awake5_any _).mono ?_
    rintro e u1 ⟨rfl, b⟩
    have D : Below (World.heap w |>.size) w u1 := Below.next (by repeat (first | exact Below.refl _ _ | apply Below.draws | apply below_lit)) b
    have sD := D.size
    replace B := Below.next B D
    clear b D sD
    go_wp2_with fail
    refine (new_any _).mono ?_
    rintro e u2 ⟨rfl, F, hO⟩
    have b := hO.below
    clear hO
    have D : Below (World.heap u1 |>.size) u1 u2 := Below.next (by repeat (first | exact Below.refl _ _ | apply Below.draws | apply below_lit)) b
    have sD := D.size
    replace B := Below.next B D
    clear b D sD
    go_wp2_with fail
    refine (M0 _).mono ?_
    rintro e u3 ⟨rfl, b⟩
    have D : Below (World.heap u2 |>.size) u2 u3 := Below.next (by repeat (first | exact Below.refl _ _ | apply Below.draws | apply below_lit)) b
    have sD := D.size
    replace F := F.below D
    replace B := Below.next B D
    clear b D sD
    go_wp2_with fail
    refine (N0 _).mono ?_
    rintro e u4 ⟨rfl, hw⟩
    have b : Below (World.heap u3 |>.size) u3 u4 := hw ▸ Below.refl _ _
    clear hw
    have D : Below (World.heap u3 |>.size) u3 u4 := Below.next (by repeat (first | exact Below.refl _ _ | apply Below.draws | apply below_lit)) b
    have sD := D.size
    replace F := F.below D
    replace B := Below.next B D
    clear b D sD
    go_wp2_with fail
    refine (hf _).mono ?_
    rintro e u5 ⟨rfl, b⟩
    have D : Below (World.heap u4 |>.size) u4 u5 := Below.next (by repeat (first | exact Below.refl _ _ | apply Below.draws | apply below_lit)) b
    have sD := D.size
    replace F := F.below D
    replace B := Below.next B D
    clear b D sD
    go_wp2
    go_ret
    exact ⟨rfl, Below.next B (by repeat (first | exact Below.refl _ _ | apply Below.draws | apply below_lit))⟩
  · go_enter Try.func4, Try.ntmps4
    have B : Below w.heap.size w w := Below.refl _ _
    go_wp2_with fail
    refine (awake5_any _).mono ?_
    rintro e u1 ⟨rfl, b⟩
    have D : Below (World.heap w |>.size) w u1 := Below.next (by repeat (first | exact Below.refl _ _ | apply Below.draws | apply below_lit)) b
    have sD := D.size
    replace B := Below.next B D
    clear b D sD
    go_wp2_with fail
    refine (new_any _).mono ?_
    rintro e u2 ⟨rfl, F, hO⟩
    have b := hO.below
    clear hO
    have D : Below (World.heap u1 |>.size) u1 u2 := Below.next (by repeat (first | exact Below.refl _ _ | apply Below.draws | apply below_lit)) b
    have sD := D.size
    replace B := Below.next B D
    clear b D sD
    go_wp2_with fail
    refine (M0 _).mono ?_
    rintro e u3 ⟨rfl, b⟩
    have D : Below (World.heap u2 |>.size) u2 u3 := Below.next (by repeat (first | exact Below.refl _ _ | apply Below.draws | apply below_lit)) b
    have sD := D.size
    replace F := F.below D
    replace B := Below.next B D
    clear b D sD
    go_wp2_with fail
    refine (N0 _).mono ?_
    rintro e u4 ⟨rfl, hw⟩
    have b : Below (World.heap u3 |>.size) u3 u4 := hw ▸ Below.refl _ _
    clear hw
    have D : Below (World.heap u3 |>.size) u3 u4 := Below.next (by repeat (first | exact Below.refl _ _ | apply Below.draws | apply below_lit)) b
    have sD := D.size
    replace F := F.below D
    replace B := Below.next B D
    clear b D sD
    go_wp2_with fail
    refine (hf _).mono ?_
    rintro e u5 ⟨rfl, b⟩
    have D : Below (World.heap u4 |>.size) u4 u5 := Below.next (by repeat (first | exact Below.refl _ _ | apply Below.draws | apply below_lit)) b
    have sD := D.size
    replace F := F.below D
    replace B := Below.next B D
    clear b D sD
    go_wp2_with fail
    refine (M1 _ _ (F.below (by repeat (first | exact Below.refl _ _ | apply Below.draws | apply below_lit)))).mono ?_
    rintro e u6 ⟨va, rfl, Ra, b⟩
    have D : Below (World.heap u5 |>.size) u5 u6 := Below.next (by repeat (first | exact Below.refl _ _ | apply Below.draws | apply below_lit)) b
    have sD := D.size
    replace F := F.below D
    replace B := Below.next B D
    clear b D sD
    obtain ⟨aa, ca, rfl⟩ := Ra.form
    go_wp2_with fail
    refine (N1 _).mono ?_
    rintro e u7 ⟨vb, rfl, Rb, b⟩
    have D : Below (World.heap u6 |>.size) u6 u7 := Below.next (by repeat (first | exact Below.refl _ _ | apply Below.draws | apply below_lit)) b
    have sD := D.size
    replace F := F.below D
    replace Ra := Ra.below D
    have Xa : Box u7 (World.heap u6 |>.size) _ _ _ := Below.box b (by simp <;> omega) (by first | exact Box.new _ _ _ _ _ | exact (Box.new _ _ _ _ _).alloc (by simp) _ | exact ((Box.new _ _ _ _ _).alloc (by simp) _).alloc (by simp <;> omega) _)
    have la : (World.heap u6 |>.size) < (World.heap u7 |>.size) := by have := b.size; simp at this; omega
    replace B := Below.next B D
    clear b D sD
    have xa0 := Xa.c0
    have xa1 := Xa.c1
    have xa2 := Xa.c2
    obtain ⟨ab, cb, rfl⟩ := Rb.form
    go_wp2_with fail
    refine (M2 _ _ (F.below (by repeat (first | exact Below.refl _ _ | apply Below.draws | apply below_lit)))).mono ?_
    rintro e u8 ⟨vc, rfl, Rc, b⟩
    clear xa0 xa1 xa2
    have D : Below (World.heap u7 |>.size) u7 u8 := Below.next (by repeat (first | exact Below.refl _ _ | apply Below.draws | apply below_lit)) b
    have sD := D.size
    replace F := F.below D
    replace Ra := Ra.below D
    replace Rb := Rb.below D
    replace Xa := Xa.below la D
    replace la := Nat.lt_of_lt_of_le la sD
    have Xb : Box u8 (World.heap u7 |>.size) _ _ _ := Below.box b (by simp <;> omega) (by first | exact Box.new _ _ _ _ _ | exact (Box.new _ _ _ _ _).alloc (by simp) _ | exact ((Box.new _ _ _ _ _).alloc (by simp) _).alloc (by simp <;> omega) _)
    have lb : (World.heap u7 |>.size) < (World.heap u8 |>.size) := by have := b.size; simp at this; omega
    replace B := Below.next B D
    clear b D sD
    have xa0 := Xa.c0
    have xa1 := Xa.c1
    have xa2 := Xa.c2
    have xb0 := Xb.c0
    have xb1 := Xb.c1
    have xb2 := Xb.c2
    obtain ⟨ac, cc, rfl⟩ := Rc.form
    go_wp2_with fail
    refine (N2 _).mono ?_
    rintro e u9 ⟨vd, rfl, Rd, b⟩
    clear xa0 xa1 xa2 xb0 xb1 xb2
    have D : Below (World.heap u8 |>.size) u8 u9 := Below.next (by repeat (first | exact Below.refl _ _ | apply Below.draws | apply below_lit)) b
    have sD := D.size
    replace F := F.below D
    replace Ra := Ra.below D
    replace Rb := Rb.below D
    replace Rc := Rc.below D
    replace Xa := Xa.below la D
    replace la := Nat.lt_of_lt_of_le la sD
    replace Xb := Xb.below lb D
    replace lb := Nat.lt_of_lt_of_le lb sD
    have Xc : Box u9 (World.heap u8 |>.size) _ _ _ := Below.box b (by simp <;> omega) (by first | exact Box.new _ _ _ _ _ | exact (Box.new _ _ _ _ _).alloc (by simp) _ | exact ((Box.new _ _ _ _ _).alloc (by simp) _).alloc (by simp <;> omega) _)
    have lc : (World.heap u8 |>.size) < (World.heap u9 |>.size) := by have := b.size; simp at this; omega
    replace B := Below.next B D
    clear b D sD
    have xa0 := Xa.c0
    have xa1 := Xa.c1
    have xa2 := Xa.c2
    have xb0 := Xb.c0
    have xb1 := Xb.c1
    have xb2 := Xb.c2
    have xc0 := Xc.c0
    have xc1 := Xc.c1
    have xc2 := Xc.c2
    obtain ⟨ad, cd, rfl⟩ := Rd.form
    go_wp2_with fail
    refine (M3 _ _ (F.below (by repeat (first | exact Below.refl _ _ | apply Below.draws | apply below_lit)))).mono ?_
    rintro e u10 ⟨vx, rfl, Rx, b⟩
    clear xa0 xa1 xa2 xb0 xb1 xb2 xc0 xc1 xc2
    have D : Below (World.heap u9 |>.size) u9 u10 := Below.next (by repeat (first | exact Below.refl _ _ | apply Below.draws | apply below_lit)) b
    have sD := D.size
    replace F := F.below D
    replace Ra := Ra.below D
    replace Rb := Rb.below D
    replace Rc := Rc.below D
    replace Rd := Rd.below D
    replace Xa := Xa.below la D
    replace la := Nat.lt_of_lt_of_le la sD
    replace Xb := Xb.below lb D
    replace lb := Nat.lt_of_lt_of_le lb sD
    replace Xc := Xc.below lc D
    replace lc := Nat.lt_of_lt_of_le lc sD
    have Xd : Box u10 (World.heap u9 |>.size) _ _ _ := Below.box b (by simp <;> omega) (by first | exact Box.new _ _ _ _ _ | exact (Box.new _ _ _ _ _).alloc (by simp) _ | exact ((Box.new _ _ _ _ _).alloc (by simp) _).alloc (by simp <;> omega) _)
    have ld : (World.heap u9 |>.size) < (World.heap u10 |>.size) := by have := b.size; simp at this; omega
    replace B := Below.next B D
    clear b D sD
    have xa0 := Xa.c0
    have xa1 := Xa.c1
    have xa2 := Xa.c2
    have xb0 := Xb.c0
    have xb1 := Xb.c1
    have xb2 := Xb.c2
    have xc0 := Xc.c0
    have xc1 := Xc.c1
    have xc2 := Xc.c2
    have xd0 := Xd.c0
    have xd1 := Xd.c1
    have xd2 := Xd.c2
    obtain ⟨ax, cx, rfl⟩ := Rx.form
    go_wp2_with fail
    refine (N3 _).mono ?_
    rintro e u11 ⟨vy, rfl, Ry, b⟩
    clear xa0 xa1 xa2 xb0 xb1 xb2 xc0 xc1 xc2 xd0 xd1 xd2
    have D : Below (World.heap u10 |>.size) u10 u11 := Below.next (by repeat (first | exact Below.refl _ _ | apply Below.draws | apply below_lit)) b
    have sD := D.size
    replace F := F.below D
    replace Ra := Ra.below D
    replace Rb := Rb.below D
    replace Rc := Rc.below D
    replace Rd := Rd.below D
    replace Rx := Rx.below D
    replace Xa := Xa.below la D
    replace la := Nat.lt_of_lt_of_le la sD
    replace Xb := Xb.below lb D
    replace lb := Nat.lt_of_lt_of_le lb sD
    replace Xc := Xc.below lc D
    replace lc := Nat.lt_of_lt_of_le lc sD
    replace Xd := Xd.below ld D
    replace ld := Nat.lt_of_lt_of_le ld sD
    have Xx : Box u11 (World.heap u10 |>.size) _ _ _ := Below.box b (by simp <;> omega) (by first | exact Box.new _ _ _ _ _ | exact (Box.new _ _ _ _ _).alloc (by simp) _ | exact ((Box.new _ _ _ _ _).alloc (by simp) _).alloc (by simp <;> omega) _)
    have lx : (World.heap u10 |>.size) < (World.heap u11 |>.size) := by have := b.size; simp at this; omega
    replace B := Below.next B D
    clear b D sD
    have xa0 := Xa.c0
    have xa1 := Xa.c1
    have xa2 := Xa.c2
    have xb0 := Xb.c0
    have xb1 := Xb.c1
    have xb2 := Xb.c2
    have xc0 := Xc.c0
    have xc1 := Xc.c1
    have xc2 := Xc.c2
    have xd0 := Xd.c0
    have xd1 := Xd.c1
    have xd2 := Xd.c2
    have xx0 := Xx.c0
    have xx1 := Xx.c1
    have xx2 := Xx.c2
    obtain ⟨ay, cy, rfl⟩ := Ry.form
    go_wp2_with fail
    refine (same3 ⟨_, rfl, (Ra.below (by repeat (first | exact Below.refl _ _ | apply Below.draws | apply below_lit)))⟩ ⟨_, rfl, (Rb.below (by repeat (first | exact Below.refl _ _ | apply Below.draws | apply below_lit)))⟩).mono ?_
    rintro e u12 ⟨rfl, b⟩
    clear xa0 xa1 xa2 xb0 xb1 xb2 xc0 xc1 xc2 xd0 xd1 xd2 xx0 xx1 xx2
    have D : Below (World.heap u11 |>.size) u11 u12 := Below.next (by repeat (first | exact Below.refl _ _ | apply Below.draws | apply below_lit)) b
    have sD := D.size
    replace F := F.below D
    replace Ra := Ra.below D
    replace Rb := Rb.below D
    replace Rc := Rc.below D
    replace Rd := Rd.below D
    replace Rx := Rx.below D
    replace Ry := Ry.below D
    replace Xa := Xa.below la D
    replace la := Nat.lt_of_lt_of_le la sD
    replace Xb := Xb.below lb D
    replace lb := Nat.lt_of_lt_of_le lb sD
    replace Xc := Xc.below lc D
    replace lc := Nat.lt_of_lt_of_le lc sD
    replace Xd := Xd.below ld D
    replace ld := Nat.lt_of_lt_of_le ld sD
    replace Xx := Xx.below lx D
    replace lx := Nat.lt_of_lt_of_le lx sD
    have Xy : Box u12 (World.heap u11 |>.size) _ _ _ := Below.box b (by simp <;> omega) (by first | exact Box.new _ _ _ _ _ | exact (Box.new _ _ _ _ _).alloc (by simp) _ | exact ((Box.new _ _ _ _ _).alloc (by simp) _).alloc (by simp <;> omega) _)
    have ly : (World.heap u11 |>.size) < (World.heap u12 |>.size) := by have := b.size; simp at this; omega
    replace B := Below.next B D
    clear b D sD
    have xa0 := Xa.c0
    have xa1 := Xa.c1
    have xa2 := Xa.c2
    have xb0 := Xb.c0
    have xb1 := Xb.c1
    have xb2 := Xb.c2
    have xc0 := Xc.c0
    have xc1 := Xc.c1
    have xc2 := Xc.c2
    have xd0 := Xd.c0
    have xd1 := Xd.c1
    have xd2 := Xd.c2
    have xx0 := Xx.c0
    have xx1 := Xx.c1
    have xx2 := Xx.c2
    have xy0 := Xy.c0
    have xy1 := Xy.c1
    have xy2 := Xy.c2
    go_wp2_with fail
    refine (same3 ⟨_, rfl, (Rc.below (by repeat (first | exact Below.refl _ _ | apply Below.draws | apply below_lit)))⟩ ⟨_, rfl, (Rd.below (by repeat (first | exact Below.refl _ _ | apply Below.draws | apply below_lit)))⟩).mono ?_
    rintro e u13 ⟨rfl, b⟩
    clear xa0 xa1 xa2 xb0 xb1 xb2 xc0 xc1 xc2 xd0 xd1 xd2 xx0 xx1 xx2 xy0 xy1 xy2
    have D : Below (World.heap u12 |>.size) u12 u13 := Below.next (by repeat (first | exact Below.refl _ _ | apply Below.draws | apply below_lit)) b
    have sD := D.size
    replace F := F.below D
    replace Ra := Ra.below D
    replace Rb := Rb.below D
    replace Rc := Rc.below D
    replace Rd := Rd.below D
    replace Rx := Rx.below D
    replace Ry := Ry.below D
    replace Xa := Xa.below la D
    replace la := Nat.lt_of_lt_of_le la sD
    replace Xb := Xb.below lb D
    replace lb := Nat.lt_of_lt_of_le lb sD
    replace Xc := Xc.below lc D
    replace lc := Nat.lt_of_lt_of_le lc sD
    replace Xd := Xd.below ld D
    replace ld := Nat.lt_of_lt_of_le ld sD
    replace Xx := Xx.below lx D
    replace lx := Nat.lt_of_lt_of_le lx sD
    replace Xy := Xy.below ly D
    replace ly := Nat.lt_of_lt_of_le ly sD
    replace B := Below.next B D
    clear b D sD
    have xa0 := Xa.c0
    have xa1 := Xa.c1
    have xa2 := Xa.c2
    have xb0 := Xb.c0
    have xb1 := Xb.c1
    have xb2 := Xb.c2
    have xc0 := Xc.c0
    have xc1 := Xc.c1
    have xc2 := Xc.c2
    have xd0 := Xd.c0
    have xd1 := Xd.c1
    have xd2 := Xd.c2
    have xx0 := Xx.c0
    have xx1 := Xx.c1
    have xx2 := Xx.c2
    have xy0 := Xy.c0
    have xy1 := Xy.c1
    have xy2 := Xy.c2
    go_wp2_with fail
    refine (same3 ⟨_, rfl, (Rx.below (by repeat (first | exact Below.refl _ _ | apply Below.draws | apply below_lit)))⟩ ⟨_, rfl, (Ry.below (by repeat (first | exact Below.refl _ _ | apply Below.draws | apply below_lit)))⟩).mono ?_
    rintro e u14 ⟨rfl, b⟩
    clear xa0 xa1 xa2 xb0 xb1 xb2 xc0 xc1 xc2 xd0 xd1 xd2 xx0 xx1 xx2 xy0 xy1 xy2
    have D : Below (World.heap u13 |>.size) u13 u14 := Below.next (by repeat (first | exact Below.refl _ _ | apply Below.draws | apply below_lit)) b
    have sD := D.size
    replace F := F.below D
    replace Ra := Ra.below D
    replace Rb := Rb.below D
    replace Rc := Rc.below D
    replace Rd := Rd.below D
    replace Rx := Rx.below D
    replace Ry := Ry.below D
    replace Xa := Xa.below la D
    replace la := Nat.lt_of_lt_of_le la sD
    replace Xb := Xb.below lb D
    replace lb := Nat.lt_of_lt_of_le lb sD
    replace Xc := Xc.below lc D
    replace lc := Nat.lt_of_lt_of_le lc sD
    replace Xd := Xd.below ld D
    replace ld := Nat.lt_of_lt_of_le ld sD
    replace Xx := Xx.below lx D
    replace lx := Nat.lt_of_lt_of_le lx sD
    replace Xy := Xy.below ly D
    replace ly := Nat.lt_of_lt_of_le ly sD
    replace B := Below.next B D
    clear b D sD
    have xa0 := Xa.c0
    have xa1 := Xa.c1
    have xa2 := Xa.c2
    have xb0 := Xb.c0
    have xb1 := Xb.c1
    have xb2 := Xb.c2
    have xc0 := Xc.c0
    have xc1 := Xc.c1
    have xc2 := Xc.c2
    have xd0 := Xd.c0
    have xd1 := Xd.c1
    have xd2 := Xd.c2
    have xx0 := Xx.c0
    have xx1 := Xx.c1
    have xx2 := Xx.c2
    have xy0 := Xy.c0
    have xy1 := Xy.c1
    have xy2 := Xy.c2
    go_wp2
    go_ret
    exact ⟨rfl, Below.next B (by repeat (first | exact Below.refl _ _ | apply Below.draws | apply below_lit))⟩

/-! ### THE ROW's STEP: WRITTEN OUT: LEAVE IT -/
set_option maxRecDepth 100000 in
theorem lifted (os : Os) (started : os.Started) (H : Type) (enc : TypeId × Value → H) :
    ReturnsInHanded {} Try.checked os 4 .any (Rows.cauchyTellsSpec.pre6 enc Try.prog Try.f4 Rows.cauchyTellsRow.domain false) (Rows.cauchyTellsSpec.post enc Try.prog Try.f4 false true false false) := by
  refine returnsInHanded_of_change (C := Try.checked) own started (by kernel_rfl) Try.func4
    (ChangeSpec.witness6 (enc := enc) (C := Try.checked) false ⟨#[], #[.int .i64 0, .int .i64 0], []⟩ 8 (by kernel_rfl) (by kernel_rfl) (by kernel_rfl) (by kernel_rfl)) ?_
  intro W base args ds gs before hval0 hW hcnd _
  have hval : ∀ (j : Nat) t v, Try.f4.params[j]? = some t → args[j]? = some v → Value.okWide Try.prog W .any base t v := hval0
  have hW' := hW
  obtain ⟨p, q, hA0, hV, rfl, hfz, hnd⟩ := hW
  have hA : DataW.TrodAll enc Try.prog W 0 (fun _ => true) true Try.f4.params.toList args.toList ds p := hA0
  rw [Try.params4] at hA hval
  obtain ⟨v0, vs0, d0, ds0, p0, q0, hargs, rfl, rfl, h0, r0⟩ := trodAll_cons hA
  obtain ⟨v1, vs1, d1, ds1, p1, q1, rfl, rfl, rfl, h1, r1⟩ := trodAll_cons r0
  obtain ⟨rfl, rfl, rfl⟩ := trodAll_nil r1
  obtain rfl : args = #[v0, v1] := by cases args; simp_all
  obtain ⟨rfl, rfl⟩ := trodVars_none hV
  obtain ⟨a0, rfl, rfl, rfl, w0⟩ := open_int Try.underlying3 (hval 0 3 v0 rfl rfl) h0
  obtain ⟨a1, rfl, rfl, rfl, w1⟩ := open_int Try.underlying3 (hval 1 3 v1 rfl rfl) h1
  clear hA0 hval0
  simp only [List.append_nil] at hW'
  refine (walk a0 a1 w0 w1 W).mono fun e W' ⟨he, hg⟩ => ?_
  subst he
  exact ⟨_, rfl, _, _, _, [], _, [], hW', trodAll_mk1 (shut_bool Try.underlying4 _), (trodAll_cons_mk (shut_int Try.underlying3 w0) (trodAll_cons_mk (shut_int Try.underlying3 w1) trodAll_mk0)), rfl, hg.frame _, fun h => by cases h⟩

theorem over : Rows.cauchyTellsRow.holds Try.pinned (OpenSpec.ofChange Rows.cauchyTellsSpec) :=
  OpenClaim.holds_of_wide 4 Try.f4 rfl rfl rfl rfl rfl rfl rfl ⟨rfl, rfl, rfl, rfl, rfl⟩ rfl rfl rfl rfl rfl (by kernel_rfl) Try.func4 (by kernel_rfl)
    (of_decide_eq_true (by kernel_rfl)) (by unfold Func.isWrapper; first | (rw [if_pos (by decide +kernel)]; kernel_rfl) | (rw [if_neg (by decide +kernel)]; exact ⟨rfl, rfl⟩))
    (fun os started H enc _ => lifted os started H enc)

/-- ████ THE STATEMENT ████ -/
theorem proved : Rows.CauchyTellsSaid :=
  over
end Go.Proofs.Ythfimeddfpchpaa.cauchyTells
namespace Go.Proofs.Ythfimeddfpchpaa
theorem cauchyTells_holds : Rows.CauchyTellsSaid := cauchyTells.proved
#print axioms cauchyTells_holds
end Go.Proofs.Ythfimeddfpchpaa
