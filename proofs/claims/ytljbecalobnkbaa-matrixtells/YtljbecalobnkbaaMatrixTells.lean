/- PROVED: for all matrices a and b, every list of rows and every number n the call MatrixTells(a, b, rows, n) returns true, and its arguments read behind it as before; no conditions. -/
import Derived.Test.YtljbecalobnkbaaRows
import Derived.Test.YtljbecalobnkbaaMxAwake
import Derived.Test.YtljbecalobnkbaaMxSmall
import Derived.Test.YtljbecalobnkbaaMxLaws
import Derived.Test.YtljbecalobnkbaaMxBoth
import Derived.Test.YtljbecalobnkbaaMxRSame
import Derived.WalkKit
import Derived.ProofKit
import Derived.OpenShut
import Derived.ShutString
import Derived.ChangeOld
import Derived.Below
import Derived.Lib.SmallJoins
namespace Go.Proofs.Ytljbecalobnkbaa.matrixTells
open Go.ChangeShapes Go.WideShapes Go.ChangeAt Go.RowKit
open Go.ChangeMaps (open_string shut_string)
set_option linter.unusedVariables false

theorem own : ownKnob Try.prog.godebug = none := by kernel_rfl
theorem laidOut : laidOutB Try.prog = true := by kernel_rfl

/-- WHAT THE WALK IS TOLD OF A SLICE OF INTEGERS THAT CAME IN: it is nil; or it leads to a row of 'cap' cells, the numbers 'zs' (the first 'len' are its elements, the rest its spare room), each fitting its kind. -/
def IsRow (k : IntKind) (w : World) (a : Option Addr) (len cap : Nat) (zs : List Int) : Prop :=
  (a = none ∧ len = 0 ∧ cap = 0 ∧ zs = []) ∨
  ∃ x, a = some x ∧ len ≤ cap ∧ cap ≤ maxLen ∧ zs.length = cap ∧ (∀ i, i < zs.length → w.cell? (x.add i) = some (.int k (zs.getD i 0))) ∧ ∀ n ∈ zs, (Lit.int k n).wf = true

open Gf
set_option linter.unusedSimpArgs false
set_option maxRecDepth 100000 in
set_option maxHeartbeats 2000000 in
theorem walk (mr0 mc0 : Int) (a0 : Option Addr) (len0 cap0 : Nat) (z0 : List Int) (mr1 mc1 : Int) (a1 : Option Addr) (len1 cap1 : Nat) (z1 : List Int) (a2 : Option Addr) (len2 cap2 : Nat) (z2 : List Int) (a3 : Int) (w : World) (wr0 : (Lit.int .i64 mr0).wf = true) (wc0 : (Lit.int .i64 mc0).wf = true) (w0 : IsRow .u8 w a0 len0 cap0 z0) (wr1 : (Lit.int .i64 mr1).wf = true) (wc1 : (Lit.int .i64 mc1).wf = true) (w1 : IsRow .u8 w a1 len1 cap1 z1) (w2 : IsRow .i64 w a2 len2 cap2 z2) (w3 : (Lit.int .i64 a3).wf = true) :
    Calls Try.prog 4 #[.agg #[.int .i64 mr0, .int .i64 mc0, .slice a0 len0 cap0], .agg #[.int .i64 mr1, .int .i64 mc1, .slice a1 len1 cap1], .slice a2 len2 cap2, .int .i64 a3] w fun e w' => e = .returned (.bool true) ∧ Below w.heap.size w w' := by
  obtain ⟨La, rfl, Ra⟩ := rd_row w0
  obtain ⟨Lb, rfl, Rb⟩ := rd_row w1
  obtain ⟨zs, rfl, Rz⟩ := rdI_row w2
  obtain ⟨R1, C1, L1, E1, M1, N1⟩ := both_mul mr0 mc0 mr1 mc1 La Lb
  obtain ⟨R2, C2, L2, E2, M2, N2⟩ := both_inv mr0 mc0 La
  obtain ⟨R3, C3, L3, E3, M3, N3⟩ := both_pick mr0 mc0 La zs
  obtain ⟨R4, C4, L4, E4, M4, N4⟩ := both_ident a3
  obtain ⟨E5, M5, N5⟩ := both_check mr0 mc0 La
  clear w0 w1 w2 w3 wr0 wc0 wr1 wc1
  by_cases hs : SmallM mr0 mc0 La
  · by_cases hs2 : SmallM mr1 mc1 Lb
    · by_cases hz : (zs.length : Int) > 300
      · go_enter Try.func4, Try.ntmps4
        have B : Below w.heap.size w w := Below.refl _ _
        go_wp2_with fail
        refine (awake3_any _).mono ?_
        rintro e u1 ⟨rfl, b⟩
        have D : Below w.heap.size w u1 := Below.next (by repeat (first | exact Below.refl _ _ | apply Below.draws | apply below_lit)) b
        have sD := D.size
        replace Ra := Ra.below D
        replace Rb := Rb.below D
        have Xa : Box u1 (w.heap.size) _ _ _ := Below.box b (by simp <;> omega) (by first | exact Box.new _ _ _ _ _ | exact (Box.new _ _ _ _ _).alloc (by simp) _ | exact ((Box.new _ _ _ _ _).alloc (by simp) _).alloc (by simp <;> omega) _ | exact Box.new1 _ _ _ _ _ _ | exact (Box.new1 _ _ _ _ _ _).alloc (by simp <;> omega) _ | exact Box.new2 _ _ _ _ _ _ _)
        have la : w.heap.size < u1.heap.size := by have := b.size; simp at this; omega
        have Xb : Box u1 (w.heap.size + 1) _ _ _ := Below.box b (by simp <;> omega) (by first | exact Box.new _ _ _ _ _ | exact (Box.new _ _ _ _ _).alloc (by simp) _ | exact ((Box.new _ _ _ _ _).alloc (by simp) _).alloc (by simp <;> omega) _ | exact Box.new1 _ _ _ _ _ _ | exact (Box.new1 _ _ _ _ _ _).alloc (by simp <;> omega) _ | exact Box.new2 _ _ _ _ _ _ _)
        have lb : w.heap.size + 1 < u1.heap.size := by have := b.size; simp at this; omega
        replace Rz := Rz.below D
        replace B := Below.next B D
        clear b D sD
        have xa0 := Xa.c0
        have xa1 := Xa.c1
        have xa2 := Xa.c2
        have xb0 := Xb.c0
        have xb1 := Xb.c1
        have xb2 := Xb.c2
        go_wp2_with fail
        refine (new_any _).mono ?_
        rintro e u2 ⟨rfl, F, hO⟩
        have b := hO.below
        clear hO
        clear xa0 xa1 xa2 xb0 xb1 xb2
        have D : Below (World.heap u1 |>.size) u1 u2 := Below.next (by repeat (first | exact Below.refl _ _ | apply Below.draws | apply below_lit)) b
        have sD := D.size
        replace Ra := Ra.below D
        replace Rb := Rb.below D
        replace Rz := Rz.below D
        replace Xa := Xa.below la D
        replace la := Nat.lt_of_lt_of_le la sD
        replace Xb := Xb.below lb D
        replace lb := Nat.lt_of_lt_of_le lb sD
        replace B := Below.next B D
        clear b D sD
        have xa0 := Xa.c0
        have xa1 := Xa.c1
        have xa2 := Xa.c2
        have xb0 := Xb.c0
        have xb1 := Xb.c1
        have xb2 := Xb.c2
        go_wp2_with fail
        refine (small_yes ⟨_, rfl, (Ra.below (by repeat (first | exact Below.refl _ _ | apply Below.draws | apply below_lit)))⟩ hs).mono ?_
        rintro e u3 ⟨rfl, b⟩
        clear xa0 xa1 xa2 xb0 xb1 xb2
        have D : Below (World.heap u2 |>.size) u2 u3 := Below.next (by repeat (first | exact Below.refl _ _ | apply Below.draws | apply below_lit)) b
        have sD := D.size
        replace Ra := Ra.below D
        replace Rb := Rb.below D
        replace Rz := Rz.below D
        replace F := F.below D
        replace Xa := Xa.below la D
        replace la := Nat.lt_of_lt_of_le la sD
        replace Xb := Xb.below lb D
        replace lb := Nat.lt_of_lt_of_le lb sD
        replace B := Below.next B D
        clear b D sD
        have xa0 := Xa.c0
        have xa1 := Xa.c1
        have xa2 := Xa.c2
        have xb0 := Xb.c0
        have xb1 := Xb.c1
        have xb2 := Xb.c2
        go_wp2_with fail
        refine (small_yes ⟨_, rfl, (Rb.below (by repeat (first | exact Below.refl _ _ | apply Below.draws | apply below_lit)))⟩ hs2).mono ?_
        rintro e u4 ⟨rfl, b⟩
        clear xa0 xa1 xa2 xb0 xb1 xb2
        have D : Below (World.heap u3 |>.size) u3 u4 := Below.next (by repeat (first | exact Below.refl _ _ | apply Below.draws | apply below_lit)) b
        have sD := D.size
        replace Ra := Ra.below D
        replace Rb := Rb.below D
        replace Rz := Rz.below D
        replace F := F.below D
        replace Xa := Xa.below la D
        replace la := Nat.lt_of_lt_of_le la sD
        replace Xb := Xb.below lb D
        replace lb := Nat.lt_of_lt_of_le lb sD
        replace B := Below.next B D
        clear b D sD
        have xa0 := Xa.c0
        have xa1 := Xa.c1
        have xa2 := Xa.c2
        have xb0 := Xb.c0
        have xb1 := Xb.c1
        have xb2 := Xb.c2
        go_wp2
        go_ret
        exact ⟨rfl, Below.next B (by repeat (first | exact Below.refl _ _ | apply Below.draws | apply below_lit))⟩
      · go_enter Try.func4, Try.ntmps4
        have B : Below w.heap.size w w := Below.refl _ _
        go_wp2_with fail
        refine (awake3_any _).mono ?_
        rintro e u1 ⟨rfl, b⟩
        have D : Below w.heap.size w u1 := Below.next (by repeat (first | exact Below.refl _ _ | apply Below.draws | apply below_lit)) b
        have sD := D.size
        replace Ra := Ra.below D
        replace Rb := Rb.below D
        have Xa : Box u1 (w.heap.size) _ _ _ := Below.box b (by simp <;> omega) (by first | exact Box.new _ _ _ _ _ | exact (Box.new _ _ _ _ _).alloc (by simp) _ | exact ((Box.new _ _ _ _ _).alloc (by simp) _).alloc (by simp <;> omega) _ | exact Box.new1 _ _ _ _ _ _ | exact (Box.new1 _ _ _ _ _ _).alloc (by simp <;> omega) _ | exact Box.new2 _ _ _ _ _ _ _)
        have la : w.heap.size < u1.heap.size := by have := b.size; simp at this; omega
        have Xb : Box u1 (w.heap.size + 1) _ _ _ := Below.box b (by simp <;> omega) (by first | exact Box.new _ _ _ _ _ | exact (Box.new _ _ _ _ _).alloc (by simp) _ | exact ((Box.new _ _ _ _ _).alloc (by simp) _).alloc (by simp <;> omega) _ | exact Box.new1 _ _ _ _ _ _ | exact (Box.new1 _ _ _ _ _ _).alloc (by simp <;> omega) _ | exact Box.new2 _ _ _ _ _ _ _)
        have lb : w.heap.size + 1 < u1.heap.size := by have := b.size; simp at this; omega
        replace Rz := Rz.below D
        replace B := Below.next B D
        clear b D sD
        have xa0 := Xa.c0
        have xa1 := Xa.c1
        have xa2 := Xa.c2
        have xb0 := Xb.c0
        have xb1 := Xb.c1
        have xb2 := Xb.c2
        go_wp2_with fail
        refine (new_any _).mono ?_
        rintro e u2 ⟨rfl, F, hO⟩
        have b := hO.below
        clear hO
        clear xa0 xa1 xa2 xb0 xb1 xb2
        have D : Below (World.heap u1 |>.size) u1 u2 := Below.next (by repeat (first | exact Below.refl _ _ | apply Below.draws | apply below_lit)) b
        have sD := D.size
        replace Ra := Ra.below D
        replace Rb := Rb.below D
        replace Rz := Rz.below D
        replace Xa := Xa.below la D
        replace la := Nat.lt_of_lt_of_le la sD
        replace Xb := Xb.below lb D
        replace lb := Nat.lt_of_lt_of_le lb sD
        replace B := Below.next B D
        clear b D sD
        have xa0 := Xa.c0
        have xa1 := Xa.c1
        have xa2 := Xa.c2
        have xb0 := Xb.c0
        have xb1 := Xb.c1
        have xb2 := Xb.c2
        go_wp2_with fail
        refine (small_yes ⟨_, rfl, (Ra.below (by repeat (first | exact Below.refl _ _ | apply Below.draws | apply below_lit)))⟩ hs).mono ?_
        rintro e u3 ⟨rfl, b⟩
        clear xa0 xa1 xa2 xb0 xb1 xb2
        have D : Below (World.heap u2 |>.size) u2 u3 := Below.next (by repeat (first | exact Below.refl _ _ | apply Below.draws | apply below_lit)) b
        have sD := D.size
        replace Ra := Ra.below D
        replace Rb := Rb.below D
        replace Rz := Rz.below D
        replace F := F.below D
        replace Xa := Xa.below la D
        replace la := Nat.lt_of_lt_of_le la sD
        replace Xb := Xb.below lb D
        replace lb := Nat.lt_of_lt_of_le lb sD
        replace B := Below.next B D
        clear b D sD
        have xa0 := Xa.c0
        have xa1 := Xa.c1
        have xa2 := Xa.c2
        have xb0 := Xb.c0
        have xb1 := Xb.c1
        have xb2 := Xb.c2
        go_wp2_with fail
        refine (small_yes ⟨_, rfl, (Rb.below (by repeat (first | exact Below.refl _ _ | apply Below.draws | apply below_lit)))⟩ hs2).mono ?_
        rintro e u4 ⟨rfl, b⟩
        clear xa0 xa1 xa2 xb0 xb1 xb2
        have D : Below (World.heap u3 |>.size) u3 u4 := Below.next (by repeat (first | exact Below.refl _ _ | apply Below.draws | apply below_lit)) b
        have sD := D.size
        replace Ra := Ra.below D
        replace Rb := Rb.below D
        replace Rz := Rz.below D
        replace F := F.below D
        replace Xa := Xa.below la D
        replace la := Nat.lt_of_lt_of_le la sD
        replace Xb := Xb.below lb D
        replace lb := Nat.lt_of_lt_of_le lb sD
        replace B := Below.next B D
        clear b D sD
        have xa0 := Xa.c0
        have xa1 := Xa.c1
        have xa2 := Xa.c2
        have xb0 := Xb.c0
        have xb1 := Xb.c1
        have xb2 := Xb.c2
        go_wp2_with fail
        refine (M1 _ _ _ _ (F.below (by repeat (first | exact Below.refl _ _ | apply Below.draws | apply below_lit))) ⟨_, rfl, (Ra.below (by repeat (first | exact Below.refl _ _ | apply Below.draws | apply below_lit)))⟩ ⟨_, rfl, (Rb.below (by repeat (first | exact Below.refl _ _ | apply Below.draws | apply below_lit)))⟩).mono ?_
        rintro e u5 ⟨vm, rfl, Rm, b⟩
        clear xa0 xa1 xa2 xb0 xb1 xb2
        have D : Below (World.heap u4 |>.size) u4 u5 := Below.next (by repeat (first | exact Below.refl _ _ | apply Below.draws | apply below_lit)) b
        have sD := D.size
        replace Ra := Ra.below D
        replace Rb := Rb.below D
        replace Rz := Rz.below D
        replace F := F.below D
        replace Xa := Xa.below la D
        replace la := Nat.lt_of_lt_of_le la sD
        replace Xb := Xb.below lb D
        replace lb := Nat.lt_of_lt_of_le lb sD
        replace B := Below.next B D
        clear b D sD
        have xa0 := Xa.c0
        have xa1 := Xa.c1
        have xa2 := Xa.c2
        have xb0 := Xb.c0
        have xb1 := Xb.c1
        have xb2 := Xb.c2
        obtain ⟨am, cm, rfl⟩ := Rm.form
        go_wp2_with fail
        refine (N1 _ _ _ ⟨_, rfl, (Ra.below (by repeat (first | exact Below.refl _ _ | apply Below.draws | apply below_lit)))⟩ ⟨_, rfl, (Rb.below (by repeat (first | exact Below.refl _ _ | apply Below.draws | apply below_lit)))⟩).mono ?_
        rintro e u6 ⟨vp, rfl, Rp, b⟩
        clear xa0 xa1 xa2 xb0 xb1 xb2
        have D : Below (World.heap u5 |>.size) u5 u6 := Below.next (by repeat (first | exact Below.refl _ _ | apply Below.draws | apply below_lit)) b
        have sD := D.size
        replace Ra := Ra.below D
        replace Rb := Rb.below D
        replace Rz := Rz.below D
        replace F := F.below D
        replace Rm := Rm.below D
        replace Xa := Xa.below la D
        replace la := Nat.lt_of_lt_of_le la sD
        replace Xb := Xb.below lb D
        replace lb := Nat.lt_of_lt_of_le lb sD
        have Xm : Box u6 (World.heap u5 |>.size) _ _ _ := Below.box b (by simp <;> omega) (by first | exact Box.new _ _ _ _ _ | exact (Box.new _ _ _ _ _).alloc (by simp) _ | exact ((Box.new _ _ _ _ _).alloc (by simp) _).alloc (by simp <;> omega) _)
        have lm : (World.heap u5 |>.size) < (World.heap u6 |>.size) := by have := b.size; simp at this; omega
        replace B := Below.next B D
        clear b D sD
        have xa0 := Xa.c0
        have xa1 := Xa.c1
        have xa2 := Xa.c2
        have xb0 := Xb.c0
        have xb1 := Xb.c1
        have xb2 := Xb.c2
        have xm0 := Xm.c0
        have xm1 := Xm.c1
        have xm2 := Xm.c2
        obtain ⟨ap, cp, rfl⟩ := Rp.form
        go_wp2_with fail
        refine (M2 _ _ _ (F.below (by repeat (first | exact Below.refl _ _ | apply Below.draws | apply below_lit))) ⟨_, rfl, (Ra.below (by repeat (first | exact Below.refl _ _ | apply Below.draws | apply below_lit)))⟩).mono ?_
        rintro e u7 ⟨vv, rfl, Rv, b⟩
        clear xa0 xa1 xa2 xb0 xb1 xb2 xm0 xm1 xm2
        have D : Below (World.heap u6 |>.size) u6 u7 := Below.next (by repeat (first | exact Below.refl _ _ | apply Below.draws | apply below_lit)) b
        have sD := D.size
        replace Ra := Ra.below D
        replace Rb := Rb.below D
        replace Rz := Rz.below D
        replace F := F.below D
        replace Rm := Rm.below D
        replace Rp := Rp.below D
        replace Xa := Xa.below la D
        replace la := Nat.lt_of_lt_of_le la sD
        replace Xb := Xb.below lb D
        replace lb := Nat.lt_of_lt_of_le lb sD
        replace Xm := Xm.below lm D
        replace lm := Nat.lt_of_lt_of_le lm sD
        have Xp : Box u7 (World.heap u6 |>.size) _ _ _ := Below.box b (by simp <;> omega) (by first | exact Box.new _ _ _ _ _ | exact (Box.new _ _ _ _ _).alloc (by simp) _ | exact ((Box.new _ _ _ _ _).alloc (by simp) _).alloc (by simp <;> omega) _)
        have lp : (World.heap u6 |>.size) < (World.heap u7 |>.size) := by have := b.size; simp at this; omega
        replace B := Below.next B D
        clear b D sD
        have xa0 := Xa.c0
        have xa1 := Xa.c1
        have xa2 := Xa.c2
        have xb0 := Xb.c0
        have xb1 := Xb.c1
        have xb2 := Xb.c2
        have xm0 := Xm.c0
        have xm1 := Xm.c1
        have xm2 := Xm.c2
        have xp0 := Xp.c0
        have xp1 := Xp.c1
        have xp2 := Xp.c2
        obtain ⟨av, cv, rfl⟩ := Rv.form
        go_wp2_with fail
        refine (N2 _ _ ⟨_, rfl, (Ra.below (by repeat (first | exact Below.refl _ _ | apply Below.draws | apply below_lit)))⟩).mono ?_
        rintro e u8 ⟨vw, rfl, Rw, b⟩
        clear xa0 xa1 xa2 xb0 xb1 xb2 xm0 xm1 xm2 xp0 xp1 xp2
        have D : Below (World.heap u7 |>.size) u7 u8 := Below.next (by repeat (first | exact Below.refl _ _ | apply Below.draws | apply below_lit)) b
        have sD := D.size
        replace Ra := Ra.below D
        replace Rb := Rb.below D
        replace Rz := Rz.below D
        replace F := F.below D
        replace Rm := Rm.below D
        replace Rp := Rp.below D
        replace Rv := Rv.below D
        replace Xa := Xa.below la D
        replace la := Nat.lt_of_lt_of_le la sD
        replace Xb := Xb.below lb D
        replace lb := Nat.lt_of_lt_of_le lb sD
        replace Xm := Xm.below lm D
        replace lm := Nat.lt_of_lt_of_le lm sD
        replace Xp := Xp.below lp D
        replace lp := Nat.lt_of_lt_of_le lp sD
        have Xv : Box u8 (World.heap u7 |>.size) _ _ _ := Below.box b (by simp <;> omega) (by first | exact Box.new _ _ _ _ _ | exact (Box.new _ _ _ _ _).alloc (by simp) _ | exact ((Box.new _ _ _ _ _).alloc (by simp) _).alloc (by simp <;> omega) _)
        have lv : (World.heap u7 |>.size) < (World.heap u8 |>.size) := by have := b.size; simp at this; omega
        replace B := Below.next B D
        clear b D sD
        have xa0 := Xa.c0
        have xa1 := Xa.c1
        have xa2 := Xa.c2
        have xb0 := Xb.c0
        have xb1 := Xb.c1
        have xb2 := Xb.c2
        have xm0 := Xm.c0
        have xm1 := Xm.c1
        have xm2 := Xm.c2
        have xp0 := Xp.c0
        have xp1 := Xp.c1
        have xp2 := Xp.c2
        have xv0 := Xv.c0
        have xv1 := Xv.c1
        have xv2 := Xv.c2
        obtain ⟨aw, cw, rfl⟩ := Rw.form
        go_wp2_with fail
        refine (M3 _ _ _ ⟨_, rfl, (Ra.below (by repeat (first | exact Below.refl _ _ | apply Below.draws | apply below_lit)))⟩ (Rz.below (by repeat (first | exact Below.refl _ _ | apply Below.draws | apply below_lit)))).mono ?_
        rintro e u9 ⟨vr, rfl, Rr, b⟩
        clear xa0 xa1 xa2 xb0 xb1 xb2 xm0 xm1 xm2 xp0 xp1 xp2 xv0 xv1 xv2
        have D : Below (World.heap u8 |>.size) u8 u9 := Below.next (by repeat (first | exact Below.refl _ _ | apply Below.draws | apply below_lit)) b
        have sD := D.size
        replace Ra := Ra.below D
        replace Rb := Rb.below D
        replace Rz := Rz.below D
        replace F := F.below D
        replace Rm := Rm.below D
        replace Rp := Rp.below D
        replace Rv := Rv.below D
        replace Rw := Rw.below D
        replace Xa := Xa.below la D
        replace la := Nat.lt_of_lt_of_le la sD
        replace Xb := Xb.below lb D
        replace lb := Nat.lt_of_lt_of_le lb sD
        replace Xm := Xm.below lm D
        replace lm := Nat.lt_of_lt_of_le lm sD
        replace Xp := Xp.below lp D
        replace lp := Nat.lt_of_lt_of_le lp sD
        replace Xv := Xv.below lv D
        replace lv := Nat.lt_of_lt_of_le lv sD
        have Xw : Box u9 (World.heap u8 |>.size) _ _ _ := Below.box b (by simp <;> omega) (by first | exact Box.new _ _ _ _ _ | exact (Box.new _ _ _ _ _).alloc (by simp) _ | exact ((Box.new _ _ _ _ _).alloc (by simp) _).alloc (by simp <;> omega) _)
        have lw : (World.heap u8 |>.size) < (World.heap u9 |>.size) := by have := b.size; simp at this; omega
        replace B := Below.next B D
        clear b D sD
        have xa0 := Xa.c0
        have xa1 := Xa.c1
        have xa2 := Xa.c2
        have xb0 := Xb.c0
        have xb1 := Xb.c1
        have xb2 := Xb.c2
        have xm0 := Xm.c0
        have xm1 := Xm.c1
        have xm2 := Xm.c2
        have xp0 := Xp.c0
        have xp1 := Xp.c1
        have xp2 := Xp.c2
        have xv0 := Xv.c0
        have xv1 := Xv.c1
        have xv2 := Xv.c2
        have xw0 := Xw.c0
        have xw1 := Xw.c1
        have xw2 := Xw.c2
        obtain ⟨ar, cr, rfl⟩ := Rr.form
        go_wp2_with fail
        refine (N3 _ _ _ ⟨_, rfl, (Ra.below (by repeat (first | exact Below.refl _ _ | apply Below.draws | apply below_lit)))⟩ (Rz.below (by repeat (first | exact Below.refl _ _ | apply Below.draws | apply below_lit)))).mono ?_
        rintro e u10 ⟨vq, rfl, Rq, b⟩
        clear xa0 xa1 xa2 xb0 xb1 xb2 xm0 xm1 xm2 xp0 xp1 xp2 xv0 xv1 xv2 xw0 xw1 xw2
        have D : Below (World.heap u9 |>.size) u9 u10 := Below.next (by repeat (first | exact Below.refl _ _ | apply Below.draws | apply below_lit)) b
        have sD := D.size
        replace Ra := Ra.below D
        replace Rb := Rb.below D
        replace Rz := Rz.below D
        replace F := F.below D
        replace Rm := Rm.below D
        replace Rp := Rp.below D
        replace Rv := Rv.below D
        replace Rw := Rw.below D
        replace Rr := Rr.below D
        replace Xa := Xa.below la D
        replace la := Nat.lt_of_lt_of_le la sD
        replace Xb := Xb.below lb D
        replace lb := Nat.lt_of_lt_of_le lb sD
        replace Xm := Xm.below lm D
        replace lm := Nat.lt_of_lt_of_le lm sD
        replace Xp := Xp.below lp D
        replace lp := Nat.lt_of_lt_of_le lp sD
        replace Xv := Xv.below lv D
        replace lv := Nat.lt_of_lt_of_le lv sD
        replace Xw := Xw.below lw D
        replace lw := Nat.lt_of_lt_of_le lw sD
        have Xr : Box u10 (World.heap u9 |>.size) _ _ _ := Below.box b (by simp <;> omega) (by first | exact Box.new _ _ _ _ _ | exact (Box.new _ _ _ _ _).alloc (by simp) _ | exact ((Box.new _ _ _ _ _).alloc (by simp) _).alloc (by simp <;> omega) _)
        have lr : (World.heap u9 |>.size) < (World.heap u10 |>.size) := by have := b.size; simp at this; omega
        replace B := Below.next B D
        clear b D sD
        have xa0 := Xa.c0
        have xa1 := Xa.c1
        have xa2 := Xa.c2
        have xb0 := Xb.c0
        have xb1 := Xb.c1
        have xb2 := Xb.c2
        have xm0 := Xm.c0
        have xm1 := Xm.c1
        have xm2 := Xm.c2
        have xp0 := Xp.c0
        have xp1 := Xp.c1
        have xp2 := Xp.c2
        have xv0 := Xv.c0
        have xv1 := Xv.c1
        have xv2 := Xv.c2
        have xw0 := Xw.c0
        have xw1 := Xw.c1
        have xw2 := Xw.c2
        have xr0 := Xr.c0
        have xr1 := Xr.c1
        have xr2 := Xr.c2
        obtain ⟨aq, cq, rfl⟩ := Rq.form
        go_wp2_with fail
        refine (M4 _).mono ?_
        rintro e u11 ⟨vx, rfl, Rx, b⟩
        clear xa0 xa1 xa2 xb0 xb1 xb2 xm0 xm1 xm2 xp0 xp1 xp2 xv0 xv1 xv2 xw0 xw1 xw2 xr0 xr1 xr2
        have D : Below (World.heap u10 |>.size) u10 u11 := Below.next (by repeat (first | exact Below.refl _ _ | apply Below.draws | apply below_lit)) b
        have sD := D.size
        replace Ra := Ra.below D
        replace Rb := Rb.below D
        replace Rz := Rz.below D
        replace F := F.below D
        replace Rm := Rm.below D
        replace Rp := Rp.below D
        replace Rv := Rv.below D
        replace Rw := Rw.below D
        replace Rr := Rr.below D
        replace Rq := Rq.below D
        replace Xa := Xa.below la D
        replace la := Nat.lt_of_lt_of_le la sD
        replace Xb := Xb.below lb D
        replace lb := Nat.lt_of_lt_of_le lb sD
        replace Xm := Xm.below lm D
        replace lm := Nat.lt_of_lt_of_le lm sD
        replace Xp := Xp.below lp D
        replace lp := Nat.lt_of_lt_of_le lp sD
        replace Xv := Xv.below lv D
        replace lv := Nat.lt_of_lt_of_le lv sD
        replace Xw := Xw.below lw D
        replace lw := Nat.lt_of_lt_of_le lw sD
        replace Xr := Xr.below lr D
        replace lr := Nat.lt_of_lt_of_le lr sD
        have Xq : Box u11 (World.heap u10 |>.size) _ _ _ := Below.box b (by simp <;> omega) (by first | exact Box.new _ _ _ _ _ | exact (Box.new _ _ _ _ _).alloc (by simp) _ | exact ((Box.new _ _ _ _ _).alloc (by simp) _).alloc (by simp <;> omega) _)
        have lq : (World.heap u10 |>.size) < (World.heap u11 |>.size) := by have := b.size; simp at this; omega
        replace B := Below.next B D
        clear b D sD
        have xa0 := Xa.c0
        have xa1 := Xa.c1
        have xa2 := Xa.c2
        have xb0 := Xb.c0
        have xb1 := Xb.c1
        have xb2 := Xb.c2
        have xm0 := Xm.c0
        have xm1 := Xm.c1
        have xm2 := Xm.c2
        have xp0 := Xp.c0
        have xp1 := Xp.c1
        have xp2 := Xp.c2
        have xv0 := Xv.c0
        have xv1 := Xv.c1
        have xv2 := Xv.c2
        have xw0 := Xw.c0
        have xw1 := Xw.c1
        have xw2 := Xw.c2
        have xr0 := Xr.c0
        have xr1 := Xr.c1
        have xr2 := Xr.c2
        have xq0 := Xq.c0
        have xq1 := Xq.c1
        have xq2 := Xq.c2
        obtain ⟨ax, cx, rfl⟩ := Rx.form
        go_wp2_with fail
        refine (N4 _).mono ?_
        rintro e u12 ⟨vy, rfl, Ry, b⟩
        clear xa0 xa1 xa2 xb0 xb1 xb2 xm0 xm1 xm2 xp0 xp1 xp2 xv0 xv1 xv2 xw0 xw1 xw2 xr0 xr1 xr2 xq0 xq1 xq2
        have D : Below (World.heap u11 |>.size) u11 u12 := Below.next (by repeat (first | exact Below.refl _ _ | apply Below.draws | apply below_lit)) b
        have sD := D.size
        replace Ra := Ra.below D
        replace Rb := Rb.below D
        replace Rz := Rz.below D
        replace F := F.below D
        replace Rm := Rm.below D
        replace Rp := Rp.below D
        replace Rv := Rv.below D
        replace Rw := Rw.below D
        replace Rr := Rr.below D
        replace Rq := Rq.below D
        replace Rx := Rx.below D
        replace Xa := Xa.below la D
        replace la := Nat.lt_of_lt_of_le la sD
        replace Xb := Xb.below lb D
        replace lb := Nat.lt_of_lt_of_le lb sD
        replace Xm := Xm.below lm D
        replace lm := Nat.lt_of_lt_of_le lm sD
        replace Xp := Xp.below lp D
        replace lp := Nat.lt_of_lt_of_le lp sD
        replace Xv := Xv.below lv D
        replace lv := Nat.lt_of_lt_of_le lv sD
        replace Xw := Xw.below lw D
        replace lw := Nat.lt_of_lt_of_le lw sD
        replace Xr := Xr.below lr D
        replace lr := Nat.lt_of_lt_of_le lr sD
        replace Xq := Xq.below lq D
        replace lq := Nat.lt_of_lt_of_le lq sD
        have Xx : Box u12 (World.heap u11 |>.size) _ _ _ := Below.box b (by simp <;> omega) (by first | exact Box.new _ _ _ _ _ | exact (Box.new _ _ _ _ _).alloc (by simp) _ | exact ((Box.new _ _ _ _ _).alloc (by simp) _).alloc (by simp <;> omega) _)
        have lx : (World.heap u11 |>.size) < (World.heap u12 |>.size) := by have := b.size; simp at this; omega
        replace B := Below.next B D
        clear b D sD
        have xa0 := Xa.c0
        have xa1 := Xa.c1
        have xa2 := Xa.c2
        have xb0 := Xb.c0
        have xb1 := Xb.c1
        have xb2 := Xb.c2
        have xm0 := Xm.c0
        have xm1 := Xm.c1
        have xm2 := Xm.c2
        have xp0 := Xp.c0
        have xp1 := Xp.c1
        have xp2 := Xp.c2
        have xv0 := Xv.c0
        have xv1 := Xv.c1
        have xv2 := Xv.c2
        have xw0 := Xw.c0
        have xw1 := Xw.c1
        have xw2 := Xw.c2
        have xr0 := Xr.c0
        have xr1 := Xr.c1
        have xr2 := Xr.c2
        have xq0 := Xq.c0
        have xq1 := Xq.c1
        have xq2 := Xq.c2
        have xx0 := Xx.c0
        have xx1 := Xx.c1
        have xx2 := Xx.c2
        obtain ⟨ay, cy, rfl⟩ := Ry.form
        go_wp2_with fail
        refine (same3 ⟨_, rfl, (Rm.below (by repeat (first | exact Below.refl _ _ | apply Below.draws | apply below_lit)))⟩ ⟨_, rfl, (Rp.below (by repeat (first | exact Below.refl _ _ | apply Below.draws | apply below_lit)))⟩).mono ?_
        rintro e u13 ⟨rfl, b⟩
        clear xa0 xa1 xa2 xb0 xb1 xb2 xm0 xm1 xm2 xp0 xp1 xp2 xv0 xv1 xv2 xw0 xw1 xw2 xr0 xr1 xr2 xq0 xq1 xq2 xx0 xx1 xx2
        have D : Below (World.heap u12 |>.size) u12 u13 := Below.next (by repeat (first | exact Below.refl _ _ | apply Below.draws | apply below_lit)) b
        have sD := D.size
        replace Ra := Ra.below D
        replace Rb := Rb.below D
        replace Rz := Rz.below D
        replace F := F.below D
        replace Rm := Rm.below D
        replace Rp := Rp.below D
        replace Rv := Rv.below D
        replace Rw := Rw.below D
        replace Rr := Rr.below D
        replace Rq := Rq.below D
        replace Rx := Rx.below D
        replace Ry := Ry.below D
        replace Xa := Xa.below la D
        replace la := Nat.lt_of_lt_of_le la sD
        replace Xb := Xb.below lb D
        replace lb := Nat.lt_of_lt_of_le lb sD
        replace Xm := Xm.below lm D
        replace lm := Nat.lt_of_lt_of_le lm sD
        replace Xp := Xp.below lp D
        replace lp := Nat.lt_of_lt_of_le lp sD
        replace Xv := Xv.below lv D
        replace lv := Nat.lt_of_lt_of_le lv sD
        replace Xw := Xw.below lw D
        replace lw := Nat.lt_of_lt_of_le lw sD
        replace Xr := Xr.below lr D
        replace lr := Nat.lt_of_lt_of_le lr sD
        replace Xq := Xq.below lq D
        replace lq := Nat.lt_of_lt_of_le lq sD
        replace Xx := Xx.below lx D
        replace lx := Nat.lt_of_lt_of_le lx sD
        have Xy : Box u13 (World.heap u12 |>.size) _ _ _ := Below.box b (by simp <;> omega) (by first | exact Box.new _ _ _ _ _ | exact (Box.new _ _ _ _ _).alloc (by simp) _ | exact ((Box.new _ _ _ _ _).alloc (by simp) _).alloc (by simp <;> omega) _)
        have ly : (World.heap u12 |>.size) < (World.heap u13 |>.size) := by have := b.size; simp at this; omega
        replace B := Below.next B D
        clear b D sD
        have xa0 := Xa.c0
        have xa1 := Xa.c1
        have xa2 := Xa.c2
        have xb0 := Xb.c0
        have xb1 := Xb.c1
        have xb2 := Xb.c2
        have xm0 := Xm.c0
        have xm1 := Xm.c1
        have xm2 := Xm.c2
        have xp0 := Xp.c0
        have xp1 := Xp.c1
        have xp2 := Xp.c2
        have xv0 := Xv.c0
        have xv1 := Xv.c1
        have xv2 := Xv.c2
        have xw0 := Xw.c0
        have xw1 := Xw.c1
        have xw2 := Xw.c2
        have xr0 := Xr.c0
        have xr1 := Xr.c1
        have xr2 := Xr.c2
        have xq0 := Xq.c0
        have xq1 := Xq.c1
        have xq2 := Xq.c2
        have xx0 := Xx.c0
        have xx1 := Xx.c1
        have xx2 := Xx.c2
        have xy0 := Xy.c0
        have xy1 := Xy.c1
        have xy2 := Xy.c2
        go_wp2_with fail
        refine (same3 ⟨_, rfl, (Rv.below (by repeat (first | exact Below.refl _ _ | apply Below.draws | apply below_lit)))⟩ ⟨_, rfl, (Rw.below (by repeat (first | exact Below.refl _ _ | apply Below.draws | apply below_lit)))⟩).mono ?_
        rintro e u14 ⟨rfl, b⟩
        clear xa0 xa1 xa2 xb0 xb1 xb2 xm0 xm1 xm2 xp0 xp1 xp2 xv0 xv1 xv2 xw0 xw1 xw2 xr0 xr1 xr2 xq0 xq1 xq2 xx0 xx1 xx2 xy0 xy1 xy2
        have D : Below (World.heap u13 |>.size) u13 u14 := Below.next (by repeat (first | exact Below.refl _ _ | apply Below.draws | apply below_lit)) b
        have sD := D.size
        replace Ra := Ra.below D
        replace Rb := Rb.below D
        replace Rz := Rz.below D
        replace F := F.below D
        replace Rm := Rm.below D
        replace Rp := Rp.below D
        replace Rv := Rv.below D
        replace Rw := Rw.below D
        replace Rr := Rr.below D
        replace Rq := Rq.below D
        replace Rx := Rx.below D
        replace Ry := Ry.below D
        replace Xa := Xa.below la D
        replace la := Nat.lt_of_lt_of_le la sD
        replace Xb := Xb.below lb D
        replace lb := Nat.lt_of_lt_of_le lb sD
        replace Xm := Xm.below lm D
        replace lm := Nat.lt_of_lt_of_le lm sD
        replace Xp := Xp.below lp D
        replace lp := Nat.lt_of_lt_of_le lp sD
        replace Xv := Xv.below lv D
        replace lv := Nat.lt_of_lt_of_le lv sD
        replace Xw := Xw.below lw D
        replace lw := Nat.lt_of_lt_of_le lw sD
        replace Xr := Xr.below lr D
        replace lr := Nat.lt_of_lt_of_le lr sD
        replace Xq := Xq.below lq D
        replace lq := Nat.lt_of_lt_of_le lq sD
        replace Xx := Xx.below lx D
        replace lx := Nat.lt_of_lt_of_le lx sD
        replace Xy := Xy.below ly D
        replace ly := Nat.lt_of_lt_of_le ly sD
        replace B := Below.next B D
        clear b D sD
        have xa0 := Xa.c0
        have xa1 := Xa.c1
        have xa2 := Xa.c2
        have xb0 := Xb.c0
        have xb1 := Xb.c1
        have xb2 := Xb.c2
        have xm0 := Xm.c0
        have xm1 := Xm.c1
        have xm2 := Xm.c2
        have xp0 := Xp.c0
        have xp1 := Xp.c1
        have xp2 := Xp.c2
        have xv0 := Xv.c0
        have xv1 := Xv.c1
        have xv2 := Xv.c2
        have xw0 := Xw.c0
        have xw1 := Xw.c1
        have xw2 := Xw.c2
        have xr0 := Xr.c0
        have xr1 := Xr.c1
        have xr2 := Xr.c2
        have xq0 := Xq.c0
        have xq1 := Xq.c1
        have xq2 := Xq.c2
        have xx0 := Xx.c0
        have xx1 := Xx.c1
        have xx2 := Xx.c2
        have xy0 := Xy.c0
        have xy1 := Xy.c1
        have xy2 := Xy.c2
        go_wp2_with fail
        refine (same3 ⟨_, rfl, (Rr.below (by repeat (first | exact Below.refl _ _ | apply Below.draws | apply below_lit)))⟩ ⟨_, rfl, (Rq.below (by repeat (first | exact Below.refl _ _ | apply Below.draws | apply below_lit)))⟩).mono ?_
        rintro e u15 ⟨rfl, b⟩
        clear xa0 xa1 xa2 xb0 xb1 xb2 xm0 xm1 xm2 xp0 xp1 xp2 xv0 xv1 xv2 xw0 xw1 xw2 xr0 xr1 xr2 xq0 xq1 xq2 xx0 xx1 xx2 xy0 xy1 xy2
        have D : Below (World.heap u14 |>.size) u14 u15 := Below.next (by repeat (first | exact Below.refl _ _ | apply Below.draws | apply below_lit)) b
        have sD := D.size
        replace Ra := Ra.below D
        replace Rb := Rb.below D
        replace Rz := Rz.below D
        replace F := F.below D
        replace Rm := Rm.below D
        replace Rp := Rp.below D
        replace Rv := Rv.below D
        replace Rw := Rw.below D
        replace Rr := Rr.below D
        replace Rq := Rq.below D
        replace Rx := Rx.below D
        replace Ry := Ry.below D
        replace Xa := Xa.below la D
        replace la := Nat.lt_of_lt_of_le la sD
        replace Xb := Xb.below lb D
        replace lb := Nat.lt_of_lt_of_le lb sD
        replace Xm := Xm.below lm D
        replace lm := Nat.lt_of_lt_of_le lm sD
        replace Xp := Xp.below lp D
        replace lp := Nat.lt_of_lt_of_le lp sD
        replace Xv := Xv.below lv D
        replace lv := Nat.lt_of_lt_of_le lv sD
        replace Xw := Xw.below lw D
        replace lw := Nat.lt_of_lt_of_le lw sD
        replace Xr := Xr.below lr D
        replace lr := Nat.lt_of_lt_of_le lr sD
        replace Xq := Xq.below lq D
        replace lq := Nat.lt_of_lt_of_le lq sD
        replace Xx := Xx.below lx D
        replace lx := Nat.lt_of_lt_of_le lx sD
        replace Xy := Xy.below ly D
        replace ly := Nat.lt_of_lt_of_le ly sD
        replace B := Below.next B D
        clear b D sD
        have xa0 := Xa.c0
        have xa1 := Xa.c1
        have xa2 := Xa.c2
        have xb0 := Xb.c0
        have xb1 := Xb.c1
        have xb2 := Xb.c2
        have xm0 := Xm.c0
        have xm1 := Xm.c1
        have xm2 := Xm.c2
        have xp0 := Xp.c0
        have xp1 := Xp.c1
        have xp2 := Xp.c2
        have xv0 := Xv.c0
        have xv1 := Xv.c1
        have xv2 := Xv.c2
        have xw0 := Xw.c0
        have xw1 := Xw.c1
        have xw2 := Xw.c2
        have xr0 := Xr.c0
        have xr1 := Xr.c1
        have xr2 := Xr.c2
        have xq0 := Xq.c0
        have xq1 := Xq.c1
        have xq2 := Xq.c2
        have xx0 := Xx.c0
        have xx1 := Xx.c1
        have xx2 := Xx.c2
        have xy0 := Xy.c0
        have xy1 := Xy.c1
        have xy2 := Xy.c2
        go_wp2_with fail
        refine (same3 ⟨_, rfl, (Rx.below (by repeat (first | exact Below.refl _ _ | apply Below.draws | apply below_lit)))⟩ ⟨_, rfl, (Ry.below (by repeat (first | exact Below.refl _ _ | apply Below.draws | apply below_lit)))⟩).mono ?_
        rintro e u16 ⟨rfl, b⟩
        clear xa0 xa1 xa2 xb0 xb1 xb2 xm0 xm1 xm2 xp0 xp1 xp2 xv0 xv1 xv2 xw0 xw1 xw2 xr0 xr1 xr2 xq0 xq1 xq2 xx0 xx1 xx2 xy0 xy1 xy2
        have D : Below (World.heap u15 |>.size) u15 u16 := Below.next (by repeat (first | exact Below.refl _ _ | apply Below.draws | apply below_lit)) b
        have sD := D.size
        replace Ra := Ra.below D
        replace Rb := Rb.below D
        replace Rz := Rz.below D
        replace F := F.below D
        replace Rm := Rm.below D
        replace Rp := Rp.below D
        replace Rv := Rv.below D
        replace Rw := Rw.below D
        replace Rr := Rr.below D
        replace Rq := Rq.below D
        replace Rx := Rx.below D
        replace Ry := Ry.below D
        replace Xa := Xa.below la D
        replace la := Nat.lt_of_lt_of_le la sD
        replace Xb := Xb.below lb D
        replace lb := Nat.lt_of_lt_of_le lb sD
        replace Xm := Xm.below lm D
        replace lm := Nat.lt_of_lt_of_le lm sD
        replace Xp := Xp.below lp D
        replace lp := Nat.lt_of_lt_of_le lp sD
        replace Xv := Xv.below lv D
        replace lv := Nat.lt_of_lt_of_le lv sD
        replace Xw := Xw.below lw D
        replace lw := Nat.lt_of_lt_of_le lw sD
        replace Xr := Xr.below lr D
        replace lr := Nat.lt_of_lt_of_le lr sD
        replace Xq := Xq.below lq D
        replace lq := Nat.lt_of_lt_of_le lq sD
        replace Xx := Xx.below lx D
        replace lx := Nat.lt_of_lt_of_le lx sD
        replace Xy := Xy.below ly D
        replace ly := Nat.lt_of_lt_of_le ly sD
        replace B := Below.next B D
        clear b D sD
        have xa0 := Xa.c0
        have xa1 := Xa.c1
        have xa2 := Xa.c2
        have xb0 := Xb.c0
        have xb1 := Xb.c1
        have xb2 := Xb.c2
        have xm0 := Xm.c0
        have xm1 := Xm.c1
        have xm2 := Xm.c2
        have xp0 := Xp.c0
        have xp1 := Xp.c1
        have xp2 := Xp.c2
        have xv0 := Xv.c0
        have xv1 := Xv.c1
        have xv2 := Xv.c2
        have xw0 := Xw.c0
        have xw1 := Xw.c1
        have xw2 := Xw.c2
        have xr0 := Xr.c0
        have xr1 := Xr.c1
        have xr2 := Xr.c2
        have xq0 := Xq.c0
        have xq1 := Xq.c1
        have xq2 := Xq.c2
        have xx0 := Xx.c0
        have xx1 := Xx.c1
        have xx2 := Xx.c2
        have xy0 := Xy.c0
        have xy1 := Xy.c1
        have xy2 := Xy.c2
        clear xa0 xa1 xa2 xb0 xb1 xb2 xm0 xm1 xm2 xp0 xp1 xp2 xv0 xv1 xv2 xw0 xw1 xw2 xr0 xr1 xr2 xq0 xq1 xq2 xx0 xx1 xx2 xy0 xy1 xy2
        clear Xb lb
        clear Xm lm
        clear Xp lp
        clear Xv lv
        clear Xw lw
        clear Xr lr
        clear Xq lq
        clear Xx lx
        clear Xy ly
        have xa0 := Xa.c0
        have xa1 := Xa.c1
        have xa2 := Xa.c2
        have P1 := Xa
        have Q1 := Xa
        clear M1 N1
        clear M2 N2
        clear M3 N3
        clear M4 N4
        go_wp2
        go_region_held3 (fun wx => wx.cell? ⟨w.heap.size, 0, none⟩ = some (.int .i64 mr0) ∧ wx.cell? ⟨w.heap.size, 1, none⟩ = some (.int .i64 mc0) ∧ wx.cell? ⟨w.heap.size, 2, none⟩ = some (.slice a0 La.length cap0)) (first | exact Box.and P1 | exact Box.and P1.drew) (first | (go_at_call 21; refine (M5 _ _ ⟨_, rfl, (by exact Ra)⟩).mono ?_; rintro e v1 ⟨rfl, bv1⟩; replace P1 := Q1.below la (Below.ofdrew bv1)) | (go_at_call 22; refine (N5 _ _ ⟨_, rfl, Ra.below (Below.ofdrew bv1)⟩).mono ?_; rintro e v2 ⟨rfl, bv2⟩; replace P1 := (Q1.below la (Below.ofdrew bv1)).below (Nat.lt_of_lt_of_le la (Below.ofdrew bv1).size) bv2))
        have BB : Below w.heap.size w v2 := Below.next (Below.next B (Below.ofdrew bv1)) bv2
        clear bv1 bv2
        go_wp2
        go_ret
        exact ⟨rfl, BB⟩
    · go_enter Try.func4, Try.ntmps4
      have B : Below w.heap.size w w := Below.refl _ _
      go_wp2_with fail
      refine (awake3_any _).mono ?_
      rintro e u1 ⟨rfl, b⟩
      have D : Below w.heap.size w u1 := Below.next (by repeat (first | exact Below.refl _ _ | apply Below.draws | apply below_lit)) b
      have sD := D.size
      replace Ra := Ra.below D
      replace Rb := Rb.below D
      have Xa : Box u1 (w.heap.size) _ _ _ := Below.box b (by simp <;> omega) (by first | exact Box.new _ _ _ _ _ | exact (Box.new _ _ _ _ _).alloc (by simp) _ | exact ((Box.new _ _ _ _ _).alloc (by simp) _).alloc (by simp <;> omega) _ | exact Box.new1 _ _ _ _ _ _ | exact (Box.new1 _ _ _ _ _ _).alloc (by simp <;> omega) _ | exact Box.new2 _ _ _ _ _ _ _)
      have la : w.heap.size < u1.heap.size := by have := b.size; simp at this; omega
      have Xb : Box u1 (w.heap.size + 1) _ _ _ := Below.box b (by simp <;> omega) (by first | exact Box.new _ _ _ _ _ | exact (Box.new _ _ _ _ _).alloc (by simp) _ | exact ((Box.new _ _ _ _ _).alloc (by simp) _).alloc (by simp <;> omega) _ | exact Box.new1 _ _ _ _ _ _ | exact (Box.new1 _ _ _ _ _ _).alloc (by simp <;> omega) _ | exact Box.new2 _ _ _ _ _ _ _)
      have lb : w.heap.size + 1 < u1.heap.size := by have := b.size; simp at this; omega
      replace Rz := Rz.below D
      replace B := Below.next B D
      clear b D sD
      have xa0 := Xa.c0
      have xa1 := Xa.c1
      have xa2 := Xa.c2
      have xb0 := Xb.c0
      have xb1 := Xb.c1
      have xb2 := Xb.c2
      go_wp2_with fail
      refine (new_any _).mono ?_
      rintro e u2 ⟨rfl, F, hO⟩
      have b := hO.below
      clear hO
      clear xa0 xa1 xa2 xb0 xb1 xb2
      have D : Below (World.heap u1 |>.size) u1 u2 := Below.next (by repeat (first | exact Below.refl _ _ | apply Below.draws | apply below_lit)) b
      have sD := D.size
      replace Ra := Ra.below D
      replace Rb := Rb.below D
      replace Rz := Rz.below D
      replace Xa := Xa.below la D
      replace la := Nat.lt_of_lt_of_le la sD
      replace Xb := Xb.below lb D
      replace lb := Nat.lt_of_lt_of_le lb sD
      replace B := Below.next B D
      clear b D sD
      have xa0 := Xa.c0
      have xa1 := Xa.c1
      have xa2 := Xa.c2
      have xb0 := Xb.c0
      have xb1 := Xb.c1
      have xb2 := Xb.c2
      go_wp2_with fail
      refine (small_yes ⟨_, rfl, (Ra.below (by repeat (first | exact Below.refl _ _ | apply Below.draws | apply below_lit)))⟩ hs).mono ?_
      rintro e u3 ⟨rfl, b⟩
      clear xa0 xa1 xa2 xb0 xb1 xb2
      have D : Below (World.heap u2 |>.size) u2 u3 := Below.next (by repeat (first | exact Below.refl _ _ | apply Below.draws | apply below_lit)) b
      have sD := D.size
      replace Ra := Ra.below D
      replace Rb := Rb.below D
      replace Rz := Rz.below D
      replace F := F.below D
      replace Xa := Xa.below la D
      replace la := Nat.lt_of_lt_of_le la sD
      replace Xb := Xb.below lb D
      replace lb := Nat.lt_of_lt_of_le lb sD
      replace B := Below.next B D
      clear b D sD
      have xa0 := Xa.c0
      have xa1 := Xa.c1
      have xa2 := Xa.c2
      have xb0 := Xb.c0
      have xb1 := Xb.c1
      have xb2 := Xb.c2
      go_wp2_with fail
      refine (small_no ⟨_, rfl, (Rb.below (by repeat (first | exact Below.refl _ _ | apply Below.draws | apply below_lit)))⟩ hs2).mono ?_
      rintro e u4 ⟨rfl, b⟩
      clear xa0 xa1 xa2 xb0 xb1 xb2
      have D : Below (World.heap u3 |>.size) u3 u4 := Below.next (by repeat (first | exact Below.refl _ _ | apply Below.draws | apply below_lit)) b
      have sD := D.size
      replace Ra := Ra.below D
      replace Rb := Rb.below D
      replace Rz := Rz.below D
      replace F := F.below D
      replace Xa := Xa.below la D
      replace la := Nat.lt_of_lt_of_le la sD
      replace Xb := Xb.below lb D
      replace lb := Nat.lt_of_lt_of_le lb sD
      replace B := Below.next B D
      clear b D sD
      have xa0 := Xa.c0
      have xa1 := Xa.c1
      have xa2 := Xa.c2
      have xb0 := Xb.c0
      have xb1 := Xb.c1
      have xb2 := Xb.c2
      go_wp2
      go_ret
      exact ⟨rfl, Below.next B (by repeat (first | exact Below.refl _ _ | apply Below.draws | apply below_lit))⟩
  · go_enter Try.func4, Try.ntmps4
    have B : Below w.heap.size w w := Below.refl _ _
    go_wp2_with fail
    refine (awake3_any _).mono ?_
    rintro e u1 ⟨rfl, b⟩
    have D : Below w.heap.size w u1 := Below.next (by repeat (first | exact Below.refl _ _ | apply Below.draws | apply below_lit)) b
    have sD := D.size
    replace Ra := Ra.below D
    replace Rb := Rb.below D
    have Xa : Box u1 (w.heap.size) _ _ _ := Below.box b (by simp <;> omega) (by first | exact Box.new _ _ _ _ _ | exact (Box.new _ _ _ _ _).alloc (by simp) _ | exact ((Box.new _ _ _ _ _).alloc (by simp) _).alloc (by simp <;> omega) _ | exact Box.new1 _ _ _ _ _ _ | exact (Box.new1 _ _ _ _ _ _).alloc (by simp <;> omega) _ | exact Box.new2 _ _ _ _ _ _ _)
    have la : w.heap.size < u1.heap.size := by have := b.size; simp at this; omega
    have Xb : Box u1 (w.heap.size + 1) _ _ _ := Below.box b (by simp <;> omega) (by first | exact Box.new _ _ _ _ _ | exact (Box.new _ _ _ _ _).alloc (by simp) _ | exact ((Box.new _ _ _ _ _).alloc (by simp) _).alloc (by simp <;> omega) _ | exact Box.new1 _ _ _ _ _ _ | exact (Box.new1 _ _ _ _ _ _).alloc (by simp <;> omega) _ | exact Box.new2 _ _ _ _ _ _ _)
    have lb : w.heap.size + 1 < u1.heap.size := by have := b.size; simp at this; omega
    replace Rz := Rz.below D
    replace B := Below.next B D
    clear b D sD
    have xa0 := Xa.c0
    have xa1 := Xa.c1
    have xa2 := Xa.c2
    have xb0 := Xb.c0
    have xb1 := Xb.c1
    have xb2 := Xb.c2
    go_wp2_with fail
    refine (new_any _).mono ?_
    rintro e u2 ⟨rfl, F, hO⟩
    have b := hO.below
    clear hO
    clear xa0 xa1 xa2 xb0 xb1 xb2
    have D : Below (World.heap u1 |>.size) u1 u2 := Below.next (by repeat (first | exact Below.refl _ _ | apply Below.draws | apply below_lit)) b
    have sD := D.size
    replace Ra := Ra.below D
    replace Rb := Rb.below D
    replace Rz := Rz.below D
    replace Xa := Xa.below la D
    replace la := Nat.lt_of_lt_of_le la sD
    replace Xb := Xb.below lb D
    replace lb := Nat.lt_of_lt_of_le lb sD
    replace B := Below.next B D
    clear b D sD
    have xa0 := Xa.c0
    have xa1 := Xa.c1
    have xa2 := Xa.c2
    have xb0 := Xb.c0
    have xb1 := Xb.c1
    have xb2 := Xb.c2
    go_wp2_with fail
    refine (small_no ⟨_, rfl, (Ra.below (by repeat (first | exact Below.refl _ _ | apply Below.draws | apply below_lit)))⟩ hs).mono ?_
    rintro e u3 ⟨rfl, b⟩
    clear xa0 xa1 xa2 xb0 xb1 xb2
    have D : Below (World.heap u2 |>.size) u2 u3 := Below.next (by repeat (first | exact Below.refl _ _ | apply Below.draws | apply below_lit)) b
    have sD := D.size
    replace Ra := Ra.below D
    replace Rb := Rb.below D
    replace Rz := Rz.below D
    replace F := F.below D
    replace Xa := Xa.below la D
    replace la := Nat.lt_of_lt_of_le la sD
    replace Xb := Xb.below lb D
    replace lb := Nat.lt_of_lt_of_le lb sD
    replace B := Below.next B D
    clear b D sD
    have xa0 := Xa.c0
    have xa1 := Xa.c1
    have xa2 := Xa.c2
    have xb0 := Xb.c0
    have xb1 := Xb.c1
    have xb2 := Xb.c2
    go_wp2
    go_ret
    exact ⟨rfl, Below.next B (by repeat (first | exact Below.refl _ _ | apply Below.draws | apply below_lit))⟩

/-! ### THE ROW's STEP: WRITTEN OUT: LEAVE IT -/
set_option maxRecDepth 100000 in
set_option maxHeartbeats 2000000 in
theorem lifted (os : Os) (started : os.Started) (H : Type) (enc : TypeId × Value → H) :
    ReturnsInHanded {} Try.checked os 4 .any (Rows.matrixTellsSpec.pre6 enc Try.prog Try.f4 Rows.matrixTellsRow.domain false) (Rows.matrixTellsSpec.post enc Try.prog Try.f4 false true false false) := by
  refine returnsInHanded_of_change (C := Try.checked) own started (by kernel_rfl) Try.func4
    (ChangeSpec.witness6 (enc := enc) (C := Try.checked) false ⟨#[], #[.agg #[.int .i64 0, .int .i64 0, .slice none 0 0], .agg #[.int .i64 0, .int .i64 0, .slice none 0 0], .slice none 0 0, .int .i64 0], []⟩ 8 (by kernel_rfl) (by kernel_rfl) (by kernel_rfl) (by kernel_rfl)) ?_
  intro W base args ds gs before hval0 hW hcnd _
  have hval : ∀ (j : Nat) t v, Try.f4.params[j]? = some t → args[j]? = some v → Value.okWide Try.prog W .any base t v := hval0
  have hW' := hW
  obtain ⟨p, q, hA0, hV, rfl, hfz, hnd⟩ := hW
  have hA : DataW.TrodAll enc Try.prog W 0 (fun _ => true) true Try.f4.params.toList args.toList ds p := hA0
  rw [Try.params4] at hA hval
  obtain ⟨v0, vs0, d0, ds0, p0, q0, hargs, rfl, rfl, h0, r0⟩ := trodAll_cons hA
  obtain ⟨v1, vs1, d1, ds1, p1, q1, rfl, rfl, rfl, h1, r1⟩ := trodAll_cons r0
  obtain ⟨v2, vs2, d2, ds2, p2, q2, rfl, rfl, rfl, h2, r2⟩ := trodAll_cons r1
  obtain ⟨v3, vs3, d3, ds3, p3, q3, rfl, rfl, rfl, h3, r3⟩ := trodAll_cons r2
  obtain ⟨rfl, rfl, rfl⟩ := trodAll_nil r3
  obtain rfl : args = #[v0, v1, v2, v3] := by cases args; simp_all
  obtain ⟨rfl, rfl⟩ := trodVars_none hV
  have k0 := h0
  have lt0 : ∀ x ∈ p0, x.block < W.heap.size := by obtain ⟨m, hm⟩ := k0; exact DataW.trod_lt m _ _ _ hm
  obtain ⟨x00, x01, x02, y00, y01, y02, m0, rfl, rfl, rfl, hy00, hy01, hy02⟩ := Go.Joins.open_agg3 Try.underlying25 (by kernel_rfl) (by kernel_rfl) (hval 0 25 v0 rfl rfl) h0
  obtain ⟨mr0, e00, f00, wr0⟩ := DataW.trod_int Try.underlying3 hy00
  obtain ⟨mc0, e01, f01, wc0⟩ := DataW.trod_int Try.underlying3 hy01
  obtain ⟨a0, len0, cap0, z0, e02, w0⟩ : ∃ a len cap zs, x02 = .slice a len cap ∧ IsRow .u8 W a len cap zs := by
    rcases open_ints Try.underlying23 Try.underlying5 (by kernel_rfl) hy02 with ⟨hcs, _⟩ | ⟨x, l, c, zs, hcs, _, hl, hm, hz, _, hcell, hwz⟩
    · simp at hcs
      exact ⟨none, 0, 0, [], hcs, .inl ⟨rfl, rfl, rfl, rfl⟩⟩
    · simp at hcs
      exact ⟨_, _, _, zs, hcs, .inr ⟨_, rfl, hl, hm, by simpa using hz, hcell, hwz⟩⟩
  simp at e00 e01
  subst e00 e01 e02
  have k1 := h1
  have lt1 : ∀ x ∈ p1, x.block < W.heap.size := by obtain ⟨m, hm⟩ := k1; exact DataW.trod_lt m _ _ _ hm
  obtain ⟨x10, x11, x12, y10, y11, y12, m1, rfl, rfl, rfl, hy10, hy11, hy12⟩ := Go.Joins.open_agg3 Try.underlying25 (by kernel_rfl) (by kernel_rfl) (hval 1 25 v1 rfl rfl) h1
  obtain ⟨mr1, e10, f10, wr1⟩ := DataW.trod_int Try.underlying3 hy10
  obtain ⟨mc1, e11, f11, wc1⟩ := DataW.trod_int Try.underlying3 hy11
  obtain ⟨a1, len1, cap1, z1, e12, w1⟩ : ∃ a len cap zs, x12 = .slice a len cap ∧ IsRow .u8 W a len cap zs := by
    rcases open_ints Try.underlying23 Try.underlying5 (by kernel_rfl) hy12 with ⟨hcs, _⟩ | ⟨x, l, c, zs, hcs, _, hl, hm, hz, _, hcell, hwz⟩
    · simp at hcs
      exact ⟨none, 0, 0, [], hcs, .inl ⟨rfl, rfl, rfl, rfl⟩⟩
    · simp at hcs
      exact ⟨_, _, _, zs, hcs, .inr ⟨_, rfl, hl, hm, by simpa using hz, hcell, hwz⟩⟩
  simp at e10 e11
  subst e10 e11 e12
  obtain ⟨a2, len2, cap2, rfl⟩ := okWide_slice Try.underlying26 (hval 2 26 v2 rfl rfl)
  have k2 := h2
  have lt2 : ∀ x ∈ p2, x.block < W.heap.size := by obtain ⟨m, hm⟩ := k2; exact DataW.trod_lt m _ _ _ hm
  obtain ⟨z2, w2⟩ : ∃ zs, IsRow .i64 W a2 len2 cap2 zs := by
    obtain ⟨fuel, hf⟩ := h2
    rcases open_ints Try.underlying26 Try.underlying3 (by kernel_rfl) hf with ⟨hcs, _⟩ | ⟨x, l, c, zs, hcs, _, hl, hm, hz, _, hcell, hwz⟩
    · simp [Value.cells] at hcs
      obtain ⟨rfl, rfl, rfl⟩ := hcs
      exact ⟨[], .inl ⟨rfl, rfl, rfl, rfl⟩⟩
    · simp [Value.cells] at hcs
      obtain ⟨rfl, rfl, rfl⟩ := hcs
      exact ⟨zs, .inr ⟨_, rfl, hl, hm, by simpa using hz, hcell, hwz⟩⟩
  obtain ⟨a3, rfl, rfl, rfl, w3⟩ := open_int Try.underlying3 (hval 3 3 v3 rfl rfl) h3
  clear hA0 hval0
  refine (walk mr0 mc0 a0 len0 cap0 z0 mr1 mc1 a1 len1 cap1 z1 a2 len2 cap2 z2 a3 W wr0 wc0 w0 wr1 wc1 w1 w2 w3).mono fun e W' ⟨he, bel⟩ => ?_
  subst he
  exact ⟨_, rfl, _, _, _, [], _, [], hW', trodAll_mk1 (shut_bool Try.underlying4 _), (trodAll_cons_mk (Below.trod laidOut (by kernel_rfl) (of_decide_eq_true (by kernel_rfl)) k0 bel lt0) (trodAll_cons_mk (Below.trod laidOut (by kernel_rfl) (of_decide_eq_true (by kernel_rfl)) k1 bel lt1) (trodAll_cons_mk (Below.trod laidOut (by kernel_rfl) (of_decide_eq_true (by kernel_rfl)) k2 bel lt2) (trodAll_cons_mk (shut_int Try.underlying3 w3) trodAll_mk0)))), rfl, bel.frame _, fun h => by cases h⟩

theorem over : Rows.matrixTellsRow.holds Try.pinned (OpenSpec.ofChange Rows.matrixTellsSpec) :=
  OpenClaim.holds_of_wide 4 Try.f4 rfl rfl rfl rfl rfl rfl rfl ⟨rfl, rfl, rfl, rfl, rfl⟩ rfl rfl rfl rfl rfl (by kernel_rfl) Try.func4 (by kernel_rfl)
    (of_decide_eq_true (by kernel_rfl)) (by unfold Func.isWrapper; first | (rw [if_pos (by decide +kernel)]; kernel_rfl) | (rw [if_neg (by decide +kernel)]; exact ⟨rfl, rfl⟩))
    (fun os started H enc _ => lifted os started H enc)

/-- ████ THE STATEMENT ████ -/
theorem proved : Rows.MatrixTellsSaid := over
end Go.Proofs.Ytljbecalobnkbaa.matrixTells
namespace Go.Proofs.Ytljbecalobnkbaa
theorem matrixTells_holds : Rows.MatrixTellsSaid := matrixTells.proved
#print axioms matrixTells_holds
end Go.Proofs.Ytljbecalobnkbaa
