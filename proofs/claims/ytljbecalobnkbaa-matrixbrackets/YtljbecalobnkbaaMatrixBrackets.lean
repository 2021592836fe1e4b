/- PROVED: for all matrices a, b, c (whatever their rows and columns say) the call MatrixBrackets(a, b, c) returns true, and its arguments read behind it as before; no conditions. -/
import Derived.Test.YtljbecalobnkbaaRows
import Derived.Test.YtljbecalobnkbaaMxAwake
import Derived.Test.YtljbecalobnkbaaMxSmall
import Derived.Test.YtljbecalobnkbaaMxLaws
import Derived.Test.YtljbecalobnkbaaMxInv
import Derived.WalkKit
import Derived.ProofKit
import Derived.OpenShut
import Derived.ShutString
import Derived.ChangeOld
import Derived.Below
import Derived.Lib.SmallJoins
namespace Go.Proofs.Ytljbecalobnkbaa.matrixBrackets
open Go.ChangeShapes Go.WideShapes Go.ChangeAt Go.RowKit
open Go.ChangeMaps (open_string shut_string)
set_option linter.unusedVariables false

theorem own : ownKnob Try.prog.godebug = none := by kernel_rfl
theorem laidOut : laidOutB Try.prog = true := by kernel_rfl

/-- WHAT THE WALK IS TOLD OF A SLICE OF INTEGERS THAT CAME IN: it is nil; or it leads to a row of 'cap' cells, the numbers 'zs' (the first 'len' are its elements, the rest its spare room), each fitting its kind. -/
def IsRow (k : IntKind) (w : World) (a : Option Addr) (len cap : Nat) (zs : List Int) : Prop :=
  (a = none ∧ len = 0 ∧ cap = 0 ∧ zs = []) ∨
  ∃ x, a = some x ∧ len ≤ cap ∧ cap ≤ maxLen ∧ zs.length = cap ∧ (∀ i, i < zs.length → w.cell? (x.add i) = some (.int k (zs.getD i 0))) ∧ ∀ n ∈ zs, (Lit.int k n).wf = true

open Gf
set_option linter.unusedSimpArgs false
set_option maxRecDepth 100000 in
set_option maxHeartbeats 2000000 in
theorem walk (mr0 mc0 : Int) (a0 : Option Addr) (len0 cap0 : Nat) (z0 : List Int) (mr1 mc1 : Int) (a1 : Option Addr) (len1 cap1 : Nat) (z1 : List Int) (mr2 mc2 : Int) (a2 : Option Addr) (len2 cap2 : Nat) (z2 : List Int) (w : World) (wr0 : (Lit.int .i64 mr0).wf = true) (wc0 : (Lit.int .i64 mc0).wf = true) (w0 : IsRow .u8 w a0 len0 cap0 z0) (wr1 : (Lit.int .i64 mr1).wf = true) (wc1 : (Lit.int .i64 mc1).wf = true) (w1 : IsRow .u8 w a1 len1 cap1 z1) (wr2 : (Lit.int .i64 mr2).wf = true) (wc2 : (Lit.int .i64 mc2).wf = true) (w2 : IsRow .u8 w a2 len2 cap2 z2) :
    Calls Try.prog 6 #[.agg #[.int .i64 mr0, .int .i64 mc0, .slice a0 len0 cap0], .agg #[.int .i64 mr1, .int .i64 mc1, .slice a1 len1 cap1], .agg #[.int .i64 mr2, .int .i64 mc2, .slice a2 len2 cap2]] w fun e w' => e = .returned (.bool true) ∧ Below w.heap.size w w' := by
  obtain ⟨La, rfl, Ra⟩ := rd_row w0
  obtain ⟨Lb, rfl, Rb⟩ := rd_row w1
  obtain ⟨Lc, rfl, Rc⟩ := rd_row w2
  by_cases hsa : SmallM mr0 mc0 La
  · by_cases hsb : SmallM mr1 mc1 Lb
    · by_cases hsc : SmallM mr2 mc2 Lc
      · by_cases hab : OkM mr0 mc0 La ∧ OkM mr1 mc1 Lb ∧ mc0 = mr1
        · by_cases hbc : OkM mr1 mc1 Lb ∧ OkM mr2 mc2 Lc ∧ mc1 = mr2
          · obtain ⟨ka, kb, e1⟩ := hab
            obtain ⟨r, c, f1, f2, hr, hc, hAl⟩ := ka.nat
            subst f1
            subst f2
            obtain ⟨c2, d, f3, f4, hc2, hd, hBl⟩ := kb.nat
            subst f4
            subst f3
            have hcc : c2 = c := by omega
            subst hcc
            clear e1 hAl hBl
            obtain ⟨_, kc, e2⟩ := hbc
            obtain ⟨d2, m, f5, f6, hd2, hm, hCl⟩ := kc.nat
            subst f6
            subst f5
            have hdd : d2 = d := by omega
            subst hdd
            clear e2 hCl
            go_enter Try.func6, Try.ntmps6
            have B : Below w.heap.size w w := Below.refl _ _
            go_wp2_with fail
            refine (awake3_any _).mono ?_
            rintro e u1 ⟨rfl, b⟩
            have D : Below w.heap.size w u1 := Below.next (by repeat (first | exact Below.refl _ _ | apply Below.draws | apply below_lit)) b
            have sD := D.size
            replace Ra := Ra.below D
            replace Rb := Rb.below D
            replace Rc := Rc.below D
            have Xa : Box u1 (w.heap.size) _ _ _ := Below.box b (by simp <;> omega) (by first | exact Box.new _ _ _ _ _ | exact (Box.new _ _ _ _ _).alloc (by simp) _ | exact ((Box.new _ _ _ _ _).alloc (by simp) _).alloc (by simp <;> omega) _ | exact Box.new1 _ _ _ _ _ _ | exact (Box.new1 _ _ _ _ _ _).alloc (by simp <;> omega) _ | exact Box.new2 _ _ _ _ _ _ _)
            have la : w.heap.size < u1.heap.size := by have := b.size; simp at this; omega
            have Xb : Box u1 (w.heap.size + 1) _ _ _ := Below.box b (by simp <;> omega) (by first | exact Box.new _ _ _ _ _ | exact (Box.new _ _ _ _ _).alloc (by simp) _ | exact ((Box.new _ _ _ _ _).alloc (by simp) _).alloc (by simp <;> omega) _ | exact Box.new1 _ _ _ _ _ _ | exact (Box.new1 _ _ _ _ _ _).alloc (by simp <;> omega) _ | exact Box.new2 _ _ _ _ _ _ _)
            have lb : w.heap.size + 1 < u1.heap.size := by have := b.size; simp at this; omega
            have Xc : Box u1 (w.heap.size + 1 + 1) _ _ _ := Below.box b (by simp <;> omega) (by first | exact Box.new _ _ _ _ _ | exact (Box.new _ _ _ _ _).alloc (by simp) _ | exact ((Box.new _ _ _ _ _).alloc (by simp) _).alloc (by simp <;> omega) _ | exact Box.new1 _ _ _ _ _ _ | exact (Box.new1 _ _ _ _ _ _).alloc (by simp <;> omega) _ | exact Box.new2 _ _ _ _ _ _ _)
            have lc : w.heap.size + 1 + 1 < u1.heap.size := by have := b.size; simp at this; omega
            replace B := Below.next B D
            clear b D sD
            have xa0 := Xa.c0
            have xa1 := Xa.c1
            have xa2 := Xa.c2
            have xb0 := Xb.c0
            have xb1 := Xb.c1
            have xb2 := Xb.c2
            have xc0 := Xc.c0
            have xc1 := Xc.c1
            have xc2 := Xc.c2
            go_wp2_with fail
            refine (new_any _).mono ?_
            rintro e u2 ⟨rfl, F, hO⟩
            have b := hO.below
            clear hO
            clear xa0 xa1 xa2 xb0 xb1 xb2 xc0 xc1 xc2
            have D : Below (World.heap u1 |>.size) u1 u2 := Below.next (by repeat (first | exact Below.refl _ _ | apply Below.draws | apply below_lit)) b
            have sD := D.size
            replace Ra := Ra.below D
            replace Rb := Rb.below D
            replace Rc := Rc.below D
            replace Xa := Xa.below la D
            replace la := Nat.lt_of_lt_of_le la sD
            replace Xb := Xb.below lb D
            replace lb := Nat.lt_of_lt_of_le lb sD
            replace Xc := Xc.below lc D
            replace lc := Nat.lt_of_lt_of_le lc sD
            replace B := Below.next B D
            clear b D sD
            have xa0 := Xa.c0
            have xa1 := Xa.c1
            have xa2 := Xa.c2
            have xb0 := Xb.c0
            have xb1 := Xb.c1
            have xb2 := Xb.c2
            have xc0 := Xc.c0
            have xc1 := Xc.c1
            have xc2 := Xc.c2
            go_wp2_with fail
            refine (small_yes ⟨_, rfl, (Ra.below (by repeat (first | exact Below.refl _ _ | apply Below.draws | apply below_lit)))⟩ hsa).mono ?_
            rintro e u3 ⟨rfl, b⟩
            clear xa0 xa1 xa2 xb0 xb1 xb2 xc0 xc1 xc2
            have D : Below (World.heap u2 |>.size) u2 u3 := Below.next (by repeat (first | exact Below.refl _ _ | apply Below.draws | apply below_lit)) b
            have sD := D.size
            replace Ra := Ra.below D
            replace Rb := Rb.below D
            replace Rc := Rc.below D
            replace F := F.below D
            replace Xa := Xa.below la D
            replace la := Nat.lt_of_lt_of_le la sD
            replace Xb := Xb.below lb D
            replace lb := Nat.lt_of_lt_of_le lb sD
            replace Xc := Xc.below lc D
            replace lc := Nat.lt_of_lt_of_le lc sD
            replace B := Below.next B D
            clear b D sD
            have xa0 := Xa.c0
            have xa1 := Xa.c1
            have xa2 := Xa.c2
            have xb0 := Xb.c0
            have xb1 := Xb.c1
            have xb2 := Xb.c2
            have xc0 := Xc.c0
            have xc1 := Xc.c1
            have xc2 := Xc.c2
            go_wp2_with fail
            refine (small_yes ⟨_, rfl, (Rb.below (by repeat (first | exact Below.refl _ _ | apply Below.draws | apply below_lit)))⟩ hsb).mono ?_
            rintro e u4 ⟨rfl, b⟩
            clear xa0 xa1 xa2 xb0 xb1 xb2 xc0 xc1 xc2
            have D : Below (World.heap u3 |>.size) u3 u4 := Below.next (by repeat (first | exact Below.refl _ _ | apply Below.draws | apply below_lit)) b
            have sD := D.size
            replace Ra := Ra.below D
            replace Rb := Rb.below D
            replace Rc := Rc.below D
            replace F := F.below D
            replace Xa := Xa.below la D
            replace la := Nat.lt_of_lt_of_le la sD
            replace Xb := Xb.below lb D
            replace lb := Nat.lt_of_lt_of_le lb sD
            replace Xc := Xc.below lc D
            replace lc := Nat.lt_of_lt_of_le lc sD
            replace B := Below.next B D
            clear b D sD
            have xa0 := Xa.c0
            have xa1 := Xa.c1
            have xa2 := Xa.c2
            have xb0 := Xb.c0
            have xb1 := Xb.c1
            have xb2 := Xb.c2
            have xc0 := Xc.c0
            have xc1 := Xc.c1
            have xc2 := Xc.c2
            go_wp2_with fail
            refine (small_yes ⟨_, rfl, (Rc.below (by repeat (first | exact Below.refl _ _ | apply Below.draws | apply below_lit)))⟩ hsc).mono ?_
            rintro e u5 ⟨rfl, b⟩
            clear xa0 xa1 xa2 xb0 xb1 xb2 xc0 xc1 xc2
            have D : Below (World.heap u4 |>.size) u4 u5 := Below.next (by repeat (first | exact Below.refl _ _ | apply Below.draws | apply below_lit)) b
            have sD := D.size
            replace Ra := Ra.below D
            replace Rb := Rb.below D
            replace Rc := Rc.below D
            replace F := F.below D
            replace Xa := Xa.below la D
            replace la := Nat.lt_of_lt_of_le la sD
            replace Xb := Xb.below lb D
            replace lb := Nat.lt_of_lt_of_le lb sD
            replace Xc := Xc.below lc D
            replace lc := Nat.lt_of_lt_of_le lc sD
            replace B := Below.next B D
            clear b D sD
            have xa0 := Xa.c0
            have xa1 := Xa.c1
            have xa2 := Xa.c2
            have xb0 := Xb.c0
            have xb1 := Xb.c1
            have xb2 := Xb.c2
            have xc0 := Xc.c0
            have xc1 := Xc.c1
            have xc2 := Xc.c2
            go_wp2_with fail
            refine (mmul_ok (F.below (by repeat (first | exact Below.refl _ _ | apply Below.draws | apply below_lit))) ⟨_, rfl, (Ra.below (by repeat (first | exact Below.refl _ _ | apply Below.draws | apply below_lit)))⟩ ⟨_, rfl, (Rb.below (by repeat (first | exact Below.refl _ _ | apply Below.draws | apply below_lit)))⟩ ka kb).mono ?_
            rintro e u6 ⟨vp, rfl, Rp, b⟩
            clear xa0 xa1 xa2 xb0 xb1 xb2 xc0 xc1 xc2
            have D : Below (World.heap u5 |>.size) u5 u6 := Below.next (by repeat (first | exact Below.refl _ _ | apply Below.draws | apply below_lit)) b
            have sD := D.size
            replace Ra := Ra.below D
            replace Rb := Rb.below D
            replace Rc := Rc.below D
            replace F := F.below D
            replace Xa := Xa.below la D
            replace la := Nat.lt_of_lt_of_le la sD
            replace Xb := Xb.below lb D
            replace lb := Nat.lt_of_lt_of_le lb sD
            replace Xc := Xc.below lc D
            replace lc := Nat.lt_of_lt_of_le lc sD
            replace B := Below.next B D
            clear b D sD
            have xa0 := Xa.c0
            have xa1 := Xa.c1
            have xa2 := Xa.c2
            have xb0 := Xb.c0
            have xb1 := Xb.c1
            have xb2 := Xb.c2
            have xc0 := Xc.c0
            have xc1 := Xc.c1
            have xc2 := Xc.c2
            obtain ⟨ap, cp, rfl⟩ := Rp.form
            go_wp2_with fail
            refine (mmul_ok (F.below (by repeat (first | exact Below.refl _ _ | apply Below.draws | apply below_lit))) ⟨_, rfl, (Rb.below (by repeat (first | exact Below.refl _ _ | apply Below.draws | apply below_lit)))⟩ ⟨_, rfl, (Rc.below (by repeat (first | exact Below.refl _ _ | apply Below.draws | apply below_lit)))⟩ kb kc).mono ?_
            rintro e u7 ⟨vq, rfl, Rq, b⟩
            clear xa0 xa1 xa2 xb0 xb1 xb2 xc0 xc1 xc2
            have D : Below (World.heap u6 |>.size) u6 u7 := Below.next (by repeat (first | exact Below.refl _ _ | apply Below.draws | apply below_lit)) b
            have sD := D.size
            replace Ra := Ra.below D
            replace Rb := Rb.below D
            replace Rc := Rc.below D
            replace F := F.below D
            replace Rp := Rp.below D
            replace Xa := Xa.below la D
            replace la := Nat.lt_of_lt_of_le la sD
            replace Xb := Xb.below lb D
            replace lb := Nat.lt_of_lt_of_le lb sD
            replace Xc := Xc.below lc D
            replace lc := Nat.lt_of_lt_of_le lc sD
            have Xp : Box u7 (World.heap u6 |>.size) _ _ _ := Below.box b (by simp <;> omega) (by first | exact Box.new _ _ _ _ _ | exact (Box.new _ _ _ _ _).alloc (by simp) _ | exact ((Box.new _ _ _ _ _).alloc (by simp) _).alloc (by simp <;> omega) _)
            have lp : (World.heap u6 |>.size) < (World.heap u7 |>.size) := by have := b.size; simp at this; omega
            replace B := Below.next B D
            clear b D sD
            have xa0 := Xa.c0
            have xa1 := Xa.c1
            have xa2 := Xa.c2
            have xb0 := Xb.c0
            have xb1 := Xb.c1
            have xb2 := Xb.c2
            have xc0 := Xc.c0
            have xc1 := Xc.c1
            have xc2 := Xc.c2
            have xp0 := Xp.c0
            have xp1 := Xp.c1
            have xp2 := Xp.c2
            obtain ⟨aq, cq, rfl⟩ := Rq.form
            go_wp2_with fail
            refine (mmul_ok (F.below (by repeat (first | exact Below.refl _ _ | apply Below.draws | apply below_lit))) ⟨_, rfl, (Rp.below (by repeat (first | exact Below.refl _ _ | apply Below.draws | apply below_lit)))⟩ ⟨_, rfl, (Rc.below (by repeat (first | exact Below.refl _ _ | apply Below.draws | apply below_lit)))⟩ (okM_flat _ (by omega) (by omega)) kc).mono ?_
            rintro e u8 ⟨vx, rfl, Rx, b⟩
            clear xa0 xa1 xa2 xb0 xb1 xb2 xc0 xc1 xc2 xp0 xp1 xp2
            have D : Below (World.heap u7 |>.size) u7 u8 := Below.next (by repeat (first | exact Below.refl _ _ | apply Below.draws | apply below_lit)) b
            have sD := D.size
            replace Ra := Ra.below D
            replace Rb := Rb.below D
            replace Rc := Rc.below D
            replace F := F.below D
            replace Rp := Rp.below D
            replace Rq := Rq.below D
            replace Xa := Xa.below la D
            replace la := Nat.lt_of_lt_of_le la sD
            replace Xb := Xb.below lb D
            replace lb := Nat.lt_of_lt_of_le lb sD
            replace Xc := Xc.below lc D
            replace lc := Nat.lt_of_lt_of_le lc sD
            replace Xp := Xp.below lp D
            replace lp := Nat.lt_of_lt_of_le lp sD
            have Xq : Box u8 (World.heap u7 |>.size) _ _ _ := Below.box b (by simp <;> omega) (by first | exact Box.new _ _ _ _ _ | exact (Box.new _ _ _ _ _).alloc (by simp) _ | exact ((Box.new _ _ _ _ _).alloc (by simp) _).alloc (by simp <;> omega) _)
            have lq : (World.heap u7 |>.size) < (World.heap u8 |>.size) := by have := b.size; simp at this; omega
            replace B := Below.next B D
            clear b D sD
            have xa0 := Xa.c0
            have xa1 := Xa.c1
            have xa2 := Xa.c2
            have xb0 := Xb.c0
            have xb1 := Xb.c1
            have xb2 := Xb.c2
            have xc0 := Xc.c0
            have xc1 := Xc.c1
            have xc2 := Xc.c2
            have xp0 := Xp.c0
            have xp1 := Xp.c1
            have xp2 := Xp.c2
            have xq0 := Xq.c0
            have xq1 := Xq.c1
            have xq2 := Xq.c2
            obtain ⟨ax, cx, rfl⟩ := Rx.form
            go_wp2_with fail
            refine (mmul_ok (F.below (by repeat (first | exact Below.refl _ _ | apply Below.draws | apply below_lit))) ⟨_, rfl, (Ra.below (by repeat (first | exact Below.refl _ _ | apply Below.draws | apply below_lit)))⟩ ⟨_, rfl, (Rq.below (by repeat (first | exact Below.refl _ _ | apply Below.draws | apply below_lit)))⟩ ka (okM_flat _ (by omega) (by omega))).mono ?_
            rintro e u9 ⟨vy, rfl, Ry, b⟩
            clear xa0 xa1 xa2 xb0 xb1 xb2 xc0 xc1 xc2 xp0 xp1 xp2 xq0 xq1 xq2
            have D : Below (World.heap u8 |>.size) u8 u9 := Below.next (by repeat (first | exact Below.refl _ _ | apply Below.draws | apply below_lit)) b
            have sD := D.size
            replace Ra := Ra.below D
            replace Rb := Rb.below D
            replace Rc := Rc.below D
            replace F := F.below D
            replace Rp := Rp.below D
            replace Rq := Rq.below D
            replace Rx := Rx.below D
            replace Xa := Xa.below la D
            replace la := Nat.lt_of_lt_of_le la sD
            replace Xb := Xb.below lb D
            replace lb := Nat.lt_of_lt_of_le lb sD
            replace Xc := Xc.below lc D
            replace lc := Nat.lt_of_lt_of_le lc sD
            replace Xp := Xp.below lp D
            replace lp := Nat.lt_of_lt_of_le lp sD
            replace Xq := Xq.below lq D
            replace lq := Nat.lt_of_lt_of_le lq sD
            have Xx : Box u9 (World.heap u8 |>.size) _ _ _ := Below.box b (by simp <;> omega) (by first | exact Box.new _ _ _ _ _ | exact (Box.new _ _ _ _ _).alloc (by simp) _ | exact ((Box.new _ _ _ _ _).alloc (by simp) _).alloc (by simp <;> omega) _)
            have lx : (World.heap u8 |>.size) < (World.heap u9 |>.size) := by have := b.size; simp at this; omega
            replace B := Below.next B D
            clear b D sD
            have xa0 := Xa.c0
            have xa1 := Xa.c1
            have xa2 := Xa.c2
            have xb0 := Xb.c0
            have xb1 := Xb.c1
            have xb2 := Xb.c2
            have xc0 := Xc.c0
            have xc1 := Xc.c1
            have xc2 := Xc.c2
            have xp0 := Xp.c0
            have xp1 := Xp.c1
            have xp2 := Xp.c2
            have xq0 := Xq.c0
            have xq1 := Xq.c1
            have xq2 := Xq.c2
            have xx0 := Xx.c0
            have xx1 := Xx.c1
            have xx2 := Xx.c2
            obtain ⟨ay, cy, rfl⟩ := Ry.form
            go_wp2_with fail
            refine (same3 ⟨_, rfl, (Rx.below (by repeat (first | exact Below.refl _ _ | apply Below.draws | apply below_lit))).as (br_x _ _ _)⟩ ⟨_, rfl, (Ry.below (by repeat (first | exact Below.refl _ _ | apply Below.draws | apply below_lit)))⟩).mono ?_
            rintro e u10 ⟨rfl, b⟩
            clear xa0 xa1 xa2 xb0 xb1 xb2 xc0 xc1 xc2 xp0 xp1 xp2 xq0 xq1 xq2 xx0 xx1 xx2
            have D : Below (World.heap u9 |>.size) u9 u10 := Below.next (by repeat (first | exact Below.refl _ _ | apply Below.draws | apply below_lit)) b
            have sD := D.size
            replace Ra := Ra.below D
            replace Rb := Rb.below D
            replace Rc := Rc.below D
            replace F := F.below D
            replace Rp := Rp.below D
            replace Rq := Rq.below D
            replace Rx := Rx.below D
            replace Ry := Ry.below D
            replace Xa := Xa.below la D
            replace la := Nat.lt_of_lt_of_le la sD
            replace Xb := Xb.below lb D
            replace lb := Nat.lt_of_lt_of_le lb sD
            replace Xc := Xc.below lc D
            replace lc := Nat.lt_of_lt_of_le lc sD
            replace Xp := Xp.below lp D
            replace lp := Nat.lt_of_lt_of_le lp sD
            replace Xq := Xq.below lq D
            replace lq := Nat.lt_of_lt_of_le lq sD
            replace Xx := Xx.below lx D
            replace lx := Nat.lt_of_lt_of_le lx sD
            have Xy : Box u10 (World.heap u9 |>.size) _ _ _ := Below.box b (by simp <;> omega) (by first | exact Box.new _ _ _ _ _ | exact (Box.new _ _ _ _ _).alloc (by simp) _ | exact ((Box.new _ _ _ _ _).alloc (by simp) _).alloc (by simp <;> omega) _)
            have ly : (World.heap u9 |>.size) < (World.heap u10 |>.size) := by have := b.size; simp at this; omega
            replace B := Below.next B D
            clear b D sD
            have xa0 := Xa.c0
            have xa1 := Xa.c1
            have xa2 := Xa.c2
            have xb0 := Xb.c0
            have xb1 := Xb.c1
            have xb2 := Xb.c2
            have xc0 := Xc.c0
            have xc1 := Xc.c1
            have xc2 := Xc.c2
            have xp0 := Xp.c0
            have xp1 := Xp.c1
            have xp2 := Xp.c2
            have xq0 := Xq.c0
            have xq1 := Xq.c1
            have xq2 := Xq.c2
            have xx0 := Xx.c0
            have xx1 := Xx.c1
            have xx2 := Xx.c2
            have xy0 := Xy.c0
            have xy1 := Xy.c1
            have xy2 := Xy.c2
            go_wp2_with fail
            refine (minv_some (F.below (by repeat (first | exact Below.refl _ _ | apply Below.draws | apply below_lit))) ⟨_, rfl, (Ra.below (by repeat (first | exact Below.refl _ _ | apply Below.draws | apply below_lit)))⟩ ka).mono ?_
            rintro e u11 (⟨V, eV, hV, vv, rfl, Rv, b⟩ | ⟨xv, hxv, vv, rfl, Rv, b⟩)
            · clear xa0 xa1 xa2 xb0 xb1 xb2 xc0 xc1 xc2 xp0 xp1 xp2 xq0 xq1 xq2 xx0 xx1 xx2 xy0 xy1 xy2
              have D : Below (World.heap u10 |>.size) u10 u11 := Below.next (by repeat (first | exact Below.refl _ _ | apply Below.draws | apply below_lit)) b
              have sD := D.size
              replace Ra := Ra.below D
              replace Rb := Rb.below D
              replace Rc := Rc.below D
              replace F := F.below D
              replace Rp := Rp.below D
              replace Rq := Rq.below D
              replace Rx := Rx.below D
              replace Ry := Ry.below D
              replace Xa := Xa.below la D
              replace la := Nat.lt_of_lt_of_le la sD
              replace Xb := Xb.below lb D
              replace lb := Nat.lt_of_lt_of_le lb sD
              replace Xc := Xc.below lc D
              replace lc := Nat.lt_of_lt_of_le lc sD
              replace Xp := Xp.below lp D
              replace lp := Nat.lt_of_lt_of_le lp sD
              replace Xq := Xq.below lq D
              replace lq := Nat.lt_of_lt_of_le lq sD
              replace Xx := Xx.below lx D
              replace lx := Nat.lt_of_lt_of_le lx sD
              replace Xy := Xy.below ly D
              replace ly := Nat.lt_of_lt_of_le ly sD
              replace B := Below.next B D
              clear b D sD
              have xa0 := Xa.c0
              have xa1 := Xa.c1
              have xa2 := Xa.c2
              have xb0 := Xb.c0
              have xb1 := Xb.c1
              have xb2 := Xb.c2
              have xc0 := Xc.c0
              have xc1 := Xc.c1
              have xc2 := Xc.c2
              have xp0 := Xp.c0
              have xp1 := Xp.c1
              have xp2 := Xp.c2
              have xq0 := Xq.c0
              have xq1 := Xq.c1
              have xq2 := Xq.c2
              have xx0 := Xx.c0
              have xx1 := Xx.c1
              have xx2 := Xx.c2
              have xy0 := Xy.c0
              have xy1 := Xy.c1
              have xy2 := Xy.c2
              obtain ⟨av, cv, rfl⟩ := Rv.form
              go_wp2_with fail
              refine (minv_some (F.below (by repeat (first | exact Below.refl _ _ | apply Below.draws | apply below_lit))) ⟨_, rfl, (Rb.below (by repeat (first | exact Below.refl _ _ | apply Below.draws | apply below_lit)))⟩ kb).mono ?_
              rintro e u12 (⟨W, eW, hW, vw, rfl, Rw, b⟩ | ⟨xw, hxw, vw, rfl, Rw, b⟩)
              · clear xa0 xa1 xa2 xb0 xb1 xb2 xc0 xc1 xc2 xp0 xp1 xp2 xq0 xq1 xq2 xx0 xx1 xx2 xy0 xy1 xy2
                have D : Below (World.heap u11 |>.size) u11 u12 := Below.next (by repeat (first | exact Below.refl _ _ | apply Below.draws | apply below_lit)) b
                have sD := D.size
                replace Ra := Ra.below D
                replace Rb := Rb.below D
                replace Rc := Rc.below D
                replace F := F.below D
                replace Rp := Rp.below D
                replace Rq := Rq.below D
                replace Rx := Rx.below D
                replace Ry := Ry.below D
                replace Rv := Rv.below D
                replace Xa := Xa.below la D
                replace la := Nat.lt_of_lt_of_le la sD
                replace Xb := Xb.below lb D
                replace lb := Nat.lt_of_lt_of_le lb sD
                replace Xc := Xc.below lc D
                replace lc := Nat.lt_of_lt_of_le lc sD
                replace Xp := Xp.below lp D
                replace lp := Nat.lt_of_lt_of_le lp sD
                replace Xq := Xq.below lq D
                replace lq := Nat.lt_of_lt_of_le lq sD
                replace Xx := Xx.below lx D
                replace lx := Nat.lt_of_lt_of_le lx sD
                replace Xy := Xy.below ly D
                replace ly := Nat.lt_of_lt_of_le ly sD
                have Xv : Box u12 (World.heap u11 |>.size) _ _ _ := Below.box b (by simp <;> omega) (by first | exact Box.new _ _ _ _ _ | exact (Box.new _ _ _ _ _).alloc (by simp) _ | exact ((Box.new _ _ _ _ _).alloc (by simp) _).alloc (by simp <;> omega) _)
                have lv : (World.heap u11 |>.size) < (World.heap u12 |>.size) := by have := b.size; simp at this; omega
                replace B := Below.next B D
                clear b D sD
                have xa0 := Xa.c0
                have xa1 := Xa.c1
                have xa2 := Xa.c2
                have xb0 := Xb.c0
                have xb1 := Xb.c1
                have xb2 := Xb.c2
                have xc0 := Xc.c0
                have xc1 := Xc.c1
                have xc2 := Xc.c2
                have xp0 := Xp.c0
                have xp1 := Xp.c1
                have xp2 := Xp.c2
                have xq0 := Xq.c0
                have xq1 := Xq.c1
                have xq2 := Xq.c2
                have xx0 := Xx.c0
                have xx1 := Xx.c1
                have xx2 := Xx.c2
                have xy0 := Xy.c0
                have xy1 := Xy.c1
                have xy2 := Xy.c2
                have xv0 := Xv.c0
                have xv1 := Xv.c1
                have xv2 := Xv.c2
                obtain ⟨aw, cw, rfl⟩ := Rw.form
                subst eV
                subst eW
                go_wp2_with fail
                refine (minv_ok (F.below (by repeat (first | exact Below.refl _ _ | apply Below.draws | apply below_lit))) ⟨_, rfl, (Rp.below (by repeat (first | exact Below.refl _ _ | apply Below.draws | apply below_lit)))⟩ (okM_flat _ (by omega) (by omega))).mono ?_
                rintro e u13 (⟨Z, hZ, vz, rfl, Rz, b⟩ | ⟨hs2, _⟩)
                rotate_left
                · exact (br_no hV hW hs2).elim
                clear xa0 xa1 xa2 xb0 xb1 xb2 xc0 xc1 xc2 xp0 xp1 xp2 xq0 xq1 xq2 xx0 xx1 xx2 xy0 xy1 xy2 xv0 xv1 xv2
                have D : Below (World.heap u12 |>.size) u12 u13 := Below.next (by repeat (first | exact Below.refl _ _ | apply Below.draws | apply below_lit)) b
                have sD := D.size
                replace Ra := Ra.below D
                replace Rb := Rb.below D
                replace Rc := Rc.below D
                replace F := F.below D
                replace Rp := Rp.below D
                replace Rq := Rq.below D
                replace Rx := Rx.below D
                replace Ry := Ry.below D
                replace Rv := Rv.below D
                replace Rw := Rw.below D
                replace Xa := Xa.below la D
                replace la := Nat.lt_of_lt_of_le la sD
                replace Xb := Xb.below lb D
                replace lb := Nat.lt_of_lt_of_le lb sD
                replace Xc := Xc.below lc D
                replace lc := Nat.lt_of_lt_of_le lc sD
                replace Xp := Xp.below lp D
                replace lp := Nat.lt_of_lt_of_le lp sD
                replace Xq := Xq.below lq D
                replace lq := Nat.lt_of_lt_of_le lq sD
                replace Xx := Xx.below lx D
                replace lx := Nat.lt_of_lt_of_le lx sD
                replace Xy := Xy.below ly D
                replace ly := Nat.lt_of_lt_of_le ly sD
                replace Xv := Xv.below lv D
                replace lv := Nat.lt_of_lt_of_le lv sD
                have Xw : Box u13 (World.heap u12 |>.size) _ _ _ := Below.box b (by simp <;> omega) (by first | exact Box.new _ _ _ _ _ | exact (Box.new _ _ _ _ _).alloc (by simp) _ | exact ((Box.new _ _ _ _ _).alloc (by simp) _).alloc (by simp <;> omega) _)
                have lw : (World.heap u12 |>.size) < (World.heap u13 |>.size) := by have := b.size; simp at this; omega
                replace B := Below.next B D
                clear b D sD
                have xa0 := Xa.c0
                have xa1 := Xa.c1
                have xa2 := Xa.c2
                have xb0 := Xb.c0
                have xb1 := Xb.c1
                have xb2 := Xb.c2
                have xc0 := Xc.c0
                have xc1 := Xc.c1
                have xc2 := Xc.c2
                have xp0 := Xp.c0
                have xp1 := Xp.c1
                have xp2 := Xp.c2
                have xq0 := Xq.c0
                have xq1 := Xq.c1
                have xq2 := Xq.c2
                have xx0 := Xx.c0
                have xx1 := Xx.c1
                have xx2 := Xx.c2
                have xy0 := Xy.c0
                have xy1 := Xy.c1
                have xy2 := Xy.c2
                have xv0 := Xv.c0
                have xv1 := Xv.c1
                have xv2 := Xv.c2
                have xw0 := Xw.c0
                have xw1 := Xw.c1
                have xw2 := Xw.c2
                obtain ⟨az, cz, rfl⟩ := Rz.form
                go_wp2_with fail
                refine (mmul_ok (F.below (by repeat (first | exact Below.refl _ _ | apply Below.draws | apply below_lit))) ⟨_, rfl, (Rw.below (by repeat (first | exact Below.refl _ _ | apply Below.draws | apply below_lit)))⟩ ⟨_, rfl, (Rv.below (by repeat (first | exact Below.refl _ _ | apply Below.draws | apply below_lit)))⟩ (okM_flat W (by omega) (by omega)) (okM_flat V (by omega) (by omega))).mono ?_
                rintro e u14 ⟨vk, rfl, Rk, b⟩
                clear xa0 xa1 xa2 xb0 xb1 xb2 xc0 xc1 xc2 xp0 xp1 xp2 xq0 xq1 xq2 xx0 xx1 xx2 xy0 xy1 xy2 xv0 xv1 xv2 xw0 xw1 xw2
                have D : Below (World.heap u13 |>.size) u13 u14 := Below.next (by repeat (first | exact Below.refl _ _ | apply Below.draws | apply below_lit)) b
                have sD := D.size
                replace Ra := Ra.below D
                replace Rb := Rb.below D
                replace Rc := Rc.below D
                replace F := F.below D
                replace Rp := Rp.below D
                replace Rq := Rq.below D
                replace Rx := Rx.below D
                replace Ry := Ry.below D
                replace Rv := Rv.below D
                replace Rw := Rw.below D
                replace Rz := Rz.below D
                replace Xa := Xa.below la D
                replace la := Nat.lt_of_lt_of_le la sD
                replace Xb := Xb.below lb D
                replace lb := Nat.lt_of_lt_of_le lb sD
                replace Xc := Xc.below lc D
                replace lc := Nat.lt_of_lt_of_le lc sD
                replace Xp := Xp.below lp D
                replace lp := Nat.lt_of_lt_of_le lp sD
                replace Xq := Xq.below lq D
                replace lq := Nat.lt_of_lt_of_le lq sD
                replace Xx := Xx.below lx D
                replace lx := Nat.lt_of_lt_of_le lx sD
                replace Xy := Xy.below ly D
                replace ly := Nat.lt_of_lt_of_le ly sD
                replace Xv := Xv.below lv D
                replace lv := Nat.lt_of_lt_of_le lv sD
                replace Xw := Xw.below lw D
                replace lw := Nat.lt_of_lt_of_le lw sD
                have Xz : Box u14 (World.heap u13 |>.size) _ _ _ := Below.box b (by simp <;> omega) (by first | exact Box.new _ _ _ _ _ | exact (Box.new _ _ _ _ _).alloc (by simp) _ | exact ((Box.new _ _ _ _ _).alloc (by simp) _).alloc (by simp <;> omega) _)
                have lz : (World.heap u13 |>.size) < (World.heap u14 |>.size) := by have := b.size; simp at this; omega
                replace B := Below.next B D
                clear b D sD
                have xa0 := Xa.c0
                have xa1 := Xa.c1
                have xa2 := Xa.c2
                have xb0 := Xb.c0
                have xb1 := Xb.c1
                have xb2 := Xb.c2
                have xc0 := Xc.c0
                have xc1 := Xc.c1
                have xc2 := Xc.c2
                have xp0 := Xp.c0
                have xp1 := Xp.c1
                have xp2 := Xp.c2
                have xq0 := Xq.c0
                have xq1 := Xq.c1
                have xq2 := Xq.c2
                have xx0 := Xx.c0
                have xx1 := Xx.c1
                have xx2 := Xx.c2
                have xy0 := Xy.c0
                have xy1 := Xy.c1
                have xy2 := Xy.c2
                have xv0 := Xv.c0
                have xv1 := Xv.c1
                have xv2 := Xv.c2
                have xw0 := Xw.c0
                have xw1 := Xw.c1
                have xw2 := Xw.c2
                have xz0 := Xz.c0
                have xz1 := Xz.c1
                have xz2 := Xz.c2
                obtain ⟨ak, ck, rfl⟩ := Rk.form
                go_wp2_with fail
                refine (same3 ⟨_, rfl, (Rz.below (by repeat (first | exact Below.refl _ _ | apply Below.draws | apply below_lit))).as (br_inv hV hW hZ)⟩ ⟨_, rfl, (Rk.below (by repeat (first | exact Below.refl _ _ | apply Below.draws | apply below_lit)))⟩).mono ?_
                rintro e u15 ⟨rfl, b⟩
                clear xa0 xa1 xa2 xb0 xb1 xb2 xc0 xc1 xc2 xp0 xp1 xp2 xq0 xq1 xq2 xx0 xx1 xx2 xy0 xy1 xy2 xv0 xv1 xv2 xw0 xw1 xw2 xz0 xz1 xz2
                have D : Below (World.heap u14 |>.size) u14 u15 := Below.next (by repeat (first | exact Below.refl _ _ | apply Below.draws | apply below_lit)) b
                have sD := D.size
                replace Ra := Ra.below D
                replace Rb := Rb.below D
                replace Rc := Rc.below D
                replace F := F.below D
                replace Rp := Rp.below D
                replace Rq := Rq.below D
                replace Rx := Rx.below D
                replace Ry := Ry.below D
                replace Rv := Rv.below D
                replace Rw := Rw.below D
                replace Rz := Rz.below D
                replace Rk := Rk.below D
                replace Xa := Xa.below la D
                replace la := Nat.lt_of_lt_of_le la sD
                replace Xb := Xb.below lb D
                replace lb := Nat.lt_of_lt_of_le lb sD
                replace Xc := Xc.below lc D
                replace lc := Nat.lt_of_lt_of_le lc sD
                replace Xp := Xp.below lp D
                replace lp := Nat.lt_of_lt_of_le lp sD
                replace Xq := Xq.below lq D
                replace lq := Nat.lt_of_lt_of_le lq sD
                replace Xx := Xx.below lx D
                replace lx := Nat.lt_of_lt_of_le lx sD
                replace Xy := Xy.below ly D
                replace ly := Nat.lt_of_lt_of_le ly sD
                replace Xv := Xv.below lv D
                replace lv := Nat.lt_of_lt_of_le lv sD
                replace Xw := Xw.below lw D
                replace lw := Nat.lt_of_lt_of_le lw sD
                replace Xz := Xz.below lz D
                replace lz := Nat.lt_of_lt_of_le lz sD
                have Xk : Box u15 (World.heap u14 |>.size) _ _ _ := Below.box b (by simp <;> omega) (by first | exact Box.new _ _ _ _ _ | exact (Box.new _ _ _ _ _).alloc (by simp) _ | exact ((Box.new _ _ _ _ _).alloc (by simp) _).alloc (by simp <;> omega) _)
                have lk : (World.heap u14 |>.size) < (World.heap u15 |>.size) := by have := b.size; simp at this; omega
                replace B := Below.next B D
                clear b D sD
                have xa0 := Xa.c0
                have xa1 := Xa.c1
                have xa2 := Xa.c2
                have xb0 := Xb.c0
                have xb1 := Xb.c1
                have xb2 := Xb.c2
                have xc0 := Xc.c0
                have xc1 := Xc.c1
                have xc2 := Xc.c2
                have xp0 := Xp.c0
                have xp1 := Xp.c1
                have xp2 := Xp.c2
                have xq0 := Xq.c0
                have xq1 := Xq.c1
                have xq2 := Xq.c2
                have xx0 := Xx.c0
                have xx1 := Xx.c1
                have xx2 := Xx.c2
                have xy0 := Xy.c0
                have xy1 := Xy.c1
                have xy2 := Xy.c2
                have xv0 := Xv.c0
                have xv1 := Xv.c1
                have xv2 := Xv.c2
                have xw0 := Xw.c0
                have xw1 := Xw.c1
                have xw2 := Xw.c2
                have xz0 := Xz.c0
                have xz1 := Xz.c1
                have xz2 := Xz.c2
                have xk0 := Xk.c0
                have xk1 := Xk.c1
                have xk2 := Xk.c2
                go_wp2
                go_ret
                exact ⟨rfl, Below.next B (by repeat (first | exact Below.refl _ _ | apply Below.draws | apply below_lit))⟩
              · clear xa0 xa1 xa2 xb0 xb1 xb2 xc0 xc1 xc2 xp0 xp1 xp2 xq0 xq1 xq2 xx0 xx1 xx2 xy0 xy1 xy2
                have D : Below (World.heap u11 |>.size) u11 u12 := Below.next (by repeat (first | exact Below.refl _ _ | apply Below.draws | apply below_lit)) b
                have sD := D.size
                replace Ra := Ra.below D
                replace Rb := Rb.below D
                replace Rc := Rc.below D
                replace F := F.below D
                replace Rp := Rp.below D
                replace Rq := Rq.below D
                replace Rx := Rx.below D
                replace Ry := Ry.below D
                replace Rv := Rv.below D
                replace Xa := Xa.below la D
                replace la := Nat.lt_of_lt_of_le la sD
                replace Xb := Xb.below lb D
                replace lb := Nat.lt_of_lt_of_le lb sD
                replace Xc := Xc.below lc D
                replace lc := Nat.lt_of_lt_of_le lc sD
                replace Xp := Xp.below lp D
                replace lp := Nat.lt_of_lt_of_le lp sD
                replace Xq := Xq.below lq D
                replace lq := Nat.lt_of_lt_of_le lq sD
                replace Xx := Xx.below lx D
                replace lx := Nat.lt_of_lt_of_le lx sD
                replace Xy := Xy.below ly D
                replace ly := Nat.lt_of_lt_of_le ly sD
                have Xv : Box u12 (World.heap u11 |>.size) _ _ _ := Below.box b (by simp <;> omega) (by first | exact Box.new _ _ _ _ _ | exact (Box.new _ _ _ _ _).alloc (by simp) _ | exact ((Box.new _ _ _ _ _).alloc (by simp) _).alloc (by simp <;> omega) _)
                have lv : (World.heap u11 |>.size) < (World.heap u12 |>.size) := by have := b.size; simp at this; omega
                replace B := Below.next B D
                clear b D sD
                have xa0 := Xa.c0
                have xa1 := Xa.c1
                have xa2 := Xa.c2
                have xb0 := Xb.c0
                have xb1 := Xb.c1
                have xb2 := Xb.c2
                have xc0 := Xc.c0
                have xc1 := Xc.c1
                have xc2 := Xc.c2
                have xp0 := Xp.c0
                have xp1 := Xp.c1
                have xp2 := Xp.c2
                have xq0 := Xq.c0
                have xq1 := Xq.c1
                have xq2 := Xq.c2
                have xx0 := Xx.c0
                have xx1 := Xx.c1
                have xx2 := Xx.c2
                have xy0 := Xy.c0
                have xy1 := Xy.c1
                have xy2 := Xy.c2
                have xv0 := Xv.c0
                have xv1 := Xv.c1
                have xv2 := Xv.c2
                obtain ⟨aw, cw, rfl⟩ := Rw.form
                clear Rw
                go_wp2
                go_ret
                exact ⟨rfl, Below.next B (by repeat (first | exact Below.refl _ _ | apply Below.draws | apply below_lit))⟩
            · clear xa0 xa1 xa2 xb0 xb1 xb2 xc0 xc1 xc2 xp0 xp1 xp2 xq0 xq1 xq2 xx0 xx1 xx2 xy0 xy1 xy2
              have D : Below (World.heap u10 |>.size) u10 u11 := Below.next (by repeat (first | exact Below.refl _ _ | apply Below.draws | apply below_lit)) b
              have sD := D.size
              replace Ra := Ra.below D
              replace Rb := Rb.below D
              replace Rc := Rc.below D
              replace F := F.below D
              replace Rp := Rp.below D
              replace Rq := Rq.below D
              replace Rx := Rx.below D
              replace Ry := Ry.below D
              replace Xa := Xa.below la D
              replace la := Nat.lt_of_lt_of_le la sD
              replace Xb := Xb.below lb D
              replace lb := Nat.lt_of_lt_of_le lb sD
              replace Xc := Xc.below lc D
              replace lc := Nat.lt_of_lt_of_le lc sD
              replace Xp := Xp.below lp D
              replace lp := Nat.lt_of_lt_of_le lp sD
              replace Xq := Xq.below lq D
              replace lq := Nat.lt_of_lt_of_le lq sD
              replace Xx := Xx.below lx D
              replace lx := Nat.lt_of_lt_of_le lx sD
              replace Xy := Xy.below ly D
              replace ly := Nat.lt_of_lt_of_le ly sD
              replace B := Below.next B D
              clear b D sD
              have xa0 := Xa.c0
              have xa1 := Xa.c1
              have xa2 := Xa.c2
              have xb0 := Xb.c0
              have xb1 := Xb.c1
              have xb2 := Xb.c2
              have xc0 := Xc.c0
              have xc1 := Xc.c1
              have xc2 := Xc.c2
              have xp0 := Xp.c0
              have xp1 := Xp.c1
              have xp2 := Xp.c2
              have xq0 := Xq.c0
              have xq1 := Xq.c1
              have xq2 := Xq.c2
              have xx0 := Xx.c0
              have xx1 := Xx.c1
              have xx2 := Xx.c2
              have xy0 := Xy.c0
              have xy1 := Xy.c1
              have xy2 := Xy.c2
              obtain ⟨av, cv, rfl⟩ := Rv.form
              clear Rv
              go_wp2_with fail
              refine (minv_some (F.below (by repeat (first | exact Below.refl _ _ | apply Below.draws | apply below_lit))) ⟨_, rfl, (Rb.below (by repeat (first | exact Below.refl _ _ | apply Below.draws | apply below_lit)))⟩ kb).mono ?_
              rintro e u12 (⟨W, eW, hW, vw, rfl, Rw, b⟩ | ⟨xw, hxw, vw, rfl, Rw, b⟩)
              · clear xa0 xa1 xa2 xb0 xb1 xb2 xc0 xc1 xc2 xp0 xp1 xp2 xq0 xq1 xq2 xx0 xx1 xx2 xy0 xy1 xy2
                have D : Below (World.heap u11 |>.size) u11 u12 := Below.next (by repeat (first | exact Below.refl _ _ | apply Below.draws | apply below_lit)) b
                have sD := D.size
                replace Ra := Ra.below D
                replace Rb := Rb.below D
                replace Rc := Rc.below D
                replace F := F.below D
                replace Rp := Rp.below D
                replace Rq := Rq.below D
                replace Rx := Rx.below D
                replace Ry := Ry.below D
                replace Xa := Xa.below la D
                replace la := Nat.lt_of_lt_of_le la sD
                replace Xb := Xb.below lb D
                replace lb := Nat.lt_of_lt_of_le lb sD
                replace Xc := Xc.below lc D
                replace lc := Nat.lt_of_lt_of_le lc sD
                replace Xp := Xp.below lp D
                replace lp := Nat.lt_of_lt_of_le lp sD
                replace Xq := Xq.below lq D
                replace lq := Nat.lt_of_lt_of_le lq sD
                replace Xx := Xx.below lx D
                replace lx := Nat.lt_of_lt_of_le lx sD
                replace Xy := Xy.below ly D
                replace ly := Nat.lt_of_lt_of_le ly sD
                have Xv : Box u12 (World.heap u11 |>.size) _ _ _ := Below.box b (by simp <;> omega) (by first | exact Box.new _ _ _ _ _ | exact (Box.new _ _ _ _ _).alloc (by simp) _ | exact ((Box.new _ _ _ _ _).alloc (by simp) _).alloc (by simp <;> omega) _)
                have lv : (World.heap u11 |>.size) < (World.heap u12 |>.size) := by have := b.size; simp at this; omega
                replace B := Below.next B D
                clear b D sD
                have xa0 := Xa.c0
                have xa1 := Xa.c1
                have xa2 := Xa.c2
                have xb0 := Xb.c0
                have xb1 := Xb.c1
                have xb2 := Xb.c2
                have xc0 := Xc.c0
                have xc1 := Xc.c1
                have xc2 := Xc.c2
                have xp0 := Xp.c0
                have xp1 := Xp.c1
                have xp2 := Xp.c2
                have xq0 := Xq.c0
                have xq1 := Xq.c1
                have xq2 := Xq.c2
                have xx0 := Xx.c0
                have xx1 := Xx.c1
                have xx2 := Xx.c2
                have xy0 := Xy.c0
                have xy1 := Xy.c1
                have xy2 := Xy.c2
                have xv0 := Xv.c0
                have xv1 := Xv.c1
                have xv2 := Xv.c2
                obtain ⟨aw, cw, rfl⟩ := Rw.form
                clear Rw
                go_wp2
                go_ret
                exact ⟨rfl, Below.next B (by repeat (first | exact Below.refl _ _ | apply Below.draws | apply below_lit))⟩
              · clear xa0 xa1 xa2 xb0 xb1 xb2 xc0 xc1 xc2 xp0 xp1 xp2 xq0 xq1 xq2 xx0 xx1 xx2 xy0 xy1 xy2
                have D : Below (World.heap u11 |>.size) u11 u12 := Below.next (by repeat (first | exact Below.refl _ _ | apply Below.draws | apply below_lit)) b
                have sD := D.size
                replace Ra := Ra.below D
                replace Rb := Rb.below D
                replace Rc := Rc.below D
                replace F := F.below D
                replace Rp := Rp.below D
                replace Rq := Rq.below D
                replace Rx := Rx.below D
                replace Ry := Ry.below D
                replace Xa := Xa.below la D
                replace la := Nat.lt_of_lt_of_le la sD
                replace Xb := Xb.below lb D
                replace lb := Nat.lt_of_lt_of_le lb sD
                replace Xc := Xc.below lc D
                replace lc := Nat.lt_of_lt_of_le lc sD
                replace Xp := Xp.below lp D
                replace lp := Nat.lt_of_lt_of_le lp sD
                replace Xq := Xq.below lq D
                replace lq := Nat.lt_of_lt_of_le lq sD
                replace Xx := Xx.below lx D
                replace lx := Nat.lt_of_lt_of_le lx sD
                replace Xy := Xy.below ly D
                replace ly := Nat.lt_of_lt_of_le ly sD
                have Xv : Box u12 (World.heap u11 |>.size) _ _ _ := Below.box b (by simp <;> omega) (by first | exact Box.new _ _ _ _ _ | exact (Box.new _ _ _ _ _).alloc (by simp) _ | exact ((Box.new _ _ _ _ _).alloc (by simp) _).alloc (by simp <;> omega) _)
                have lv : (World.heap u11 |>.size) < (World.heap u12 |>.size) := by have := b.size; simp at this; omega
                replace B := Below.next B D
                clear b D sD
                have xa0 := Xa.c0
                have xa1 := Xa.c1
                have xa2 := Xa.c2
                have xb0 := Xb.c0
                have xb1 := Xb.c1
                have xb2 := Xb.c2
                have xc0 := Xc.c0
                have xc1 := Xc.c1
                have xc2 := Xc.c2
                have xp0 := Xp.c0
                have xp1 := Xp.c1
                have xp2 := Xp.c2
                have xq0 := Xq.c0
                have xq1 := Xq.c1
                have xq2 := Xq.c2
                have xx0 := Xx.c0
                have xx1 := Xx.c1
                have xx2 := Xx.c2
                have xy0 := Xy.c0
                have xy1 := Xy.c1
                have xy2 := Xy.c2
                have xv0 := Xv.c0
                have xv1 := Xv.c1
                have xv2 := Xv.c2
                obtain ⟨aw, cw, rfl⟩ := Rw.form
                clear Rw
                go_wp2
                go_ret
                exact ⟨rfl, Below.next B (by repeat (first | exact Below.refl _ _ | apply Below.draws | apply below_lit))⟩
          · obtain ⟨ka, kb, e1⟩ := hab
            obtain ⟨r, c, f1, f2, hr, hc, hAl⟩ := ka.nat
            subst f1
            subst f2
            obtain ⟨c2, d, f3, f4, hc2, hd, hBl⟩ := kb.nat
            subst f4
            subst f3
            have hcc : c2 = c := by omega
            subst hcc
            clear e1 hAl hBl
            go_enter Try.func6, Try.ntmps6
            have B : Below w.heap.size w w := Below.refl _ _
            go_wp2_with fail
            refine (awake3_any _).mono ?_
            rintro e u1 ⟨rfl, b⟩
            have D : Below w.heap.size w u1 := Below.next (by repeat (first | exact Below.refl _ _ | apply Below.draws | apply below_lit)) b
            have sD := D.size
            replace Ra := Ra.below D
            replace Rb := Rb.below D
            replace Rc := Rc.below D
            have Xa : Box u1 (w.heap.size) _ _ _ := Below.box b (by simp <;> omega) (by first | exact Box.new _ _ _ _ _ | exact (Box.new _ _ _ _ _).alloc (by simp) _ | exact ((Box.new _ _ _ _ _).alloc (by simp) _).alloc (by simp <;> omega) _ | exact Box.new1 _ _ _ _ _ _ | exact (Box.new1 _ _ _ _ _ _).alloc (by simp <;> omega) _ | exact Box.new2 _ _ _ _ _ _ _)
            have la : w.heap.size < u1.heap.size := by have := b.size; simp at this; omega
            have Xb : Box u1 (w.heap.size + 1) _ _ _ := Below.box b (by simp <;> omega) (by first | exact Box.new _ _ _ _ _ | exact (Box.new _ _ _ _ _).alloc (by simp) _ | exact ((Box.new _ _ _ _ _).alloc (by simp) _).alloc (by simp <;> omega) _ | exact Box.new1 _ _ _ _ _ _ | exact (Box.new1 _ _ _ _ _ _).alloc (by simp <;> omega) _ | exact Box.new2 _ _ _ _ _ _ _)
            have lb : w.heap.size + 1 < u1.heap.size := by have := b.size; simp at this; omega
            have Xc : Box u1 (w.heap.size + 1 + 1) _ _ _ := Below.box b (by simp <;> omega) (by first | exact Box.new _ _ _ _ _ | exact (Box.new _ _ _ _ _).alloc (by simp) _ | exact ((Box.new _ _ _ _ _).alloc (by simp) _).alloc (by simp <;> omega) _ | exact Box.new1 _ _ _ _ _ _ | exact (Box.new1 _ _ _ _ _ _).alloc (by simp <;> omega) _ | exact Box.new2 _ _ _ _ _ _ _)
            have lc : w.heap.size + 1 + 1 < u1.heap.size := by have := b.size; simp at this; omega
            replace B := Below.next B D
            clear b D sD
            have xa0 := Xa.c0
            have xa1 := Xa.c1
            have xa2 := Xa.c2
            have xb0 := Xb.c0
            have xb1 := Xb.c1
            have xb2 := Xb.c2
            have xc0 := Xc.c0
            have xc1 := Xc.c1
            have xc2 := Xc.c2
            go_wp2_with fail
            refine (new_any _).mono ?_
            rintro e u2 ⟨rfl, F, hO⟩
            have b := hO.below
            clear hO
            clear xa0 xa1 xa2 xb0 xb1 xb2 xc0 xc1 xc2
            have D : Below (World.heap u1 |>.size) u1 u2 := Below.next (by repeat (first | exact Below.refl _ _ | apply Below.draws | apply below_lit)) b
            have sD := D.size
            replace Ra := Ra.below D
            replace Rb := Rb.below D
            replace Rc := Rc.below D
            replace Xa := Xa.below la D
            replace la := Nat.lt_of_lt_of_le la sD
            replace Xb := Xb.below lb D
            replace lb := Nat.lt_of_lt_of_le lb sD
            replace Xc := Xc.below lc D
            replace lc := Nat.lt_of_lt_of_le lc sD
            replace B := Below.next B D
            clear b D sD
            have xa0 := Xa.c0
            have xa1 := Xa.c1
            have xa2 := Xa.c2
            have xb0 := Xb.c0
            have xb1 := Xb.c1
            have xb2 := Xb.c2
            have xc0 := Xc.c0
            have xc1 := Xc.c1
            have xc2 := Xc.c2
            go_wp2_with fail
            refine (small_yes ⟨_, rfl, (Ra.below (by repeat (first | exact Below.refl _ _ | apply Below.draws | apply below_lit)))⟩ hsa).mono ?_
            rintro e u3 ⟨rfl, b⟩
            clear xa0 xa1 xa2 xb0 xb1 xb2 xc0 xc1 xc2
            have D : Below (World.heap u2 |>.size) u2 u3 := Below.next (by repeat (first | exact Below.refl _ _ | apply Below.draws | apply below_lit)) b
            have sD := D.size
            replace Ra := Ra.below D
            replace Rb := Rb.below D
            replace Rc := Rc.below D
            replace F := F.below D
            replace Xa := Xa.below la D
            replace la := Nat.lt_of_lt_of_le la sD
            replace Xb := Xb.below lb D
            replace lb := Nat.lt_of_lt_of_le lb sD
            replace Xc := Xc.below lc D
            replace lc := Nat.lt_of_lt_of_le lc sD
            replace B := Below.next B D
            clear b D sD
            have xa0 := Xa.c0
            have xa1 := Xa.c1
            have xa2 := Xa.c2
            have xb0 := Xb.c0
            have xb1 := Xb.c1
            have xb2 := Xb.c2
            have xc0 := Xc.c0
            have xc1 := Xc.c1
            have xc2 := Xc.c2
            go_wp2_with fail
            refine (small_yes ⟨_, rfl, (Rb.below (by repeat (first | exact Below.refl _ _ | apply Below.draws | apply below_lit)))⟩ hsb).mono ?_
            rintro e u4 ⟨rfl, b⟩
            clear xa0 xa1 xa2 xb0 xb1 xb2 xc0 xc1 xc2
            have D : Below (World.heap u3 |>.size) u3 u4 := Below.next (by repeat (first | exact Below.refl _ _ | apply Below.draws | apply below_lit)) b
            have sD := D.size
            replace Ra := Ra.below D
            replace Rb := Rb.below D
            replace Rc := Rc.below D
            replace F := F.below D
            replace Xa := Xa.below la D
            replace la := Nat.lt_of_lt_of_le la sD
            replace Xb := Xb.below lb D
            replace lb := Nat.lt_of_lt_of_le lb sD
            replace Xc := Xc.below lc D
            replace lc := Nat.lt_of_lt_of_le lc sD
            replace B := Below.next B D
            clear b D sD
            have xa0 := Xa.c0
            have xa1 := Xa.c1
            have xa2 := Xa.c2
            have xb0 := Xb.c0
            have xb1 := Xb.c1
            have xb2 := Xb.c2
            have xc0 := Xc.c0
            have xc1 := Xc.c1
            have xc2 := Xc.c2
            go_wp2_with fail
            refine (small_yes ⟨_, rfl, (Rc.below (by repeat (first | exact Below.refl _ _ | apply Below.draws | apply below_lit)))⟩ hsc).mono ?_
            rintro e u5 ⟨rfl, b⟩
            clear xa0 xa1 xa2 xb0 xb1 xb2 xc0 xc1 xc2
            have D : Below (World.heap u4 |>.size) u4 u5 := Below.next (by repeat (first | exact Below.refl _ _ | apply Below.draws | apply below_lit)) b
            have sD := D.size
            replace Ra := Ra.below D
            replace Rb := Rb.below D
            replace Rc := Rc.below D
            replace F := F.below D
            replace Xa := Xa.below la D
            replace la := Nat.lt_of_lt_of_le la sD
            replace Xb := Xb.below lb D
            replace lb := Nat.lt_of_lt_of_le lb sD
            replace Xc := Xc.below lc D
            replace lc := Nat.lt_of_lt_of_le lc sD
            replace B := Below.next B D
            clear b D sD
            have xa0 := Xa.c0
            have xa1 := Xa.c1
            have xa2 := Xa.c2
            have xb0 := Xb.c0
            have xb1 := Xb.c1
            have xb2 := Xb.c2
            have xc0 := Xc.c0
            have xc1 := Xc.c1
            have xc2 := Xc.c2
            go_wp2_with fail
            refine (mmul_ok (F.below (by repeat (first | exact Below.refl _ _ | apply Below.draws | apply below_lit))) ⟨_, rfl, (Ra.below (by repeat (first | exact Below.refl _ _ | apply Below.draws | apply below_lit)))⟩ ⟨_, rfl, (Rb.below (by repeat (first | exact Below.refl _ _ | apply Below.draws | apply below_lit)))⟩ ka kb).mono ?_
            rintro e u6 ⟨vp, rfl, Rp, b⟩
            clear xa0 xa1 xa2 xb0 xb1 xb2 xc0 xc1 xc2
            have D : Below (World.heap u5 |>.size) u5 u6 := Below.next (by repeat (first | exact Below.refl _ _ | apply Below.draws | apply below_lit)) b
            have sD := D.size
            replace Ra := Ra.below D
            replace Rb := Rb.below D
            replace Rc := Rc.below D
            replace F := F.below D
            replace Xa := Xa.below la D
            replace la := Nat.lt_of_lt_of_le la sD
            replace Xb := Xb.below lb D
            replace lb := Nat.lt_of_lt_of_le lb sD
            replace Xc := Xc.below lc D
            replace lc := Nat.lt_of_lt_of_le lc sD
            replace B := Below.next B D
            clear b D sD
            have xa0 := Xa.c0
            have xa1 := Xa.c1
            have xa2 := Xa.c2
            have xb0 := Xb.c0
            have xb1 := Xb.c1
            have xb2 := Xb.c2
            have xc0 := Xc.c0
            have xc1 := Xc.c1
            have xc2 := Xc.c2
            obtain ⟨ap, cp, rfl⟩ := Rp.form
            go_wp2_with fail
            refine (mmul_bad (F.below (by repeat (first | exact Below.refl _ _ | apply Below.draws | apply below_lit))) ⟨_, rfl, (Rb.below (by repeat (first | exact Below.refl _ _ | apply Below.draws | apply below_lit)))⟩ ⟨_, rfl, (Rc.below (by repeat (first | exact Below.refl _ _ | apply Below.draws | apply below_lit)))⟩ hbc).mono ?_
            rintro e u7 ⟨vq, rfl, Rq, b⟩
            clear xa0 xa1 xa2 xb0 xb1 xb2 xc0 xc1 xc2
            have D : Below (World.heap u6 |>.size) u6 u7 := Below.next (by repeat (first | exact Below.refl _ _ | apply Below.draws | apply below_lit)) b
            have sD := D.size
            replace Ra := Ra.below D
            replace Rb := Rb.below D
            replace Rc := Rc.below D
            replace F := F.below D
            replace Rp := Rp.below D
            replace Xa := Xa.below la D
            replace la := Nat.lt_of_lt_of_le la sD
            replace Xb := Xb.below lb D
            replace lb := Nat.lt_of_lt_of_le lb sD
            replace Xc := Xc.below lc D
            replace lc := Nat.lt_of_lt_of_le lc sD
            have Xp : Box u7 (World.heap u6 |>.size) _ _ _ := Below.box b (by simp <;> omega) (by first | exact Box.new _ _ _ _ _ | exact (Box.new _ _ _ _ _).alloc (by simp) _ | exact ((Box.new _ _ _ _ _).alloc (by simp) _).alloc (by simp <;> omega) _)
            have lp : (World.heap u6 |>.size) < (World.heap u7 |>.size) := by have := b.size; simp at this; omega
            replace B := Below.next B D
            clear b D sD
            have xa0 := Xa.c0
            have xa1 := Xa.c1
            have xa2 := Xa.c2
            have xb0 := Xb.c0
            have xb1 := Xb.c1
            have xb2 := Xb.c2
            have xc0 := Xc.c0
            have xc1 := Xc.c1
            have xc2 := Xc.c2
            have xp0 := Xp.c0
            have xp1 := Xp.c1
            have xp2 := Xp.c2
            obtain ⟨aq, cq, rfl⟩ := Rq.form
            clear Rq
            go_wp2
            go_ret
            exact ⟨rfl, Below.next B (by repeat (first | exact Below.refl _ _ | apply Below.draws | apply below_lit))⟩
        · by_cases hbc : OkM mr1 mc1 Lb ∧ OkM mr2 mc2 Lc ∧ mc1 = mr2
          · obtain ⟨kb, kc, e1⟩ := hbc
            obtain ⟨r, c, f1, f2, hr, hc, hAl⟩ := kb.nat
            subst f1
            subst f2
            obtain ⟨c2, d, f3, f4, hc2, hd, hBl⟩ := kc.nat
            subst f4
            subst f3
            have hcc : c2 = c := by omega
            subst hcc
            clear e1 hAl hBl
            go_enter Try.func6, Try.ntmps6
            have B : Below w.heap.size w w := Below.refl _ _
            go_wp2_with fail
            refine (awake3_any _).mono ?_
            rintro e u1 ⟨rfl, b⟩
            have D : Below w.heap.size w u1 := Below.next (by repeat (first | exact Below.refl _ _ | apply Below.draws | apply below_lit)) b
            have sD := D.size
            replace Ra := Ra.below D
            replace Rb := Rb.below D
            replace Rc := Rc.below D
            have Xa : Box u1 (w.heap.size) _ _ _ := Below.box b (by simp <;> omega) (by first | exact Box.new _ _ _ _ _ | exact (Box.new _ _ _ _ _).alloc (by simp) _ | exact ((Box.new _ _ _ _ _).alloc (by simp) _).alloc (by simp <;> omega) _ | exact Box.new1 _ _ _ _ _ _ | exact (Box.new1 _ _ _ _ _ _).alloc (by simp <;> omega) _ | exact Box.new2 _ _ _ _ _ _ _)
            have la : w.heap.size < u1.heap.size := by have := b.size; simp at this; omega
            have Xb : Box u1 (w.heap.size + 1) _ _ _ := Below.box b (by simp <;> omega) (by first | exact Box.new _ _ _ _ _ | exact (Box.new _ _ _ _ _).alloc (by simp) _ | exact ((Box.new _ _ _ _ _).alloc (by simp) _).alloc (by simp <;> omega) _ | exact Box.new1 _ _ _ _ _ _ | exact (Box.new1 _ _ _ _ _ _).alloc (by simp <;> omega) _ | exact Box.new2 _ _ _ _ _ _ _)
            have lb : w.heap.size + 1 < u1.heap.size := by have := b.size; simp at this; omega
            have Xc : Box u1 (w.heap.size + 1 + 1) _ _ _ := Below.box b (by simp <;> omega) (by first | exact Box.new _ _ _ _ _ | exact (Box.new _ _ _ _ _).alloc (by simp) _ | exact ((Box.new _ _ _ _ _).alloc (by simp) _).alloc (by simp <;> omega) _ | exact Box.new1 _ _ _ _ _ _ | exact (Box.new1 _ _ _ _ _ _).alloc (by simp <;> omega) _ | exact Box.new2 _ _ _ _ _ _ _)
            have lc : w.heap.size + 1 + 1 < u1.heap.size := by have := b.size; simp at this; omega
            replace B := Below.next B D
            clear b D sD
            have xa0 := Xa.c0
            have xa1 := Xa.c1
            have xa2 := Xa.c2
            have xb0 := Xb.c0
            have xb1 := Xb.c1
            have xb2 := Xb.c2
            have xc0 := Xc.c0
            have xc1 := Xc.c1
            have xc2 := Xc.c2
            go_wp2_with fail
            refine (new_any _).mono ?_
            rintro e u2 ⟨rfl, F, hO⟩
            have b := hO.below
            clear hO
            clear xa0 xa1 xa2 xb0 xb1 xb2 xc0 xc1 xc2
            have D : Below (World.heap u1 |>.size) u1 u2 := Below.next (by repeat (first | exact Below.refl _ _ | apply Below.draws | apply below_lit)) b
            have sD := D.size
            replace Ra := Ra.below D
            replace Rb := Rb.below D
            replace Rc := Rc.below D
            replace Xa := Xa.below la D
            replace la := Nat.lt_of_lt_of_le la sD
            replace Xb := Xb.below lb D
            replace lb := Nat.lt_of_lt_of_le lb sD
            replace Xc := Xc.below lc D
            replace lc := Nat.lt_of_lt_of_le lc sD
            replace B := Below.next B D
            clear b D sD
            have xa0 := Xa.c0
            have xa1 := Xa.c1
            have xa2 := Xa.c2
            have xb0 := Xb.c0
            have xb1 := Xb.c1
            have xb2 := Xb.c2
            have xc0 := Xc.c0
            have xc1 := Xc.c1
            have xc2 := Xc.c2
            go_wp2_with fail
            refine (small_yes ⟨_, rfl, (Ra.below (by repeat (first | exact Below.refl _ _ | apply Below.draws | apply below_lit)))⟩ hsa).mono ?_
            rintro e u3 ⟨rfl, b⟩
            clear xa0 xa1 xa2 xb0 xb1 xb2 xc0 xc1 xc2
            have D : Below (World.heap u2 |>.size) u2 u3 := Below.next (by repeat (first | exact Below.refl _ _ | apply Below.draws | apply below_lit)) b
            have sD := D.size
            replace Ra := Ra.below D
            replace Rb := Rb.below D
            replace Rc := Rc.below D
            replace F := F.below D
            replace Xa := Xa.below la D
            replace la := Nat.lt_of_lt_of_le la sD
            replace Xb := Xb.below lb D
            replace lb := Nat.lt_of_lt_of_le lb sD
            replace Xc := Xc.below lc D
            replace lc := Nat.lt_of_lt_of_le lc sD
            replace B := Below.next B D
            clear b D sD
            have xa0 := Xa.c0
            have xa1 := Xa.c1
            have xa2 := Xa.c2
            have xb0 := Xb.c0
            have xb1 := Xb.c1
            have xb2 := Xb.c2
            have xc0 := Xc.c0
            have xc1 := Xc.c1
            have xc2 := Xc.c2
            go_wp2_with fail
            refine (small_yes ⟨_, rfl, (Rb.below (by repeat (first | exact Below.refl _ _ | apply Below.draws | apply below_lit)))⟩ hsb).mono ?_
            rintro e u4 ⟨rfl, b⟩
            clear xa0 xa1 xa2 xb0 xb1 xb2 xc0 xc1 xc2
            have D : Below (World.heap u3 |>.size) u3 u4 := Below.next (by repeat (first | exact Below.refl _ _ | apply Below.draws | apply below_lit)) b
            have sD := D.size
            replace Ra := Ra.below D
            replace Rb := Rb.below D
            replace Rc := Rc.below D
            replace F := F.below D
            replace Xa := Xa.below la D
            replace la := Nat.lt_of_lt_of_le la sD
            replace Xb := Xb.below lb D
            replace lb := Nat.lt_of_lt_of_le lb sD
            replace Xc := Xc.below lc D
            replace lc := Nat.lt_of_lt_of_le lc sD
            replace B := Below.next B D
            clear b D sD
            have xa0 := Xa.c0
            have xa1 := Xa.c1
            have xa2 := Xa.c2
            have xb0 := Xb.c0
            have xb1 := Xb.c1
            have xb2 := Xb.c2
            have xc0 := Xc.c0
            have xc1 := Xc.c1
            have xc2 := Xc.c2
            go_wp2_with fail
            refine (small_yes ⟨_, rfl, (Rc.below (by repeat (first | exact Below.refl _ _ | apply Below.draws | apply below_lit)))⟩ hsc).mono ?_
            rintro e u5 ⟨rfl, b⟩
            clear xa0 xa1 xa2 xb0 xb1 xb2 xc0 xc1 xc2
            have D : Below (World.heap u4 |>.size) u4 u5 := Below.next (by repeat (first | exact Below.refl _ _ | apply Below.draws | apply below_lit)) b
            have sD := D.size
            replace Ra := Ra.below D
            replace Rb := Rb.below D
            replace Rc := Rc.below D
            replace F := F.below D
            replace Xa := Xa.below la D
            replace la := Nat.lt_of_lt_of_le la sD
            replace Xb := Xb.below lb D
            replace lb := Nat.lt_of_lt_of_le lb sD
            replace Xc := Xc.below lc D
            replace lc := Nat.lt_of_lt_of_le lc sD
            replace B := Below.next B D
            clear b D sD
            have xa0 := Xa.c0
            have xa1 := Xa.c1
            have xa2 := Xa.c2
            have xb0 := Xb.c0
            have xb1 := Xb.c1
            have xb2 := Xb.c2
            have xc0 := Xc.c0
            have xc1 := Xc.c1
            have xc2 := Xc.c2
            go_wp2_with fail
            refine (mmul_bad (F.below (by repeat (first | exact Below.refl _ _ | apply Below.draws | apply below_lit))) ⟨_, rfl, (Ra.below (by repeat (first | exact Below.refl _ _ | apply Below.draws | apply below_lit)))⟩ ⟨_, rfl, (Rb.below (by repeat (first | exact Below.refl _ _ | apply Below.draws | apply below_lit)))⟩ hab).mono ?_
            rintro e u6 ⟨vp, rfl, Rp, b⟩
            clear xa0 xa1 xa2 xb0 xb1 xb2 xc0 xc1 xc2
            have D : Below (World.heap u5 |>.size) u5 u6 := Below.next (by repeat (first | exact Below.refl _ _ | apply Below.draws | apply below_lit)) b
            have sD := D.size
            replace Ra := Ra.below D
            replace Rb := Rb.below D
            replace Rc := Rc.below D
            replace F := F.below D
            replace Xa := Xa.below la D
            replace la := Nat.lt_of_lt_of_le la sD
            replace Xb := Xb.below lb D
            replace lb := Nat.lt_of_lt_of_le lb sD
            replace Xc := Xc.below lc D
            replace lc := Nat.lt_of_lt_of_le lc sD
            replace B := Below.next B D
            clear b D sD
            have xa0 := Xa.c0
            have xa1 := Xa.c1
            have xa2 := Xa.c2
            have xb0 := Xb.c0
            have xb1 := Xb.c1
            have xb2 := Xb.c2
            have xc0 := Xc.c0
            have xc1 := Xc.c1
            have xc2 := Xc.c2
            obtain ⟨ap, cp, rfl⟩ := Rp.form
            clear Rp
            go_wp2_with fail
            refine (mmul_ok (F.below (by repeat (first | exact Below.refl _ _ | apply Below.draws | apply below_lit))) ⟨_, rfl, (Rb.below (by repeat (first | exact Below.refl _ _ | apply Below.draws | apply below_lit)))⟩ ⟨_, rfl, (Rc.below (by repeat (first | exact Below.refl _ _ | apply Below.draws | apply below_lit)))⟩ kb kc).mono ?_
            rintro e u7 ⟨vq, rfl, Rq, b⟩
            clear xa0 xa1 xa2 xb0 xb1 xb2 xc0 xc1 xc2
            have D : Below (World.heap u6 |>.size) u6 u7 := Below.next (by repeat (first | exact Below.refl _ _ | apply Below.draws | apply below_lit)) b
            have sD := D.size
            replace Ra := Ra.below D
            replace Rb := Rb.below D
            replace Rc := Rc.below D
            replace F := F.below D
            replace Xa := Xa.below la D
            replace la := Nat.lt_of_lt_of_le la sD
            replace Xb := Xb.below lb D
            replace lb := Nat.lt_of_lt_of_le lb sD
            replace Xc := Xc.below lc D
            replace lc := Nat.lt_of_lt_of_le lc sD
            have Xp : Box u7 (World.heap u6 |>.size) _ _ _ := Below.box b (by simp <;> omega) (by first | exact Box.new _ _ _ _ _ | exact (Box.new _ _ _ _ _).alloc (by simp) _ | exact ((Box.new _ _ _ _ _).alloc (by simp) _).alloc (by simp <;> omega) _)
            have lp : (World.heap u6 |>.size) < (World.heap u7 |>.size) := by have := b.size; simp at this; omega
            replace B := Below.next B D
            clear b D sD
            have xa0 := Xa.c0
            have xa1 := Xa.c1
            have xa2 := Xa.c2
            have xb0 := Xb.c0
            have xb1 := Xb.c1
            have xb2 := Xb.c2
            have xc0 := Xc.c0
            have xc1 := Xc.c1
            have xc2 := Xc.c2
            have xp0 := Xp.c0
            have xp1 := Xp.c1
            have xp2 := Xp.c2
            obtain ⟨aq, cq, rfl⟩ := Rq.form
            go_wp2
            go_ret
            exact ⟨rfl, Below.next B (by repeat (first | exact Below.refl _ _ | apply Below.draws | apply below_lit))⟩
          · go_enter Try.func6, Try.ntmps6
            have B : Below w.heap.size w w := Below.refl _ _
            go_wp2_with fail
            refine (awake3_any _).mono ?_
            rintro e u1 ⟨rfl, b⟩
            have D : Below w.heap.size w u1 := Below.next (by repeat (first | exact Below.refl _ _ | apply Below.draws | apply below_lit)) b
            have sD := D.size
            replace Ra := Ra.below D
            replace Rb := Rb.below D
            replace Rc := Rc.below D
            have Xa : Box u1 (w.heap.size) _ _ _ := Below.box b (by simp <;> omega) (by first | exact Box.new _ _ _ _ _ | exact (Box.new _ _ _ _ _).alloc (by simp) _ | exact ((Box.new _ _ _ _ _).alloc (by simp) _).alloc (by simp <;> omega) _ | exact Box.new1 _ _ _ _ _ _ | exact (Box.new1 _ _ _ _ _ _).alloc (by simp <;> omega) _ | exact Box.new2 _ _ _ _ _ _ _)
            have la : w.heap.size < u1.heap.size := by have := b.size; simp at this; omega
            have Xb : Box u1 (w.heap.size + 1) _ _ _ := Below.box b (by simp <;> omega) (by first | exact Box.new _ _ _ _ _ | exact (Box.new _ _ _ _ _).alloc (by simp) _ | exact ((Box.new _ _ _ _ _).alloc (by simp) _).alloc (by simp <;> omega) _ | exact Box.new1 _ _ _ _ _ _ | exact (Box.new1 _ _ _ _ _ _).alloc (by simp <;> omega) _ | exact Box.new2 _ _ _ _ _ _ _)
            have lb : w.heap.size + 1 < u1.heap.size := by have := b.size; simp at this; omega
            have Xc : Box u1 (w.heap.size + 1 + 1) _ _ _ := Below.box b (by simp <;> omega) (by first | exact Box.new _ _ _ _ _ | exact (Box.new _ _ _ _ _).alloc (by simp) _ | exact ((Box.new _ _ _ _ _).alloc (by simp) _).alloc (by simp <;> omega) _ | exact Box.new1 _ _ _ _ _ _ | exact (Box.new1 _ _ _ _ _ _).alloc (by simp <;> omega) _ | exact Box.new2 _ _ _ _ _ _ _)
            have lc : w.heap.size + 1 + 1 < u1.heap.size := by have := b.size; simp at this; omega
            replace B := Below.next B D
            clear b D sD
            have xa0 := Xa.c0
            have xa1 := Xa.c1
            have xa2 := Xa.c2
            have xb0 := Xb.c0
            have xb1 := Xb.c1
            have xb2 := Xb.c2
            have xc0 := Xc.c0
            have xc1 := Xc.c1
            have xc2 := Xc.c2
            go_wp2_with fail
            refine (new_any _).mono ?_
            rintro e u2 ⟨rfl, F, hO⟩
            have b := hO.below
            clear hO
            clear xa0 xa1 xa2 xb0 xb1 xb2 xc0 xc1 xc2
            have D : Below (World.heap u1 |>.size) u1 u2 := Below.next (by repeat (first | exact Below.refl _ _ | apply Below.draws | apply below_lit)) b
            have sD := D.size
            replace Ra := Ra.below D
            replace Rb := Rb.below D
            replace Rc := Rc.below D
            replace Xa := Xa.below la D
            replace la := Nat.lt_of_lt_of_le la sD
            replace Xb := Xb.below lb D
            replace lb := Nat.lt_of_lt_of_le lb sD
            replace Xc := Xc.below lc D
            replace lc := Nat.lt_of_lt_of_le lc sD
            replace B := Below.next B D
            clear b D sD
            have xa0 := Xa.c0
            have xa1 := Xa.c1
            have xa2 := Xa.c2
            have xb0 := Xb.c0
            have xb1 := Xb.c1
            have xb2 := Xb.c2
            have xc0 := Xc.c0
            have xc1 := Xc.c1
            have xc2 := Xc.c2
            go_wp2_with fail
            refine (small_yes ⟨_, rfl, (Ra.below (by repeat (first | exact Below.refl _ _ | apply Below.draws | apply below_lit)))⟩ hsa).mono ?_
            rintro e u3 ⟨rfl, b⟩
            clear xa0 xa1 xa2 xb0 xb1 xb2 xc0 xc1 xc2
            have D : Below (World.heap u2 |>.size) u2 u3 := Below.next (by repeat (first | exact Below.refl _ _ | apply Below.draws | apply below_lit)) b
            have sD := D.size
            replace Ra := Ra.below D
            replace Rb := Rb.below D
            replace Rc := Rc.below D
            replace F := F.below D
            replace Xa := Xa.below la D
            replace la := Nat.lt_of_lt_of_le la sD
            replace Xb := Xb.below lb D
            replace lb := Nat.lt_of_lt_of_le lb sD
            replace Xc := Xc.below lc D
            replace lc := Nat.lt_of_lt_of_le lc sD
            replace B := Below.next B D
            clear b D sD
            have xa0 := Xa.c0
            have xa1 := Xa.c1
            have xa2 := Xa.c2
            have xb0 := Xb.c0
            have xb1 := Xb.c1
            have xb2 := Xb.c2
            have xc0 := Xc.c0
            have xc1 := Xc.c1
            have xc2 := Xc.c2
            go_wp2_with fail
            refine (small_yes ⟨_, rfl, (Rb.below (by repeat (first | exact Below.refl _ _ | apply Below.draws | apply below_lit)))⟩ hsb).mono ?_
            rintro e u4 ⟨rfl, b⟩
            clear xa0 xa1 xa2 xb0 xb1 xb2 xc0 xc1 xc2
            have D : Below (World.heap u3 |>.size) u3 u4 := Below.next (by repeat (first | exact Below.refl _ _ | apply Below.draws | apply below_lit)) b
            have sD := D.size
            replace Ra := Ra.below D
            replace Rb := Rb.below D
            replace Rc := Rc.below D
            replace F := F.below D
            replace Xa := Xa.below la D
            replace la := Nat.lt_of_lt_of_le la sD
            replace Xb := Xb.below lb D
            replace lb := Nat.lt_of_lt_of_le lb sD
            replace Xc := Xc.below lc D
            replace lc := Nat.lt_of_lt_of_le lc sD
            replace B := Below.next B D
            clear b D sD
            have xa0 := Xa.c0
            have xa1 := Xa.c1
            have xa2 := Xa.c2
            have xb0 := Xb.c0
            have xb1 := Xb.c1
            have xb2 := Xb.c2
            have xc0 := Xc.c0
            have xc1 := Xc.c1
            have xc2 := Xc.c2
            go_wp2_with fail
            refine (small_yes ⟨_, rfl, (Rc.below (by repeat (first | exact Below.refl _ _ | apply Below.draws | apply below_lit)))⟩ hsc).mono ?_
            rintro e u5 ⟨rfl, b⟩
            clear xa0 xa1 xa2 xb0 xb1 xb2 xc0 xc1 xc2
            have D : Below (World.heap u4 |>.size) u4 u5 := Below.next (by repeat (first | exact Below.refl _ _ | apply Below.draws | apply below_lit)) b
            have sD := D.size
            replace Ra := Ra.below D
            replace Rb := Rb.below D
            replace Rc := Rc.below D
            replace F := F.below D
            replace Xa := Xa.below la D
            replace la := Nat.lt_of_lt_of_le la sD
            replace Xb := Xb.below lb D
            replace lb := Nat.lt_of_lt_of_le lb sD
            replace Xc := Xc.below lc D
            replace lc := Nat.lt_of_lt_of_le lc sD
            replace B := Below.next B D
            clear b D sD
            have xa0 := Xa.c0
            have xa1 := Xa.c1
            have xa2 := Xa.c2
            have xb0 := Xb.c0
            have xb1 := Xb.c1
            have xb2 := Xb.c2
            have xc0 := Xc.c0
            have xc1 := Xc.c1
            have xc2 := Xc.c2
            go_wp2_with fail
            refine (mmul_bad (F.below (by repeat (first | exact Below.refl _ _ | apply Below.draws | apply below_lit))) ⟨_, rfl, (Ra.below (by repeat (first | exact Below.refl _ _ | apply Below.draws | apply below_lit)))⟩ ⟨_, rfl, (Rb.below (by repeat (first | exact Below.refl _ _ | apply Below.draws | apply below_lit)))⟩ hab).mono ?_
            rintro e u6 ⟨vp, rfl, Rp, b⟩
            clear xa0 xa1 xa2 xb0 xb1 xb2 xc0 xc1 xc2
            have D : Below (World.heap u5 |>.size) u5 u6 := Below.next (by repeat (first | exact Below.refl _ _ | apply Below.draws | apply below_lit)) b
            have sD := D.size
            replace Ra := Ra.below D
            replace Rb := Rb.below D
            replace Rc := Rc.below D
            replace F := F.below D
            replace Xa := Xa.below la D
            replace la := Nat.lt_of_lt_of_le la sD
            replace Xb := Xb.below lb D
            replace lb := Nat.lt_of_lt_of_le lb sD
            replace Xc := Xc.below lc D
            replace lc := Nat.lt_of_lt_of_le lc sD
            replace B := Below.next B D
            clear b D sD
            have xa0 := Xa.c0
            have xa1 := Xa.c1
            have xa2 := Xa.c2
            have xb0 := Xb.c0
            have xb1 := Xb.c1
            have xb2 := Xb.c2
            have xc0 := Xc.c0
            have xc1 := Xc.c1
            have xc2 := Xc.c2
            obtain ⟨ap, cp, rfl⟩ := Rp.form
            clear Rp
            go_wp2_with fail
            refine (mmul_bad (F.below (by repeat (first | exact Below.refl _ _ | apply Below.draws | apply below_lit))) ⟨_, rfl, (Rb.below (by repeat (first | exact Below.refl _ _ | apply Below.draws | apply below_lit)))⟩ ⟨_, rfl, (Rc.below (by repeat (first | exact Below.refl _ _ | apply Below.draws | apply below_lit)))⟩ hbc).mono ?_
            rintro e u7 ⟨vq, rfl, Rq, b⟩
            clear xa0 xa1 xa2 xb0 xb1 xb2 xc0 xc1 xc2
            have D : Below (World.heap u6 |>.size) u6 u7 := Below.next (by repeat (first | exact Below.refl _ _ | apply Below.draws | apply below_lit)) b
            have sD := D.size
            replace Ra := Ra.below D
            replace Rb := Rb.below D
            replace Rc := Rc.below D
            replace F := F.below D
            replace Xa := Xa.below la D
            replace la := Nat.lt_of_lt_of_le la sD
            replace Xb := Xb.below lb D
            replace lb := Nat.lt_of_lt_of_le lb sD
            replace Xc := Xc.below lc D
            replace lc := Nat.lt_of_lt_of_le lc sD
            have Xp : Box u7 (World.heap u6 |>.size) _ _ _ := Below.box b (by simp <;> omega) (by first | exact Box.new _ _ _ _ _ | exact (Box.new _ _ _ _ _).alloc (by simp) _ | exact ((Box.new _ _ _ _ _).alloc (by simp) _).alloc (by simp <;> omega) _)
            have lp : (World.heap u6 |>.size) < (World.heap u7 |>.size) := by have := b.size; simp at this; omega
            replace B := Below.next B D
            clear b D sD
            have xa0 := Xa.c0
            have xa1 := Xa.c1
            have xa2 := Xa.c2
            have xb0 := Xb.c0
            have xb1 := Xb.c1
            have xb2 := Xb.c2
            have xc0 := Xc.c0
            have xc1 := Xc.c1
            have xc2 := Xc.c2
            have xp0 := Xp.c0
            have xp1 := Xp.c1
            have xp2 := Xp.c2
            obtain ⟨aq, cq, rfl⟩ := Rq.form
            clear Rq
            go_wp2
            go_ret
            exact ⟨rfl, Below.next B (by repeat (first | exact Below.refl _ _ | apply Below.draws | apply below_lit))⟩
      · go_enter Try.func6, Try.ntmps6
        have B : Below w.heap.size w w := Below.refl _ _
        go_wp2_with fail
        refine (awake3_any _).mono ?_
        rintro e u1 ⟨rfl, b⟩
        have D : Below w.heap.size w u1 := Below.next (by repeat (first | exact Below.refl _ _ | apply Below.draws | apply below_lit)) b
        have sD := D.size
        replace Ra := Ra.below D
        replace Rb := Rb.below D
        replace Rc := Rc.below D
        have Xa : Box u1 (w.heap.size) _ _ _ := Below.box b (by simp <;> omega) (by first | exact Box.new _ _ _ _ _ | exact (Box.new _ _ _ _ _).alloc (by simp) _ | exact ((Box.new _ _ _ _ _).alloc (by simp) _).alloc (by simp <;> omega) _ | exact Box.new1 _ _ _ _ _ _ | exact (Box.new1 _ _ _ _ _ _).alloc (by simp <;> omega) _ | exact Box.new2 _ _ _ _ _ _ _)
        have la : w.heap.size < u1.heap.size := by have := b.size; simp at this; omega
        have Xb : Box u1 (w.heap.size + 1) _ _ _ := Below.box b (by simp <;> omega) (by first | exact Box.new _ _ _ _ _ | exact (Box.new _ _ _ _ _).alloc (by simp) _ | exact ((Box.new _ _ _ _ _).alloc (by simp) _).alloc (by simp <;> omega) _ | exact Box.new1 _ _ _ _ _ _ | exact (Box.new1 _ _ _ _ _ _).alloc (by simp <;> omega) _ | exact Box.new2 _ _ _ _ _ _ _)
        have lb : w.heap.size + 1 < u1.heap.size := by have := b.size; simp at this; omega
        have Xc : Box u1 (w.heap.size + 1 + 1) _ _ _ := Below.box b (by simp <;> omega) (by first | exact Box.new _ _ _ _ _ | exact (Box.new _ _ _ _ _).alloc (by simp) _ | exact ((Box.new _ _ _ _ _).alloc (by simp) _).alloc (by simp <;> omega) _ | exact Box.new1 _ _ _ _ _ _ | exact (Box.new1 _ _ _ _ _ _).alloc (by simp <;> omega) _ | exact Box.new2 _ _ _ _ _ _ _)
        have lc : w.heap.size + 1 + 1 < u1.heap.size := by have := b.size; simp at this; omega
        replace B := Below.next B D
        clear b D sD
        have xa0 := Xa.c0
        have xa1 := Xa.c1
        have xa2 := Xa.c2
        have xb0 := Xb.c0
        have xb1 := Xb.c1
        have xb2 := Xb.c2
        have xc0 := Xc.c0
        have xc1 := Xc.c1
        have xc2 := Xc.c2
        go_wp2_with fail
        refine (new_any _).mono ?_
        rintro e u2 ⟨rfl, F, hO⟩
        have b := hO.below
        clear hO
        clear xa0 xa1 xa2 xb0 xb1 xb2 xc0 xc1 xc2
        have D : Below (World.heap u1 |>.size) u1 u2 := Below.next (by repeat (first | exact Below.refl _ _ | apply Below.draws | apply below_lit)) b
        have sD := D.size
        replace Ra := Ra.below D
        replace Rb := Rb.below D
        replace Rc := Rc.below D
        replace Xa := Xa.below la D
        replace la := Nat.lt_of_lt_of_le la sD
        replace Xb := Xb.below lb D
        replace lb := Nat.lt_of_lt_of_le lb sD
        replace Xc := Xc.below lc D
        replace lc := Nat.lt_of_lt_of_le lc sD
        replace B := Below.next B D
        clear b D sD
        have xa0 := Xa.c0
        have xa1 := Xa.c1
        have xa2 := Xa.c2
        have xb0 := Xb.c0
        have xb1 := Xb.c1
        have xb2 := Xb.c2
        have xc0 := Xc.c0
        have xc1 := Xc.c1
        have xc2 := Xc.c2
        go_wp2_with fail
        refine (small_yes ⟨_, rfl, (Ra.below (by repeat (first | exact Below.refl _ _ | apply Below.draws | apply below_lit)))⟩ hsa).mono ?_
        rintro e u3 ⟨rfl, b⟩
        clear xa0 xa1 xa2 xb0 xb1 xb2 xc0 xc1 xc2
        have D : Below (World.heap u2 |>.size) u2 u3 := Below.next (by repeat (first | exact Below.refl _ _ | apply Below.draws | apply below_lit)) b
        have sD := D.size
        replace Ra := Ra.below D
        replace Rb := Rb.below D
        replace Rc := Rc.below D
        replace F := F.below D
        replace Xa := Xa.below la D
        replace la := Nat.lt_of_lt_of_le la sD
        replace Xb := Xb.below lb D
        replace lb := Nat.lt_of_lt_of_le lb sD
        replace Xc := Xc.below lc D
        replace lc := Nat.lt_of_lt_of_le lc sD
        replace B := Below.next B D
        clear b D sD
        have xa0 := Xa.c0
        have xa1 := Xa.c1
        have xa2 := Xa.c2
        have xb0 := Xb.c0
        have xb1 := Xb.c1
        have xb2 := Xb.c2
        have xc0 := Xc.c0
        have xc1 := Xc.c1
        have xc2 := Xc.c2
        go_wp2_with fail
        refine (small_yes ⟨_, rfl, (Rb.below (by repeat (first | exact Below.refl _ _ | apply Below.draws | apply below_lit)))⟩ hsb).mono ?_
        rintro e u4 ⟨rfl, b⟩
        clear xa0 xa1 xa2 xb0 xb1 xb2 xc0 xc1 xc2
        have D : Below (World.heap u3 |>.size) u3 u4 := Below.next (by repeat (first | exact Below.refl _ _ | apply Below.draws | apply below_lit)) b
        have sD := D.size
        replace Ra := Ra.below D
        replace Rb := Rb.below D
        replace Rc := Rc.below D
        replace F := F.below D
        replace Xa := Xa.below la D
        replace la := Nat.lt_of_lt_of_le la sD
        replace Xb := Xb.below lb D
        replace lb := Nat.lt_of_lt_of_le lb sD
        replace Xc := Xc.below lc D
        replace lc := Nat.lt_of_lt_of_le lc sD
        replace B := Below.next B D
        clear b D sD
        have xa0 := Xa.c0
        have xa1 := Xa.c1
        have xa2 := Xa.c2
        have xb0 := Xb.c0
        have xb1 := Xb.c1
        have xb2 := Xb.c2
        have xc0 := Xc.c0
        have xc1 := Xc.c1
        have xc2 := Xc.c2
        go_wp2_with fail
        refine (small_no ⟨_, rfl, (Rc.below (by repeat (first | exact Below.refl _ _ | apply Below.draws | apply below_lit)))⟩ hsc).mono ?_
        rintro e u5 ⟨rfl, b⟩
        clear xa0 xa1 xa2 xb0 xb1 xb2 xc0 xc1 xc2
        have D : Below (World.heap u4 |>.size) u4 u5 := Below.next (by repeat (first | exact Below.refl _ _ | apply Below.draws | apply below_lit)) b
        have sD := D.size
        replace Ra := Ra.below D
        replace Rb := Rb.below D
        replace Rc := Rc.below D
        replace F := F.below D
        replace Xa := Xa.below la D
        replace la := Nat.lt_of_lt_of_le la sD
        replace Xb := Xb.below lb D
        replace lb := Nat.lt_of_lt_of_le lb sD
        replace Xc := Xc.below lc D
        replace lc := Nat.lt_of_lt_of_le lc sD
        replace B := Below.next B D
        clear b D sD
        have xa0 := Xa.c0
        have xa1 := Xa.c1
        have xa2 := Xa.c2
        have xb0 := Xb.c0
        have xb1 := Xb.c1
        have xb2 := Xb.c2
        have xc0 := Xc.c0
        have xc1 := Xc.c1
        have xc2 := Xc.c2
        go_wp2
        go_ret
        exact ⟨rfl, Below.next B (by repeat (first | exact Below.refl _ _ | apply Below.draws | apply below_lit))⟩
    · go_enter Try.func6, Try.ntmps6
      have B : Below w.heap.size w w := Below.refl _ _
      go_wp2_with fail
      refine (awake3_any _).mono ?_
      rintro e u1 ⟨rfl, b⟩
      have D : Below w.heap.size w u1 := Below.next (by repeat (first | exact Below.refl _ _ | apply Below.draws | apply below_lit)) b
      have sD := D.size
      replace Ra := Ra.below D
      replace Rb := Rb.below D
      replace Rc := Rc.below D
      have Xa : Box u1 (w.heap.size) _ _ _ := Below.box b (by simp <;> omega) (by first | exact Box.new _ _ _ _ _ | exact (Box.new _ _ _ _ _).alloc (by simp) _ | exact ((Box.new _ _ _ _ _).alloc (by simp) _).alloc (by simp <;> omega) _ | exact Box.new1 _ _ _ _ _ _ | exact (Box.new1 _ _ _ _ _ _).alloc (by simp <;> omega) _ | exact Box.new2 _ _ _ _ _ _ _)
      have la : w.heap.size < u1.heap.size := by have := b.size; simp at this; omega
      have Xb : Box u1 (w.heap.size + 1) _ _ _ := Below.box b (by simp <;> omega) (by first | exact Box.new _ _ _ _ _ | exact (Box.new _ _ _ _ _).alloc (by simp) _ | exact ((Box.new _ _ _ _ _).alloc (by simp) _).alloc (by simp <;> omega) _ | exact Box.new1 _ _ _ _ _ _ | exact (Box.new1 _ _ _ _ _ _).alloc (by simp <;> omega) _ | exact Box.new2 _ _ _ _ _ _ _)
      have lb : w.heap.size + 1 < u1.heap.size := by have := b.size; simp at this; omega
      have Xc : Box u1 (w.heap.size + 1 + 1) _ _ _ := Below.box b (by simp <;> omega) (by first | exact Box.new _ _ _ _ _ | exact (Box.new _ _ _ _ _).alloc (by simp) _ | exact ((Box.new _ _ _ _ _).alloc (by simp) _).alloc (by simp <;> omega) _ | exact Box.new1 _ _ _ _ _ _ | exact (Box.new1 _ _ _ _ _ _).alloc (by simp <;> omega) _ | exact Box.new2 _ _ _ _ _ _ _)
      have lc : w.heap.size + 1 + 1 < u1.heap.size := by have := b.size; simp at this; omega
      replace B := Below.next B D
      clear b D sD
      have xa0 := Xa.c0
      have xa1 := Xa.c1
      have xa2 := Xa.c2
      have xb0 := Xb.c0
      have xb1 := Xb.c1
      have xb2 := Xb.c2
      have xc0 := Xc.c0
      have xc1 := Xc.c1
      have xc2 := Xc.c2
      go_wp2_with fail
      refine (new_any _).mono ?_
      rintro e u2 ⟨rfl, F, hO⟩
      have b := hO.below
      clear hO
      clear xa0 xa1 xa2 xb0 xb1 xb2 xc0 xc1 xc2
      have D : Below (World.heap u1 |>.size) u1 u2 := Below.next (by repeat (first | exact Below.refl _ _ | apply Below.draws | apply below_lit)) b
      have sD := D.size
      replace Ra := Ra.below D
      replace Rb := Rb.below D
      replace Rc := Rc.below D
      replace Xa := Xa.below la D
      replace la := Nat.lt_of_lt_of_le la sD
      replace Xb := Xb.below lb D
      replace lb := Nat.lt_of_lt_of_le lb sD
      replace Xc := Xc.below lc D
      replace lc := Nat.lt_of_lt_of_le lc sD
      replace B := Below.next B D
      clear b D sD
      have xa0 := Xa.c0
      have xa1 := Xa.c1
      have xa2 := Xa.c2
      have xb0 := Xb.c0
      have xb1 := Xb.c1
      have xb2 := Xb.c2
      have xc0 := Xc.c0
      have xc1 := Xc.c1
      have xc2 := Xc.c2
      go_wp2_with fail
      refine (small_yes ⟨_, rfl, (Ra.below (by repeat (first | exact Below.refl _ _ | apply Below.draws | apply below_lit)))⟩ hsa).mono ?_
      rintro e u3 ⟨rfl, b⟩
      clear xa0 xa1 xa2 xb0 xb1 xb2 xc0 xc1 xc2
      have D : Below (World.heap u2 |>.size) u2 u3 := Below.next (by repeat (first | exact Below.refl _ _ | apply Below.draws | apply below_lit)) b
      have sD := D.size
      replace Ra := Ra.below D
      replace Rb := Rb.below D
      replace Rc := Rc.below D
      replace F := F.below D
      replace Xa := Xa.below la D
      replace la := Nat.lt_of_lt_of_le la sD
      replace Xb := Xb.below lb D
      replace lb := Nat.lt_of_lt_of_le lb sD
      replace Xc := Xc.below lc D
      replace lc := Nat.lt_of_lt_of_le lc sD
      replace B := Below.next B D
      clear b D sD
      have xa0 := Xa.c0
      have xa1 := Xa.c1
      have xa2 := Xa.c2
      have xb0 := Xb.c0
      have xb1 := Xb.c1
      have xb2 := Xb.c2
      have xc0 := Xc.c0
      have xc1 := Xc.c1
      have xc2 := Xc.c2
      go_wp2_with fail
      refine (small_no ⟨_, rfl, (Rb.below (by repeat (first | exact Below.refl _ _ | apply Below.draws | apply below_lit)))⟩ hsb).mono ?_
      rintro e u4 ⟨rfl, b⟩
      clear xa0 xa1 xa2 xb0 xb1 xb2 xc0 xc1 xc2
      have D : Below (World.heap u3 |>.size) u3 u4 := Below.next (by repeat (first | exact Below.refl _ _ | apply Below.draws | apply below_lit)) b
      have sD := D.size
      replace Ra := Ra.below D
      replace Rb := Rb.below D
      replace Rc := Rc.below D
      replace F := F.below D
      replace Xa := Xa.below la D
      replace la := Nat.lt_of_lt_of_le la sD
      replace Xb := Xb.below lb D
      replace lb := Nat.lt_of_lt_of_le lb sD
      replace Xc := Xc.below lc D
      replace lc := Nat.lt_of_lt_of_le lc sD
      replace B := Below.next B D
      clear b D sD
      have xa0 := Xa.c0
      have xa1 := Xa.c1
      have xa2 := Xa.c2
      have xb0 := Xb.c0
      have xb1 := Xb.c1
      have xb2 := Xb.c2
      have xc0 := Xc.c0
      have xc1 := Xc.c1
      have xc2 := Xc.c2
      go_wp2
      go_ret
      exact ⟨rfl, Below.next B (by repeat (first | exact Below.refl _ _ | apply Below.draws | apply below_lit))⟩
  · go_enter Try.func6, Try.ntmps6
    have B : Below w.heap.size w w := Below.refl _ _
    go_wp2_with fail
    refine (awake3_any _).mono ?_
    rintro e u1 ⟨rfl, b⟩
    have D : Below w.heap.size w u1 := Below.next (by repeat (first | exact Below.refl _ _ | apply Below.draws | apply below_lit)) b
    have sD := D.size
    replace Ra := Ra.below D
    replace Rb := Rb.below D
    replace Rc := Rc.below D
    have Xa : Box u1 (w.heap.size) _ _ _ := Below.box b (by simp <;> omega) (by first | exact Box.new _ _ _ _ _ | exact (Box.new _ _ _ _ _).alloc (by simp) _ | exact ((Box.new _ _ _ _ _).alloc (by simp) _).alloc (by simp <;> omega) _ | exact Box.new1 _ _ _ _ _ _ | exact (Box.new1 _ _ _ _ _ _).alloc (by simp <;> omega) _ | exact Box.new2 _ _ _ _ _ _ _)
    have la : w.heap.size < u1.heap.size := by have := b.size; simp at this; omega
    have Xb : Box u1 (w.heap.size + 1) _ _ _ := Below.box b (by simp <;> omega) (by first | exact Box.new _ _ _ _ _ | exact (Box.new _ _ _ _ _).alloc (by simp) _ | exact ((Box.new _ _ _ _ _).alloc (by simp) _).alloc (by simp <;> omega) _ | exact Box.new1 _ _ _ _ _ _ | exact (Box.new1 _ _ _ _ _ _).alloc (by simp <;> omega) _ | exact Box.new2 _ _ _ _ _ _ _)
    have lb : w.heap.size + 1 < u1.heap.size := by have := b.size; simp at this; omega
    have Xc : Box u1 (w.heap.size + 1 + 1) _ _ _ := Below.box b (by simp <;> omega) (by first | exact Box.new _ _ _ _ _ | exact (Box.new _ _ _ _ _).alloc (by simp) _ | exact ((Box.new _ _ _ _ _).alloc (by simp) _).alloc (by simp <;> omega) _ | exact Box.new1 _ _ _ _ _ _ | exact (Box.new1 _ _ _ _ _ _).alloc (by simp <;> omega) _ | exact Box.new2 _ _ _ _ _ _ _)
    have lc : w.heap.size + 1 + 1 < u1.heap.size := by have := b.size; simp at this; omega
    replace B := Below.next B D
    clear b D sD
    have xa0 := Xa.c0
    have xa1 := Xa.c1
    have xa2 := Xa.c2
    have xb0 := Xb.c0
    have xb1 := Xb.c1
    have xb2 := Xb.c2
    have xc0 := Xc.c0
    have xc1 := Xc.c1
    have xc2 := Xc.c2
    go_wp2_with fail
    refine (new_any _).mono ?_
    rintro e u2 ⟨rfl, F, hO⟩
    have b := hO.below
    clear hO
    clear xa0 xa1 xa2 xb0 xb1 xb2 xc0 xc1 xc2
    have D : Below (World.heap u1 |>.size) u1 u2 := Below.next (by repeat (first | exact Below.refl _ _ | apply Below.draws | apply below_lit)) b
    have sD := D.size
    replace Ra := Ra.below D
    replace Rb := Rb.below D
    replace Rc := Rc.below D
    replace Xa := Xa.below la D
    replace la := Nat.lt_of_lt_of_le la sD
    replace Xb := Xb.below lb D
    replace lb := Nat.lt_of_lt_of_le lb sD
    replace Xc := Xc.below lc D
    replace lc := Nat.lt_of_lt_of_le lc sD
    replace B := Below.next B D
    clear b D sD
    have xa0 := Xa.c0
    have xa1 := Xa.c1
    have xa2 := Xa.c2
    have xb0 := Xb.c0
    have xb1 := Xb.c1
    have xb2 := Xb.c2
    have xc0 := Xc.c0
    have xc1 := Xc.c1
    have xc2 := Xc.c2
    go_wp2_with fail
    refine (small_no ⟨_, rfl, (Ra.below (by repeat (first | exact Below.refl _ _ | apply Below.draws | apply below_lit)))⟩ hsa).mono ?_
    rintro e u3 ⟨rfl, b⟩
    clear xa0 xa1 xa2 xb0 xb1 xb2 xc0 xc1 xc2
    have D : Below (World.heap u2 |>.size) u2 u3 := Below.next (by repeat (first | exact Below.refl _ _ | apply Below.draws | apply below_lit)) b
    have sD := D.size
    replace Ra := Ra.below D
    replace Rb := Rb.below D
    replace Rc := Rc.below D
    replace F := F.below D
    replace Xa := Xa.below la D
    replace la := Nat.lt_of_lt_of_le la sD
    replace Xb := Xb.below lb D
    replace lb := Nat.lt_of_lt_of_le lb sD
    replace Xc := Xc.below lc D
    replace lc := Nat.lt_of_lt_of_le lc sD
    replace B := Below.next B D
    clear b D sD
    have xa0 := Xa.c0
    have xa1 := Xa.c1
    have xa2 := Xa.c2
    have xb0 := Xb.c0
    have xb1 := Xb.c1
    have xb2 := Xb.c2
    have xc0 := Xc.c0
    have xc1 := Xc.c1
    have xc2 := Xc.c2
    go_wp2
    go_ret
    exact ⟨rfl, Below.next B (by repeat (first | exact Below.refl _ _ | apply Below.draws | apply below_lit))⟩

/-! ### THE ROW's STEP: WRITTEN OUT: LEAVE IT -/
set_option maxRecDepth 100000 in
set_option maxHeartbeats 2000000 in
theorem lifted (os : Os) (started : os.Started) (H : Type) (enc : TypeId × Value → H) :
    ReturnsInHanded {} Try.checked os 6 .any (Rows.matrixBracketsSpec.pre6 enc Try.prog Try.f6 Rows.matrixBracketsRow.domain false) (Rows.matrixBracketsSpec.post enc Try.prog Try.f6 false true false false) := by
  refine returnsInHanded_of_change (C := Try.checked) own started (by kernel_rfl) Try.func6
    (ChangeSpec.witness6 (enc := enc) (C := Try.checked) false ⟨#[], #[.agg #[.int .i64 0, .int .i64 0, .slice none 0 0], .agg #[.int .i64 0, .int .i64 0, .slice none 0 0], .agg #[.int .i64 0, .int .i64 0, .slice none 0 0]], []⟩ 8 (by kernel_rfl) (by kernel_rfl) (by kernel_rfl) (by kernel_rfl)) ?_
  intro W base args ds gs before hval0 hW hcnd _
  have hval : ∀ (j : Nat) t v, Try.f6.params[j]? = some t → args[j]? = some v → Value.okWide Try.prog W .any base t v := hval0
  have hW' := hW
  obtain ⟨p, q, hA0, hV, rfl, hfz, hnd⟩ := hW
  have hA : DataW.TrodAll enc Try.prog W 0 (fun _ => true) true Try.f6.params.toList args.toList ds p := hA0
  rw [Try.params6] at hA hval
  obtain ⟨v0, vs0, d0, ds0, p0, q0, hargs, rfl, rfl, h0, r0⟩ := trodAll_cons hA
  obtain ⟨v1, vs1, d1, ds1, p1, q1, rfl, rfl, rfl, h1, r1⟩ := trodAll_cons r0
  obtain ⟨v2, vs2, d2, ds2, p2, q2, rfl, rfl, rfl, h2, r2⟩ := trodAll_cons r1
  obtain ⟨rfl, rfl, rfl⟩ := trodAll_nil r2
  obtain rfl : args = #[v0, v1, v2] := by cases args; simp_all
  obtain ⟨rfl, rfl⟩ := trodVars_none hV
  have k0 := h0
  have lt0 : ∀ x ∈ p0, x.block < W.heap.size := by obtain ⟨m, hm⟩ := k0; exact DataW.trod_lt m _ _ _ hm
  obtain ⟨x00, x01, x02, y00, y01, y02, m0, rfl, rfl, rfl, hy00, hy01, hy02⟩ := Go.Joins.open_agg3 Try.underlying25 (by kernel_rfl) (by kernel_rfl) (hval 0 25 v0 rfl rfl) h0
  obtain ⟨mr0, e00, f00, wr0⟩ := DataW.trod_int Try.underlying3 hy00
  obtain ⟨mc0, e01, f01, wc0⟩ := DataW.trod_int Try.underlying3 hy01
  obtain ⟨a0, len0, cap0, z0, e02, w0⟩ : ∃ a len cap zs, x02 = .slice a len cap ∧ IsRow .u8 W a len cap zs := by
    rcases open_ints Try.underlying23 Try.underlying5 (by kernel_rfl) hy02 with ⟨hcs, _⟩ | ⟨x, l, c, zs, hcs, _, hl, hm, hz, _, hcell, hwz⟩
    · simp at hcs
      exact ⟨none, 0, 0, [], hcs, .inl ⟨rfl, rfl, rfl, rfl⟩⟩
    · simp at hcs
      exact ⟨_, _, _, zs, hcs, .inr ⟨_, rfl, hl, hm, by simpa using hz, hcell, hwz⟩⟩
  simp at e00 e01
  subst e00 e01 e02
  have k1 := h1
  have lt1 : ∀ x ∈ p1, x.block < W.heap.size := by obtain ⟨m, hm⟩ := k1; exact DataW.trod_lt m _ _ _ hm
  obtain ⟨x10, x11, x12, y10, y11, y12, m1, rfl, rfl, rfl, hy10, hy11, hy12⟩ := Go.Joins.open_agg3 Try.underlying25 (by kernel_rfl) (by kernel_rfl) (hval 1 25 v1 rfl rfl) h1
  obtain ⟨mr1, e10, f10, wr1⟩ := DataW.trod_int Try.underlying3 hy10
  obtain ⟨mc1, e11, f11, wc1⟩ := DataW.trod_int Try.underlying3 hy11
  obtain ⟨a1, len1, cap1, z1, e12, w1⟩ : ∃ a len cap zs, x12 = .slice a len cap ∧ IsRow .u8 W a len cap zs := by
    rcases open_ints Try.underlying23 Try.underlying5 (by kernel_rfl) hy12 with ⟨hcs, _⟩ | ⟨x, l, c, zs, hcs, _, hl, hm, hz, _, hcell, hwz⟩
    · simp at hcs
      exact ⟨none, 0, 0, [], hcs, .inl ⟨rfl, rfl, rfl, rfl⟩⟩
    · simp at hcs
      exact ⟨_, _, _, zs, hcs, .inr ⟨_, rfl, hl, hm, by simpa using hz, hcell, hwz⟩⟩
  simp at e10 e11
  subst e10 e11 e12
  have k2 := h2
  have lt2 : ∀ x ∈ p2, x.block < W.heap.size := by obtain ⟨m, hm⟩ := k2; exact DataW.trod_lt m _ _ _ hm
  obtain ⟨x20, x21, x22, y20, y21, y22, m2, rfl, rfl, rfl, hy20, hy21, hy22⟩ := Go.Joins.open_agg3 Try.underlying25 (by kernel_rfl) (by kernel_rfl) (hval 2 25 v2 rfl rfl) h2
  obtain ⟨mr2, e20, f20, wr2⟩ := DataW.trod_int Try.underlying3 hy20
  obtain ⟨mc2, e21, f21, wc2⟩ := DataW.trod_int Try.underlying3 hy21
  obtain ⟨a2, len2, cap2, z2, e22, w2⟩ : ∃ a len cap zs, x22 = .slice a len cap ∧ IsRow .u8 W a len cap zs := by
    rcases open_ints Try.underlying23 Try.underlying5 (by kernel_rfl) hy22 with ⟨hcs, _⟩ | ⟨x, l, c, zs, hcs, _, hl, hm, hz, _, hcell, hwz⟩
    · simp at hcs
      exact ⟨none, 0, 0, [], hcs, .inl ⟨rfl, rfl, rfl, rfl⟩⟩
    · simp at hcs
      exact ⟨_, _, _, zs, hcs, .inr ⟨_, rfl, hl, hm, by simpa using hz, hcell, hwz⟩⟩
  simp at e20 e21
  subst e20 e21 e22
  clear hA0 hval0
  refine (walk mr0 mc0 a0 len0 cap0 z0 mr1 mc1 a1 len1 cap1 z1 mr2 mc2 a2 len2 cap2 z2 W wr0 wc0 w0 wr1 wc1 w1 wr2 wc2 w2).mono fun e W' ⟨he, bel⟩ => ?_
  subst he
  exact ⟨_, rfl, _, _, _, [], _, [], hW', trodAll_mk1 (shut_bool Try.underlying4 _), (trodAll_cons_mk (Below.trod laidOut (by kernel_rfl) (of_decide_eq_true (by kernel_rfl)) k0 bel lt0) (trodAll_cons_mk (Below.trod laidOut (by kernel_rfl) (of_decide_eq_true (by kernel_rfl)) k1 bel lt1) (trodAll_cons_mk (Below.trod laidOut (by kernel_rfl) (of_decide_eq_true (by kernel_rfl)) k2 bel lt2) trodAll_mk0))), rfl, bel.frame _, fun h => by cases h⟩

theorem over : Rows.matrixBracketsRow.holds Try.pinned (OpenSpec.ofChange Rows.matrixBracketsSpec) :=
  OpenClaim.holds_of_wide 6 Try.f6 rfl rfl rfl rfl rfl rfl rfl ⟨rfl, rfl, rfl, rfl, rfl⟩ rfl rfl rfl rfl rfl (by kernel_rfl) Try.func6 (by kernel_rfl)
    (of_decide_eq_true (by kernel_rfl)) (by unfold Func.isWrapper; first | (rw [if_pos (by decide +kernel)]; kernel_rfl) | (rw [if_neg (by decide +kernel)]; exact ⟨rfl, rfl⟩))
    (fun os started H enc _ => lifted os started H enc)

/-- ████ THE STATEMENT ████ -/
theorem proved : Rows.MatrixBracketsSaid := over
end Go.Proofs.Ytljbecalobnkbaa.matrixBrackets
namespace Go.Proofs.Ytljbecalobnkbaa
theorem matrixBrackets_holds : Rows.MatrixBracketsSaid := matrixBrackets.proved
#print axioms matrixBrackets_holds
end Go.Proofs.Ytljbecalobnkbaa
