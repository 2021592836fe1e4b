/- PROVED: for every matrix a (whatever its rows and columns say) the call MatrixOnes(a) returns true, and its argument reads behind it as before; no conditions. -/
import Derived.Test.YtljbecalobnkbabRows
import Derived.Test.YtljbecalobnkbabMxAwake
import Derived.Test.YtljbecalobnkbabMxSmall
import Derived.Test.YtljbecalobnkbabMxLaws
import Derived.WalkKit
import Derived.ProofKit
import Derived.OpenShut
import Derived.ShutString
import Derived.ChangeOld
import Derived.Below
import Derived.Lib.SmallJoins
namespace Go.Proofs.Ytljbecalobnkbab.matrixOnes
open Go.ChangeShapes Go.WideShapes Go.ChangeAt Go.RowKit
open Go.ChangeMaps (open_string shut_string)
set_option linter.unusedVariables false

theorem own : ownKnob Try.prog.godebug = none := by kernel_rfl
theorem laidOut : laidOutB Try.prog = true := by kernel_rfl

/-- WHAT THE WALK IS TOLD OF A SLICE OF INTEGERS THAT CAME IN: it is nil; or it leads to a row of 'cap' cells, the numbers 'zs' (the first 'len' are its elements, the rest its spare room), each fitting its kind. -/
def IsRow (k : IntKind) (w : World) (a : Option Addr) (len cap : Nat) (zs : List Int) : Prop :=
  (a = none ∧ len = 0 ∧ cap = 0 ∧ zs = []) ∨
  ∃ x, a = some x ∧ len ≤ cap ∧ cap ≤ maxLen ∧ zs.length = cap ∧ (∀ i, i < zs.length → w.cell? (x.add i) = some (.int k (zs.getD i 0))) ∧ ∀ n ∈ zs, (Lit.int k n).wf = true

open Gf
set_option linter.unusedSimpArgs false
set_option maxRecDepth 100000 in
set_option maxHeartbeats 2000000 in
theorem walk (mr0 mc0 : Int) (a0 : Option Addr) (len0 cap0 : Nat) (z0 : List Int) (w : World) (wr0 : (Lit.int .i64 mr0).wf = true) (wc0 : (Lit.int .i64 mc0).wf = true) (w0 : IsRow .u8 w a0 len0 cap0 z0) :
    Calls Try.prog 3 #[.agg #[.int .i64 mr0, .int .i64 mc0, .slice a0 len0 cap0]] w fun e w' => e = .returned (.bool true) ∧ Below w.heap.size w w' := by
  obtain ⟨La, rfl, Ra⟩ := rd_row w0
  by_cases hs : SmallM mr0 mc0 La
  · by_cases hok : OkM mr0 mc0 La
    · obtain ⟨r, c, e1, e2, hr, hc, hAl⟩ := hok.nat
      subst e1
      subst e2
      have HAl : Hid _ := hAl
      clear hAl
      go_enter Try.func3, Try.ntmps3
      have B : Below w.heap.size w w := Below.refl _ _
      go_wp2_with fail
      refine (awake3_any _).mono ?_
      rintro e u1 ⟨rfl, b⟩
      have D : Below w.heap.size w u1 := Below.next (by repeat (first | exact Below.refl _ _ | apply Below.draws | apply below_lit)) b
      have sD := D.size
      replace Ra := Ra.below D
      have Xa : Box u1 (w.heap.size) _ _ _ := Below.box b (by simp <;> omega) (by first | exact Box.new _ _ _ _ _ | exact (Box.new _ _ _ _ _).alloc (by simp) _ | exact ((Box.new _ _ _ _ _).alloc (by simp) _).alloc (by simp <;> omega) _ | exact Box.new1 _ _ _ _ _ _ | exact (Box.new1 _ _ _ _ _ _).alloc (by simp <;> omega) _ | exact Box.new2 _ _ _ _ _ _ _)
      have la : w.heap.size < u1.heap.size := by have := b.size; simp at this; omega
      replace B := Below.next B D
      clear b D sD
      have xa0 := Xa.c0
      have xa1 := Xa.c1
      have xa2 := Xa.c2
      go_wp2_with fail
      refine (new_any _).mono ?_
      rintro e u2 ⟨rfl, F, hO⟩
      have b := hO.below
      clear hO
      clear xa0 xa1 xa2
      have D : Below (World.heap u1 |>.size) u1 u2 := Below.next (by repeat (first | exact Below.refl _ _ | apply Below.draws | apply below_lit)) b
      have sD := D.size
      replace Ra := Ra.below D
      replace Xa := Xa.below la D
      replace la := Nat.lt_of_lt_of_le la sD
      replace B := Below.next B D
      clear b D sD
      have xa0 := Xa.c0
      have xa1 := Xa.c1
      have xa2 := Xa.c2
      go_wp2_with fail
      refine (small_yes ⟨_, rfl, (Ra.below (by repeat (first | exact Below.refl _ _ | apply Below.draws | apply below_lit)))⟩ hs).mono ?_
      rintro e u3 ⟨rfl, b⟩
      clear xa0 xa1 xa2
      have D : Below (World.heap u2 |>.size) u2 u3 := Below.next (by repeat (first | exact Below.refl _ _ | apply Below.draws | apply below_lit)) b
      have sD := D.size
      replace Ra := Ra.below D
      replace F := F.below D
      replace Xa := Xa.below la D
      replace la := Nat.lt_of_lt_of_le la sD
      replace B := Below.next B D
      clear b D sD
      have xa0 := Xa.c0
      have xa1 := Xa.c1
      have xa2 := Xa.c2
      go_wp2_with fail
      refine (mcheck_ok ⟨_, rfl, (Ra.below (by repeat (first | exact Below.refl _ _ | apply Below.draws | apply below_lit)))⟩ hok).mono ?_
      rintro e u4 ⟨rfl, b⟩
      clear xa0 xa1 xa2
      have D : Below (World.heap u3 |>.size) u3 u4 := Below.next (by repeat (first | exact Below.refl _ _ | apply Below.draws | apply below_lit)) b
      have sD := D.size
      replace Ra := Ra.below D
      replace F := F.below D
      replace Xa := Xa.below la D
      replace la := Nat.lt_of_lt_of_le la sD
      replace B := Below.next B D
      clear b D sD
      have xa0 := Xa.c0
      have xa1 := Xa.c1
      have xa2 := Xa.c2
      go_wp2_with fail
      refine (mident_any r _ (by omega) rfl).mono ?_
      rintro e u5 ⟨vl, rfl, Rl, b⟩
      clear xa0 xa1 xa2
      have D : Below (World.heap u4 |>.size) u4 u5 := Below.next (by repeat (first | exact Below.refl _ _ | apply Below.draws | apply below_lit)) b
      have sD := D.size
      replace Ra := Ra.below D
      replace F := F.below D
      replace Xa := Xa.below la D
      replace la := Nat.lt_of_lt_of_le la sD
      replace B := Below.next B D
      clear b D sD
      have xa0 := Xa.c0
      have xa1 := Xa.c1
      have xa2 := Xa.c2
      obtain ⟨al, cl, rfl⟩ := Rl.form
      go_wp2_with fail
      refine (mident_any c _ (by omega) rfl).mono ?_
      rintro e u6 ⟨vr, rfl, Rr, b⟩
      clear xa0 xa1 xa2
      have D : Below (World.heap u5 |>.size) u5 u6 := Below.next (by repeat (first | exact Below.refl _ _ | apply Below.draws | apply below_lit)) b
      have sD := D.size
      replace Ra := Ra.below D
      replace F := F.below D
      replace Rl := Rl.below D
      replace Xa := Xa.below la D
      replace la := Nat.lt_of_lt_of_le la sD
      have Xl : Box u6 (World.heap u5 |>.size) _ _ _ := Below.box b (by simp <;> omega) (by first | exact Box.new _ _ _ _ _ | exact (Box.new _ _ _ _ _).alloc (by simp) _ | exact ((Box.new _ _ _ _ _).alloc (by simp) _).alloc (by simp <;> omega) _)
      have ll : (World.heap u5 |>.size) < (World.heap u6 |>.size) := by have := b.size; simp at this; omega
      replace B := Below.next B D
      clear b D sD
      have xa0 := Xa.c0
      have xa1 := Xa.c1
      have xa2 := Xa.c2
      have xl0 := Xl.c0
      have xl1 := Xl.c1
      have xl2 := Xl.c2
      obtain ⟨ar, cr, rfl⟩ := Rr.form
      go_wp2_with fail
      refine (mmul_ok (F.below (by repeat (first | exact Below.refl _ _ | apply Below.draws | apply below_lit))) ⟨_, rfl, (Rl.below (by repeat (first | exact Below.refl _ _ | apply Below.draws | apply below_lit)))⟩ ⟨_, rfl, (Ra.below (by repeat (first | exact Below.refl _ _ | apply Below.draws | apply below_lit)))⟩ (okM_flat one (by omega) (by omega)) hok).mono ?_
      rintro e u7 ⟨vx, rfl, Rx, b⟩
      clear xa0 xa1 xa2 xl0 xl1 xl2
      have D : Below (World.heap u6 |>.size) u6 u7 := Below.next (by repeat (first | exact Below.refl _ _ | apply Below.draws | apply below_lit)) b
      have sD := D.size
      replace Ra := Ra.below D
      replace F := F.below D
      replace Rl := Rl.below D
      replace Rr := Rr.below D
      replace Xa := Xa.below la D
      replace la := Nat.lt_of_lt_of_le la sD
      replace Xl := Xl.below ll D
      replace ll := Nat.lt_of_lt_of_le ll sD
      have Xr : Box u7 (World.heap u6 |>.size) _ _ _ := Below.box b (by simp <;> omega) (by first | exact Box.new _ _ _ _ _ | exact (Box.new _ _ _ _ _).alloc (by simp) _ | exact ((Box.new _ _ _ _ _).alloc (by simp) _).alloc (by simp <;> omega) _)
      have lr : (World.heap u6 |>.size) < (World.heap u7 |>.size) := by have := b.size; simp at this; omega
      replace B := Below.next B D
      clear b D sD
      have xa0 := Xa.c0
      have xa1 := Xa.c1
      have xa2 := Xa.c2
      have xl0 := Xl.c0
      have xl1 := Xl.c1
      have xl2 := Xl.c2
      have xr0 := Xr.c0
      have xr1 := Xr.c1
      have xr2 := Xr.c2
      obtain ⟨ax, cx, rfl⟩ := Rx.form
      go_wp2_with fail
      refine (mmul_ok (F.below (by repeat (first | exact Below.refl _ _ | apply Below.draws | apply below_lit))) ⟨_, rfl, (Ra.below (by repeat (first | exact Below.refl _ _ | apply Below.draws | apply below_lit)))⟩ ⟨_, rfl, (Rr.below (by repeat (first | exact Below.refl _ _ | apply Below.draws | apply below_lit)))⟩ hok (okM_flat one (by omega) (by omega))).mono ?_
      rintro e u8 ⟨vy, rfl, Ry, b⟩
      clear xa0 xa1 xa2 xl0 xl1 xl2 xr0 xr1 xr2
      have D : Below (World.heap u7 |>.size) u7 u8 := Below.next (by repeat (first | exact Below.refl _ _ | apply Below.draws | apply below_lit)) b
      have sD := D.size
      replace Ra := Ra.below D
      replace F := F.below D
      replace Rl := Rl.below D
      replace Rr := Rr.below D
      replace Rx := Rx.below D
      replace Xa := Xa.below la D
      replace la := Nat.lt_of_lt_of_le la sD
      replace Xl := Xl.below ll D
      replace ll := Nat.lt_of_lt_of_le ll sD
      replace Xr := Xr.below lr D
      replace lr := Nat.lt_of_lt_of_le lr sD
      have Xx : Box u8 (World.heap u7 |>.size) _ _ _ := Below.box b (by simp <;> omega) (by first | exact Box.new _ _ _ _ _ | exact (Box.new _ _ _ _ _).alloc (by simp) _ | exact ((Box.new _ _ _ _ _).alloc (by simp) _).alloc (by simp <;> omega) _)
      have lx : (World.heap u7 |>.size) < (World.heap u8 |>.size) := by have := b.size; simp at this; omega
      replace B := Below.next B D
      clear b D sD
      have xa0 := Xa.c0
      have xa1 := Xa.c1
      have xa2 := Xa.c2
      have xl0 := Xl.c0
      have xl1 := Xl.c1
      have xl2 := Xl.c2
      have xr0 := Xr.c0
      have xr1 := Xr.c1
      have xr2 := Xr.c2
      have xx0 := Xx.c0
      have xx1 := Xx.c1
      have xx2 := Xx.c2
      obtain ⟨ay, cy, rfl⟩ := Ry.form
      go_wp2_with fail
      refine (minv_ok (F.below (by repeat (first | exact Below.refl _ _ | apply Below.draws | apply below_lit))) ⟨_, rfl, (Rl.below (by repeat (first | exact Below.refl _ _ | apply Below.draws | apply below_lit)))⟩ (okM_flat one (by omega) (by omega))).mono ?_
      rintro e u9 (⟨V, hV, vv, rfl, Rv, b⟩ | ⟨hs2, _⟩)
      rotate_left
      · exact (one_no r hs2).elim
      clear xa0 xa1 xa2 xl0 xl1 xl2 xr0 xr1 xr2 xx0 xx1 xx2
      have D : Below (World.heap u8 |>.size) u8 u9 := Below.next (by repeat (first | exact Below.refl _ _ | apply Below.draws | apply below_lit)) b
      have sD := D.size
      replace Ra := Ra.below D
      replace F := F.below D
      replace Rl := Rl.below D
      replace Rr := Rr.below D
      replace Rx := Rx.below D
      replace Ry := Ry.below D
      replace Xa := Xa.below la D
      replace la := Nat.lt_of_lt_of_le la sD
      replace Xl := Xl.below ll D
      replace ll := Nat.lt_of_lt_of_le ll sD
      replace Xr := Xr.below lr D
      replace lr := Nat.lt_of_lt_of_le lr sD
      replace Xx := Xx.below lx D
      replace lx := Nat.lt_of_lt_of_le lx sD
      have Xy : Box u9 (World.heap u8 |>.size) _ _ _ := Below.box b (by simp <;> omega) (by first | exact Box.new _ _ _ _ _ | exact (Box.new _ _ _ _ _).alloc (by simp) _ | exact ((Box.new _ _ _ _ _).alloc (by simp) _).alloc (by simp <;> omega) _)
      have ly : (World.heap u8 |>.size) < (World.heap u9 |>.size) := by have := b.size; simp at this; omega
      replace B := Below.next B D
      clear b D sD
      have xa0 := Xa.c0
      have xa1 := Xa.c1
      have xa2 := Xa.c2
      have xl0 := Xl.c0
      have xl1 := Xl.c1
      have xl2 := Xl.c2
      have xr0 := Xr.c0
      have xr1 := Xr.c1
      have xr2 := Xr.c2
      have xx0 := Xx.c0
      have xx1 := Xx.c1
      have xx2 := Xx.c2
      have xy0 := Xy.c0
      have xy1 := Xy.c1
      have xy2 := Xy.c2
      obtain ⟨av, cv, rfl⟩ := Rv.form
      go_wp2_with fail
      refine (same3 ⟨_, rfl, (Rx.below (by repeat (first | exact Below.refl _ _ | apply Below.draws | apply below_lit))).as (one_x HAl.out)⟩ ⟨_, rfl, (Ra.below (by repeat (first | exact Below.refl _ _ | apply Below.draws | apply below_lit)))⟩).mono ?_
      rintro e u10 ⟨rfl, b⟩
      clear xa0 xa1 xa2 xl0 xl1 xl2 xr0 xr1 xr2 xx0 xx1 xx2 xy0 xy1 xy2
      have D : Below (World.heap u9 |>.size) u9 u10 := Below.next (by repeat (first | exact Below.refl _ _ | apply Below.draws | apply below_lit)) b
      have sD := D.size
      replace Ra := Ra.below D
      replace F := F.below D
      replace Rl := Rl.below D
      replace Rr := Rr.below D
      replace Rx := Rx.below D
      replace Ry := Ry.below D
      replace Rv := Rv.below D
      replace Xa := Xa.below la D
      replace la := Nat.lt_of_lt_of_le la sD
      replace Xl := Xl.below ll D
      replace ll := Nat.lt_of_lt_of_le ll sD
      replace Xr := Xr.below lr D
      replace lr := Nat.lt_of_lt_of_le lr sD
      replace Xx := Xx.below lx D
      replace lx := Nat.lt_of_lt_of_le lx sD
      replace Xy := Xy.below ly D
      replace ly := Nat.lt_of_lt_of_le ly sD
      have Xv : Box u10 (World.heap u9 |>.size) _ _ _ := Below.box b (by simp <;> omega) (by first | exact Box.new _ _ _ _ _ | exact (Box.new _ _ _ _ _).alloc (by simp) _ | exact ((Box.new _ _ _ _ _).alloc (by simp) _).alloc (by simp <;> omega) _)
      have lv : (World.heap u9 |>.size) < (World.heap u10 |>.size) := by have := b.size; simp at this; omega
      replace B := Below.next B D
      clear b D sD
      have xa0 := Xa.c0
      have xa1 := Xa.c1
      have xa2 := Xa.c2
      have xl0 := Xl.c0
      have xl1 := Xl.c1
      have xl2 := Xl.c2
      have xr0 := Xr.c0
      have xr1 := Xr.c1
      have xr2 := Xr.c2
      have xx0 := Xx.c0
      have xx1 := Xx.c1
      have xx2 := Xx.c2
      have xy0 := Xy.c0
      have xy1 := Xy.c1
      have xy2 := Xy.c2
      have xv0 := Xv.c0
      have xv1 := Xv.c1
      have xv2 := Xv.c2
      go_wp2_with fail
      refine (same3 ⟨_, rfl, (Ry.below (by repeat (first | exact Below.refl _ _ | apply Below.draws | apply below_lit))).as (one_y HAl.out)⟩ ⟨_, rfl, (Ra.below (by repeat (first | exact Below.refl _ _ | apply Below.draws | apply below_lit)))⟩).mono ?_
      rintro e u11 ⟨rfl, b⟩
      clear xa0 xa1 xa2 xl0 xl1 xl2 xr0 xr1 xr2 xx0 xx1 xx2 xy0 xy1 xy2 xv0 xv1 xv2
      have D : Below (World.heap u10 |>.size) u10 u11 := Below.next (by repeat (first | exact Below.refl _ _ | apply Below.draws | apply below_lit)) b
      have sD := D.size
      replace Ra := Ra.below D
      replace F := F.below D
      replace Rl := Rl.below D
      replace Rr := Rr.below D
      replace Rx := Rx.below D
      replace Ry := Ry.below D
      replace Rv := Rv.below D
      replace Xa := Xa.below la D
      replace la := Nat.lt_of_lt_of_le la sD
      replace Xl := Xl.below ll D
      replace ll := Nat.lt_of_lt_of_le ll sD
      replace Xr := Xr.below lr D
      replace lr := Nat.lt_of_lt_of_le lr sD
      replace Xx := Xx.below lx D
      replace lx := Nat.lt_of_lt_of_le lx sD
      replace Xy := Xy.below ly D
      replace ly := Nat.lt_of_lt_of_le ly sD
      replace Xv := Xv.below lv D
      replace lv := Nat.lt_of_lt_of_le lv sD
      replace B := Below.next B D
      clear b D sD
      have xa0 := Xa.c0
      have xa1 := Xa.c1
      have xa2 := Xa.c2
      have xl0 := Xl.c0
      have xl1 := Xl.c1
      have xl2 := Xl.c2
      have xr0 := Xr.c0
      have xr1 := Xr.c1
      have xr2 := Xr.c2
      have xx0 := Xx.c0
      have xx1 := Xx.c1
      have xx2 := Xx.c2
      have xy0 := Xy.c0
      have xy1 := Xy.c1
      have xy2 := Xy.c2
      have xv0 := Xv.c0
      have xv1 := Xv.c1
      have xv2 := Xv.c2
      go_wp2_with fail
      refine (same3 ⟨_, rfl, (Rv.below (by repeat (first | exact Below.refl _ _ | apply Below.draws | apply below_lit))).as (one_inv r hV)⟩ ⟨_, rfl, (Rl.below (by repeat (first | exact Below.refl _ _ | apply Below.draws | apply below_lit)))⟩).mono ?_
      rintro e u12 ⟨rfl, b⟩
      clear xa0 xa1 xa2 xl0 xl1 xl2 xr0 xr1 xr2 xx0 xx1 xx2 xy0 xy1 xy2 xv0 xv1 xv2
      have D : Below (World.heap u11 |>.size) u11 u12 := Below.next (by repeat (first | exact Below.refl _ _ | apply Below.draws | apply below_lit)) b
      have sD := D.size
      replace Ra := Ra.below D
      replace F := F.below D
      replace Rl := Rl.below D
      replace Rr := Rr.below D
      replace Rx := Rx.below D
      replace Ry := Ry.below D
      replace Rv := Rv.below D
      replace Xa := Xa.below la D
      replace la := Nat.lt_of_lt_of_le la sD
      replace Xl := Xl.below ll D
      replace ll := Nat.lt_of_lt_of_le ll sD
      replace Xr := Xr.below lr D
      replace lr := Nat.lt_of_lt_of_le lr sD
      replace Xx := Xx.below lx D
      replace lx := Nat.lt_of_lt_of_le lx sD
      replace Xy := Xy.below ly D
      replace ly := Nat.lt_of_lt_of_le ly sD
      replace Xv := Xv.below lv D
      replace lv := Nat.lt_of_lt_of_le lv sD
      replace B := Below.next B D
      clear b D sD
      have xa0 := Xa.c0
      have xa1 := Xa.c1
      have xa2 := Xa.c2
      have xl0 := Xl.c0
      have xl1 := Xl.c1
      have xl2 := Xl.c2
      have xr0 := Xr.c0
      have xr1 := Xr.c1
      have xr2 := Xr.c2
      have xx0 := Xx.c0
      have xx1 := Xx.c1
      have xx2 := Xx.c2
      have xy0 := Xy.c0
      have xy1 := Xy.c1
      have xy2 := Xy.c2
      have xv0 := Xv.c0
      have xv1 := Xv.c1
      have xv2 := Xv.c2
      go_wp2
      go_ret
      exact ⟨rfl, Below.next B (by repeat (first | exact Below.refl _ _ | apply Below.draws | apply below_lit))⟩
    · go_enter Try.func3, Try.ntmps3
      have B : Below w.heap.size w w := Below.refl _ _
      go_wp2_with fail
      refine (awake3_any _).mono ?_
      rintro e u1 ⟨rfl, b⟩
      have D : Below w.heap.size w u1 := Below.next (by repeat (first | exact Below.refl _ _ | apply Below.draws | apply below_lit)) b
      have sD := D.size
      replace Ra := Ra.below D
      have Xa : Box u1 (w.heap.size) _ _ _ := Below.box b (by simp <;> omega) (by first | exact Box.new _ _ _ _ _ | exact (Box.new _ _ _ _ _).alloc (by simp) _ | exact ((Box.new _ _ _ _ _).alloc (by simp) _).alloc (by simp <;> omega) _ | exact Box.new1 _ _ _ _ _ _ | exact (Box.new1 _ _ _ _ _ _).alloc (by simp <;> omega) _ | exact Box.new2 _ _ _ _ _ _ _)
      have la : w.heap.size < u1.heap.size := by have := b.size; simp at this; omega
      replace B := Below.next B D
      clear b D sD
      have xa0 := Xa.c0
      have xa1 := Xa.c1
      have xa2 := Xa.c2
      go_wp2_with fail
      refine (new_any _).mono ?_
      rintro e u2 ⟨rfl, F, hO⟩
      have b := hO.below
      clear hO
      clear xa0 xa1 xa2
      have D : Below (World.heap u1 |>.size) u1 u2 := Below.next (by repeat (first | exact Below.refl _ _ | apply Below.draws | apply below_lit)) b
      have sD := D.size
      replace Ra := Ra.below D
      replace Xa := Xa.below la D
      replace la := Nat.lt_of_lt_of_le la sD
      replace B := Below.next B D
      clear b D sD
      have xa0 := Xa.c0
      have xa1 := Xa.c1
      have xa2 := Xa.c2
      go_wp2_with fail
      refine (small_yes ⟨_, rfl, (Ra.below (by repeat (first | exact Below.refl _ _ | apply Below.draws | apply below_lit)))⟩ hs).mono ?_
      rintro e u3 ⟨rfl, b⟩
      clear xa0 xa1 xa2
      have D : Below (World.heap u2 |>.size) u2 u3 := Below.next (by repeat (first | exact Below.refl _ _ | apply Below.draws | apply below_lit)) b
      have sD := D.size
      replace Ra := Ra.below D
      replace F := F.below D
      replace Xa := Xa.below la D
      replace la := Nat.lt_of_lt_of_le la sD
      replace B := Below.next B D
      clear b D sD
      have xa0 := Xa.c0
      have xa1 := Xa.c1
      have xa2 := Xa.c2
      go_wp2_with fail
      refine (mcheck_bad ⟨_, rfl, (Ra.below (by repeat (first | exact Below.refl _ _ | apply Below.draws | apply below_lit)))⟩ hok).mono ?_
      rintro e u4 ⟨rfl, b⟩
      clear xa0 xa1 xa2
      have D : Below (World.heap u3 |>.size) u3 u4 := Below.next (by repeat (first | exact Below.refl _ _ | apply Below.draws | apply below_lit)) b
      have sD := D.size
      replace Ra := Ra.below D
      replace F := F.below D
      replace Xa := Xa.below la D
      replace la := Nat.lt_of_lt_of_le la sD
      replace B := Below.next B D
      clear b D sD
      have xa0 := Xa.c0
      have xa1 := Xa.c1
      have xa2 := Xa.c2
      go_wp2
      go_ret
      exact ⟨rfl, Below.next B (by repeat (first | exact Below.refl _ _ | apply Below.draws | apply below_lit))⟩
  · go_enter Try.func3, Try.ntmps3
    have B : Below w.heap.size w w := Below.refl _ _
    go_wp2_with fail
    refine (awake3_any _).mono ?_
    rintro e u1 ⟨rfl, b⟩
    have D : Below w.heap.size w u1 := Below.next (by repeat (first | exact Below.refl _ _ | apply Below.draws | apply below_lit)) b
    have sD := D.size
    replace Ra := Ra.below D
    have Xa : Box u1 (w.heap.size) _ _ _ := Below.box b (by simp <;> omega) (by first | exact Box.new _ _ _ _ _ | exact (Box.new _ _ _ _ _).alloc (by simp) _ | exact ((Box.new _ _ _ _ _).alloc (by simp) _).alloc (by simp <;> omega) _ | exact Box.new1 _ _ _ _ _ _ | exact (Box.new1 _ _ _ _ _ _).alloc (by simp <;> omega) _ | exact Box.new2 _ _ _ _ _ _ _)
    have la : w.heap.size < u1.heap.size := by have := b.size; simp at this; omega
    replace B := Below.next B D
    clear b D sD
    have xa0 := Xa.c0
    have xa1 := Xa.c1
    have xa2 := Xa.c2
    go_wp2_with fail
    refine (new_any _).mono ?_
    rintro e u2 ⟨rfl, F, hO⟩
    have b := hO.below
    clear hO
    clear xa0 xa1 xa2
    have D : Below (World.heap u1 |>.size) u1 u2 := Below.next (by repeat (first | exact Below.refl _ _ | apply Below.draws | apply below_lit)) b
    have sD := D.size
    replace Ra := Ra.below D
    replace Xa := Xa.below la D
    replace la := Nat.lt_of_lt_of_le la sD
    replace B := Below.next B D
    clear b D sD
    have xa0 := Xa.c0
    have xa1 := Xa.c1
    have xa2 := Xa.c2
    go_wp2_with fail
    refine (small_no ⟨_, rfl, (Ra.below (by repeat (first | exact Below.refl _ _ | apply Below.draws | apply below_lit)))⟩ hs).mono ?_
    rintro e u3 ⟨rfl, b⟩
    clear xa0 xa1 xa2
    have D : Below (World.heap u2 |>.size) u2 u3 := Below.next (by repeat (first | exact Below.refl _ _ | apply Below.draws | apply below_lit)) b
    have sD := D.size
    replace Ra := Ra.below D
    replace F := F.below D
    replace Xa := Xa.below la D
    replace la := Nat.lt_of_lt_of_le la sD
    replace B := Below.next B D
    clear b D sD
    have xa0 := Xa.c0
    have xa1 := Xa.c1
    have xa2 := Xa.c2
    go_wp2
    go_ret
    exact ⟨rfl, Below.next B (by repeat (first | exact Below.refl _ _ | apply Below.draws | apply below_lit))⟩

/-! ### THE ROW's STEP: WRITTEN OUT: LEAVE IT -/
set_option maxRecDepth 100000 in
set_option maxHeartbeats 2000000 in
theorem lifted (os : Os) (started : os.Started) (H : Type) (enc : TypeId × Value → H) :
    ReturnsInHanded {} Try.checked os 3 .any (Rows.matrixOnesSpec.pre6 enc Try.prog Try.f3 Rows.matrixOnesRow.domain false) (Rows.matrixOnesSpec.post enc Try.prog Try.f3 false true false false) := by
  refine returnsInHanded_of_change (C := Try.checked) own started (by kernel_rfl) Try.func3
    (ChangeSpec.witness6 (enc := enc) (C := Try.checked) false ⟨#[], #[.agg #[.int .i64 0, .int .i64 0, .slice none 0 0]], []⟩ 8 (by kernel_rfl) (by kernel_rfl) (by kernel_rfl) (by kernel_rfl)) ?_
  intro W base args ds gs before hval0 hW hcnd _
  have hval : ∀ (j : Nat) t v, Try.f3.params[j]? = some t → args[j]? = some v → Value.okWide Try.prog W .any base t v := hval0
  have hW' := hW
  obtain ⟨p, q, hA0, hV, rfl, hfz, hnd⟩ := hW
  have hA : DataW.TrodAll enc Try.prog W 0 (fun _ => true) true Try.f3.params.toList args.toList ds p := hA0
  rw [Try.params3] at hA hval
  obtain ⟨v0, vs0, d0, ds0, p0, q0, hargs, rfl, rfl, h0, r0⟩ := trodAll_cons hA
  obtain ⟨rfl, rfl, rfl⟩ := trodAll_nil r0
  obtain rfl : args = #[v0] := by cases args; simp_all
  obtain ⟨rfl, rfl⟩ := trodVars_none hV
  have k0 := h0
  have lt0 : ∀ x ∈ p0, x.block < W.heap.size := by obtain ⟨m, hm⟩ := k0; exact DataW.trod_lt m _ _ _ hm
  obtain ⟨x00, x01, x02, y00, y01, y02, m0, rfl, rfl, rfl, hy00, hy01, hy02⟩ := Go.Joins.open_agg3 Try.underlying24 (by kernel_rfl) (by kernel_rfl) (hval 0 24 v0 rfl rfl) h0
  obtain ⟨mr0, e00, f00, wr0⟩ := DataW.trod_int Try.underlying3 hy00
  obtain ⟨mc0, e01, f01, wc0⟩ := DataW.trod_int Try.underlying3 hy01
  obtain ⟨a0, len0, cap0, z0, e02, w0⟩ : ∃ a len cap zs, x02 = .slice a len cap ∧ IsRow .u8 W a len cap zs := by
    rcases open_ints Try.underlying22 Try.underlying5 (by kernel_rfl) hy02 with ⟨hcs, _⟩ | ⟨x, l, c, zs, hcs, _, hl, hm, hz, _, hcell, hwz⟩
    · simp at hcs
      exact ⟨none, 0, 0, [], hcs, .inl ⟨rfl, rfl, rfl, rfl⟩⟩
    · simp at hcs
      exact ⟨_, _, _, zs, hcs, .inr ⟨_, rfl, hl, hm, by simpa using hz, hcell, hwz⟩⟩
  simp at e00 e01
  subst e00 e01 e02
  clear hA0 hval0
  refine (walk mr0 mc0 a0 len0 cap0 z0 W wr0 wc0 w0).mono fun e W' ⟨he, bel⟩ => ?_
  subst he
  exact ⟨_, rfl, _, _, _, [], _, [], hW', trodAll_mk1 (shut_bool Try.underlying4 _), (trodAll_cons_mk (Below.trod laidOut (by kernel_rfl) (of_decide_eq_true (by kernel_rfl)) k0 bel lt0) trodAll_mk0), rfl, bel.frame _, fun h => by cases h⟩

theorem over : Rows.matrixOnesRow.holds Try.pinned (OpenSpec.ofChange Rows.matrixOnesSpec) :=
  OpenClaim.holds_of_wide 3 Try.f3 rfl rfl rfl rfl rfl rfl rfl ⟨rfl, rfl, rfl, rfl, rfl⟩ rfl rfl rfl rfl rfl (by kernel_rfl) Try.func3 (by kernel_rfl)
    (of_decide_eq_true (by kernel_rfl)) (by unfold Func.isWrapper; first | (rw [if_pos (by decide +kernel)]; kernel_rfl) | (rw [if_neg (by decide +kernel)]; exact ⟨rfl, rfl⟩))
    (fun os started H enc _ => lifted os started H enc)

/-- ████ THE STATEMENT ████ -/
theorem proved : Rows.MatrixOnesSaid := over
end Go.Proofs.Ytljbecalobnkbab.matrixOnes
namespace Go.Proofs.Ytljbecalobnkbab
theorem matrixOnes_holds : Rows.MatrixOnesSaid := matrixOnes.proved
#print axioms matrixOnes_holds
end Go.Proofs.Ytljbecalobnkbab
