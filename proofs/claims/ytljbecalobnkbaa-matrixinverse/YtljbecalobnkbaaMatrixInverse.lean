/- PROVED: for every matrix a (whatever its rows and columns say) the call MatrixInverse(a) returns true, and its argument reads behind it as before; no conditions. -/
import Derived.Test.YtljbecalobnkbaaRows
import Derived.Test.YtljbecalobnkbaaMxAwake
import Derived.Test.YtljbecalobnkbaaMxSmall
import Derived.Test.YtljbecalobnkbaaMxLaws
import Derived.WalkKit
import Derived.ProofKit
import Derived.OpenShut
import Derived.ShutString
import Derived.ChangeOld
import Derived.Below
import Derived.Lib.SmallJoins
namespace Go.Proofs.Ytljbecalobnkbaa.matrixInverse
open Go.ChangeShapes Go.WideShapes Go.ChangeAt Go.RowKit
open Go.ChangeMaps (open_string shut_string)
set_option linter.unusedVariables false

theorem own : ownKnob Try.prog.godebug = none := by kernel_rfl
theorem laidOut : laidOutB Try.prog = true := by kernel_rfl

/-- WHAT THE WALK IS TOLD OF A SLICE OF INTEGERS THAT CAME IN: it is nil; or it leads to a row of 'cap' cells, the numbers 'zs' (the first 'len' are its elements, the rest its spare room), each fitting its kind. -/
def IsRow (k : IntKind) (w : World) (a : Option Addr) (len cap : Nat) (zs : List Int) : Prop :=
  (a = none ∧ len = 0 ∧ cap = 0 ∧ zs = []) ∨
  ∃ x, a = some x ∧ len ≤ cap ∧ cap ≤ maxLen ∧ zs.length = cap ∧ (∀ i, i < zs.length → w.cell? (x.add i) = some (.int k (zs.getD i 0))) ∧ ∀ n ∈ zs, (Lit.int k n).wf = true

open Gf
set_option linter.unusedSimpArgs false
set_option maxRecDepth 100000 in
set_option maxHeartbeats 2000000 in
theorem walk (mr0 mc0 : Int) (a0 : Option Addr) (len0 cap0 : Nat) (z0 : List Int) (w : World) (wr0 : (Lit.int .i64 mr0).wf = true) (wc0 : (Lit.int .i64 mc0).wf = true) (w0 : IsRow .u8 w a0 len0 cap0 z0) :
    Calls Try.prog 5 #[.agg #[.int .i64 mr0, .int .i64 mc0, .slice a0 len0 cap0]] w fun e w' => e = .returned (.bool true) ∧ Below w.heap.size w w' := by
  obtain ⟨La, rfl, Ra⟩ := rd_row w0
  by_cases hs : SmallM mr0 mc0 La
  · by_cases hok : OkM mr0 mc0 La
    · by_cases hrc : mr0 = mc0
      · obtain ⟨n, n2, e1, e2, hn, hn2, hAl⟩ := hok.nat
        subst e1
        subst e2
        have hnn : n = n2 := by omega
        subst hnn
        clear hrc
        have HAl : Hid _ := hAl
        clear hAl
        go_enter Try.func5, Try.ntmps5
        have B : Below w.heap.size w w := Below.refl _ _
        go_wp2_with fail
        refine (awake3_any _).mono ?_
        rintro e u1 ⟨rfl, b⟩
        have D : Below w.heap.size w u1 := Below.next (by repeat (first | exact Below.refl _ _ | apply Below.draws | apply below_lit)) b
        have sD := D.size
        replace Ra := Ra.below D
        have Xa : Box u1 (w.heap.size) _ _ _ := Below.box b (by simp <;> omega) (by first | exact Box.new _ _ _ _ _ | exact (Box.new _ _ _ _ _).alloc (by simp) _ | exact ((Box.new _ _ _ _ _).alloc (by simp) _).alloc (by simp <;> omega) _ | exact Box.new1 _ _ _ _ _ _ | exact (Box.new1 _ _ _ _ _ _).alloc (by simp <;> omega) _ | exact Box.new2 _ _ _ _ _ _ _)
        have la : w.heap.size < u1.heap.size := by have := b.size; simp at this; omega
        replace B := Below.next B D
        clear b D sD
        have xa0 := Xa.c0
        have xa1 := Xa.c1
        have xa2 := Xa.c2
        go_wp2_with fail
        refine (new_any _).mono ?_
        rintro e u2 ⟨rfl, F, hO⟩
        have b := hO.below
        clear hO
        clear xa0 xa1 xa2
        have D : Below (World.heap u1 |>.size) u1 u2 := Below.next (by repeat (first | exact Below.refl _ _ | apply Below.draws | apply below_lit)) b
        have sD := D.size
        replace Ra := Ra.below D
        replace Xa := Xa.below la D
        replace la := Nat.lt_of_lt_of_le la sD
        replace B := Below.next B D
        clear b D sD
        have xa0 := Xa.c0
        have xa1 := Xa.c1
        have xa2 := Xa.c2
        go_wp2_with fail
        refine (small_yes ⟨_, rfl, (Ra.below (by repeat (first | exact Below.refl _ _ | apply Below.draws | apply below_lit)))⟩ hs).mono ?_
        rintro e u3 ⟨rfl, b⟩
        clear xa0 xa1 xa2
        have D : Below (World.heap u2 |>.size) u2 u3 := Below.next (by repeat (first | exact Below.refl _ _ | apply Below.draws | apply below_lit)) b
        have sD := D.size
        replace Ra := Ra.below D
        replace F := F.below D
        replace Xa := Xa.below la D
        replace la := Nat.lt_of_lt_of_le la sD
        replace B := Below.next B D
        clear b D sD
        have xa0 := Xa.c0
        have xa1 := Xa.c1
        have xa2 := Xa.c2
        go_wp2_with fail
        refine (mcheck_ok ⟨_, rfl, (Ra.below (by repeat (first | exact Below.refl _ _ | apply Below.draws | apply below_lit)))⟩ hok).mono ?_
        rintro e u4 ⟨rfl, b⟩
        clear xa0 xa1 xa2
        have D : Below (World.heap u3 |>.size) u3 u4 := Below.next (by repeat (first | exact Below.refl _ _ | apply Below.draws | apply below_lit)) b
        have sD := D.size
        replace Ra := Ra.below D
        replace F := F.below D
        replace Xa := Xa.below la D
        replace la := Nat.lt_of_lt_of_le la sD
        replace B := Below.next B D
        clear b D sD
        have xa0 := Xa.c0
        have xa1 := Xa.c1
        have xa2 := Xa.c2
        go_wp2_with fail
        refine (minv_ok (F.below (by repeat (first | exact Below.refl _ _ | apply Below.draws | apply below_lit))) ⟨_, rfl, (Ra.below (by repeat (first | exact Below.refl _ _ | apply Below.draws | apply below_lit)))⟩ hok).mono ?_
        rintro e u5 (⟨V, hV, vv, rfl, Rv, b⟩ | ⟨_, vv, rfl, Rv, b⟩)
        · clear xa0 xa1 xa2
          have D : Below (World.heap u4 |>.size) u4 u5 := Below.next (by repeat (first | exact Below.refl _ _ | apply Below.draws | apply below_lit)) b
          have sD := D.size
          replace Ra := Ra.below D
          replace F := F.below D
          replace Xa := Xa.below la D
          replace la := Nat.lt_of_lt_of_le la sD
          replace B := Below.next B D
          clear b D sD
          have xa0 := Xa.c0
          have xa1 := Xa.c1
          have xa2 := Xa.c2
          obtain ⟨av, cv, rfl⟩ := Rv.form
          go_wp2_with fail
          refine (mident_any n _ (by omega) rfl).mono ?_
          rintro e u6 ⟨vi, rfl, Ri, b⟩
          clear xa0 xa1 xa2
          have D : Below (World.heap u5 |>.size) u5 u6 := Below.next (by repeat (first | exact Below.refl _ _ | apply Below.draws | apply below_lit)) b
          have sD := D.size
          replace Ra := Ra.below D
          replace F := F.below D
          replace Rv := Rv.below D
          replace Xa := Xa.below la D
          replace la := Nat.lt_of_lt_of_le la sD
          have Xv : Box u6 (World.heap u5 |>.size) _ _ _ := Below.box b (by simp <;> omega) (by first | exact Box.new _ _ _ _ _ | exact (Box.new _ _ _ _ _).alloc (by simp) _ | exact ((Box.new _ _ _ _ _).alloc (by simp) _).alloc (by simp <;> omega) _)
          have lv : (World.heap u5 |>.size) < (World.heap u6 |>.size) := by have := b.size; simp at this; omega
          replace B := Below.next B D
          clear b D sD
          have xa0 := Xa.c0
          have xa1 := Xa.c1
          have xa2 := Xa.c2
          have xv0 := Xv.c0
          have xv1 := Xv.c1
          have xv2 := Xv.c2
          obtain ⟨ai, ci, rfl⟩ := Ri.form
          go_wp2_with fail
          refine (mmul_ok (F.below (by repeat (first | exact Below.refl _ _ | apply Below.draws | apply below_lit))) ⟨_, rfl, (Ra.below (by repeat (first | exact Below.refl _ _ | apply Below.draws | apply below_lit)))⟩ ⟨_, rfl, (Rv.below (by repeat (first | exact Below.refl _ _ | apply Below.draws | apply below_lit)))⟩ hok (okM_flat V (by omega) (by omega))).mono ?_
          rintro e u7 ⟨vx, rfl, Rx, b⟩
          clear xa0 xa1 xa2 xv0 xv1 xv2
          have D : Below (World.heap u6 |>.size) u6 u7 := Below.next (by repeat (first | exact Below.refl _ _ | apply Below.draws | apply below_lit)) b
          have sD := D.size
          replace Ra := Ra.below D
          replace F := F.below D
          replace Rv := Rv.below D
          replace Ri := Ri.below D
          replace Xa := Xa.below la D
          replace la := Nat.lt_of_lt_of_le la sD
          replace Xv := Xv.below lv D
          replace lv := Nat.lt_of_lt_of_le lv sD
          have Xi : Box u7 (World.heap u6 |>.size) _ _ _ := Below.box b (by simp <;> omega) (by first | exact Box.new _ _ _ _ _ | exact (Box.new _ _ _ _ _).alloc (by simp) _ | exact ((Box.new _ _ _ _ _).alloc (by simp) _).alloc (by simp <;> omega) _)
          have li : (World.heap u6 |>.size) < (World.heap u7 |>.size) := by have := b.size; simp at this; omega
          replace B := Below.next B D
          clear b D sD
          have xa0 := Xa.c0
          have xa1 := Xa.c1
          have xa2 := Xa.c2
          have xv0 := Xv.c0
          have xv1 := Xv.c1
          have xv2 := Xv.c2
          have xi0 := Xi.c0
          have xi1 := Xi.c1
          have xi2 := Xi.c2
          obtain ⟨ax, cx, rfl⟩ := Rx.form
          go_wp2_with fail
          refine (mmul_ok (F.below (by repeat (first | exact Below.refl _ _ | apply Below.draws | apply below_lit))) ⟨_, rfl, (Rv.below (by repeat (first | exact Below.refl _ _ | apply Below.draws | apply below_lit)))⟩ ⟨_, rfl, (Ra.below (by repeat (first | exact Below.refl _ _ | apply Below.draws | apply below_lit)))⟩ (okM_flat V (by omega) (by omega)) hok).mono ?_
          rintro e u8 ⟨vy, rfl, Ry, b⟩
          clear xa0 xa1 xa2 xv0 xv1 xv2 xi0 xi1 xi2
          have D : Below (World.heap u7 |>.size) u7 u8 := Below.next (by repeat (first | exact Below.refl _ _ | apply Below.draws | apply below_lit)) b
          have sD := D.size
          replace Ra := Ra.below D
          replace F := F.below D
          replace Rv := Rv.below D
          replace Ri := Ri.below D
          replace Rx := Rx.below D
          replace Xa := Xa.below la D
          replace la := Nat.lt_of_lt_of_le la sD
          replace Xv := Xv.below lv D
          replace lv := Nat.lt_of_lt_of_le lv sD
          replace Xi := Xi.below li D
          replace li := Nat.lt_of_lt_of_le li sD
          have Xx : Box u8 (World.heap u7 |>.size) _ _ _ := Below.box b (by simp <;> omega) (by first | exact Box.new _ _ _ _ _ | exact (Box.new _ _ _ _ _).alloc (by simp) _ | exact ((Box.new _ _ _ _ _).alloc (by simp) _).alloc (by simp <;> omega) _)
          have lx : (World.heap u7 |>.size) < (World.heap u8 |>.size) := by have := b.size; simp at this; omega
          replace B := Below.next B D
          clear b D sD
          have xa0 := Xa.c0
          have xa1 := Xa.c1
          have xa2 := Xa.c2
          have xv0 := Xv.c0
          have xv1 := Xv.c1
          have xv2 := Xv.c2
          have xi0 := Xi.c0
          have xi1 := Xi.c1
          have xi2 := Xi.c2
          have xx0 := Xx.c0
          have xx1 := Xx.c1
          have xx2 := Xx.c2
          obtain ⟨ay, cy, rfl⟩ := Ry.form
          go_wp2_with fail
          refine (minv_ok (F.below (by repeat (first | exact Below.refl _ _ | apply Below.draws | apply below_lit))) ⟨_, rfl, (Rv.below (by repeat (first | exact Below.refl _ _ | apply Below.draws | apply below_lit)))⟩ (okM_flat V (by omega) (by omega))).mono ?_
          rintro e u9 (⟨W, hW, vw, rfl, Rw, b⟩ | ⟨hs2, _⟩)
          rotate_left
          · exact (inv_no hV hs2).elim
          clear xa0 xa1 xa2 xv0 xv1 xv2 xi0 xi1 xi2 xx0 xx1 xx2
          have D : Below (World.heap u8 |>.size) u8 u9 := Below.next (by repeat (first | exact Below.refl _ _ | apply Below.draws | apply below_lit)) b
          have sD := D.size
          replace Ra := Ra.below D
          replace F := F.below D
          replace Rv := Rv.below D
          replace Ri := Ri.below D
          replace Rx := Rx.below D
          replace Ry := Ry.below D
          replace Xa := Xa.below la D
          replace la := Nat.lt_of_lt_of_le la sD
          replace Xv := Xv.below lv D
          replace lv := Nat.lt_of_lt_of_le lv sD
          replace Xi := Xi.below li D
          replace li := Nat.lt_of_lt_of_le li sD
          replace Xx := Xx.below lx D
          replace lx := Nat.lt_of_lt_of_le lx sD
          have Xy : Box u9 (World.heap u8 |>.size) _ _ _ := Below.box b (by simp <;> omega) (by first | exact Box.new _ _ _ _ _ | exact (Box.new _ _ _ _ _).alloc (by simp) _ | exact ((Box.new _ _ _ _ _).alloc (by simp) _).alloc (by simp <;> omega) _)
          have ly : (World.heap u8 |>.size) < (World.heap u9 |>.size) := by have := b.size; simp at this; omega
          replace B := Below.next B D
          clear b D sD
          have xa0 := Xa.c0
          have xa1 := Xa.c1
          have xa2 := Xa.c2
          have xv0 := Xv.c0
          have xv1 := Xv.c1
          have xv2 := Xv.c2
          have xi0 := Xi.c0
          have xi1 := Xi.c1
          have xi2 := Xi.c2
          have xx0 := Xx.c0
          have xx1 := Xx.c1
          have xx2 := Xx.c2
          have xy0 := Xy.c0
          have xy1 := Xy.c1
          have xy2 := Xy.c2
          obtain ⟨aw, cw, rfl⟩ := Rw.form
          go_wp2_with fail
          refine (same3 ⟨_, rfl, (Rx.below (by repeat (first | exact Below.refl _ _ | apply Below.draws | apply below_lit))).as (inv_x hV)⟩ ⟨_, rfl, (Ri.below (by repeat (first | exact Below.refl _ _ | apply Below.draws | apply below_lit)))⟩).mono ?_
          rintro e u10 ⟨rfl, b⟩
          clear xa0 xa1 xa2 xv0 xv1 xv2 xi0 xi1 xi2 xx0 xx1 xx2 xy0 xy1 xy2
          have D : Below (World.heap u9 |>.size) u9 u10 := Below.next (by repeat (first | exact Below.refl _ _ | apply Below.draws | apply below_lit)) b
          have sD := D.size
          replace Ra := Ra.below D
          replace F := F.below D
          replace Rv := Rv.below D
          replace Ri := Ri.below D
          replace Rx := Rx.below D
          replace Ry := Ry.below D
          replace Rw := Rw.below D
          replace Xa := Xa.below la D
          replace la := Nat.lt_of_lt_of_le la sD
          replace Xv := Xv.below lv D
          replace lv := Nat.lt_of_lt_of_le lv sD
          replace Xi := Xi.below li D
          replace li := Nat.lt_of_lt_of_le li sD
          replace Xx := Xx.below lx D
          replace lx := Nat.lt_of_lt_of_le lx sD
          replace Xy := Xy.below ly D
          replace ly := Nat.lt_of_lt_of_le ly sD
          have Xw : Box u10 (World.heap u9 |>.size) _ _ _ := Below.box b (by simp <;> omega) (by first | exact Box.new _ _ _ _ _ | exact (Box.new _ _ _ _ _).alloc (by simp) _ | exact ((Box.new _ _ _ _ _).alloc (by simp) _).alloc (by simp <;> omega) _)
          have lw : (World.heap u9 |>.size) < (World.heap u10 |>.size) := by have := b.size; simp at this; omega
          replace B := Below.next B D
          clear b D sD
          have xa0 := Xa.c0
          have xa1 := Xa.c1
          have xa2 := Xa.c2
          have xv0 := Xv.c0
          have xv1 := Xv.c1
          have xv2 := Xv.c2
          have xi0 := Xi.c0
          have xi1 := Xi.c1
          have xi2 := Xi.c2
          have xx0 := Xx.c0
          have xx1 := Xx.c1
          have xx2 := Xx.c2
          have xy0 := Xy.c0
          have xy1 := Xy.c1
          have xy2 := Xy.c2
          have xw0 := Xw.c0
          have xw1 := Xw.c1
          have xw2 := Xw.c2
          go_wp2_with fail
          refine (same3 ⟨_, rfl, (Ry.below (by repeat (first | exact Below.refl _ _ | apply Below.draws | apply below_lit))).as (inv_y hV)⟩ ⟨_, rfl, (Ri.below (by repeat (first | exact Below.refl _ _ | apply Below.draws | apply below_lit)))⟩).mono ?_
          rintro e u11 ⟨rfl, b⟩
          clear xa0 xa1 xa2 xv0 xv1 xv2 xi0 xi1 xi2 xx0 xx1 xx2 xy0 xy1 xy2 xw0 xw1 xw2
          have D : Below (World.heap u10 |>.size) u10 u11 := Below.next (by repeat (first | exact Below.refl _ _ | apply Below.draws | apply below_lit)) b
          have sD := D.size
          replace Ra := Ra.below D
          replace F := F.below D
          replace Rv := Rv.below D
          replace Ri := Ri.below D
          replace Rx := Rx.below D
          replace Ry := Ry.below D
          replace Rw := Rw.below D
          replace Xa := Xa.below la D
          replace la := Nat.lt_of_lt_of_le la sD
          replace Xv := Xv.below lv D
          replace lv := Nat.lt_of_lt_of_le lv sD
          replace Xi := Xi.below li D
          replace li := Nat.lt_of_lt_of_le li sD
          replace Xx := Xx.below lx D
          replace lx := Nat.lt_of_lt_of_le lx sD
          replace Xy := Xy.below ly D
          replace ly := Nat.lt_of_lt_of_le ly sD
          replace Xw := Xw.below lw D
          replace lw := Nat.lt_of_lt_of_le lw sD
          replace B := Below.next B D
          clear b D sD
          have xa0 := Xa.c0
          have xa1 := Xa.c1
          have xa2 := Xa.c2
          have xv0 := Xv.c0
          have xv1 := Xv.c1
          have xv2 := Xv.c2
          have xi0 := Xi.c0
          have xi1 := Xi.c1
          have xi2 := Xi.c2
          have xx0 := Xx.c0
          have xx1 := Xx.c1
          have xx2 := Xx.c2
          have xy0 := Xy.c0
          have xy1 := Xy.c1
          have xy2 := Xy.c2
          have xw0 := Xw.c0
          have xw1 := Xw.c1
          have xw2 := Xw.c2
          go_wp2_with fail
          refine (same3 ⟨_, rfl, (Rw.below (by repeat (first | exact Below.refl _ _ | apply Below.draws | apply below_lit))).as (inv_back HAl.out hV hW)⟩ ⟨_, rfl, (Ra.below (by repeat (first | exact Below.refl _ _ | apply Below.draws | apply below_lit)))⟩).mono ?_
          rintro e u12 ⟨rfl, b⟩
          clear xa0 xa1 xa2 xv0 xv1 xv2 xi0 xi1 xi2 xx0 xx1 xx2 xy0 xy1 xy2 xw0 xw1 xw2
          have D : Below (World.heap u11 |>.size) u11 u12 := Below.next (by repeat (first | exact Below.refl _ _ | apply Below.draws | apply below_lit)) b
          have sD := D.size
          replace Ra := Ra.below D
          replace F := F.below D
          replace Rv := Rv.below D
          replace Ri := Ri.below D
          replace Rx := Rx.below D
          replace Ry := Ry.below D
          replace Rw := Rw.below D
          replace Xa := Xa.below la D
          replace la := Nat.lt_of_lt_of_le la sD
          replace Xv := Xv.below lv D
          replace lv := Nat.lt_of_lt_of_le lv sD
          replace Xi := Xi.below li D
          replace li := Nat.lt_of_lt_of_le li sD
          replace Xx := Xx.below lx D
          replace lx := Nat.lt_of_lt_of_le lx sD
          replace Xy := Xy.below ly D
          replace ly := Nat.lt_of_lt_of_le ly sD
          replace Xw := Xw.below lw D
          replace lw := Nat.lt_of_lt_of_le lw sD
          replace B := Below.next B D
          clear b D sD
          have xa0 := Xa.c0
          have xa1 := Xa.c1
          have xa2 := Xa.c2
          have xv0 := Xv.c0
          have xv1 := Xv.c1
          have xv2 := Xv.c2
          have xi0 := Xi.c0
          have xi1 := Xi.c1
          have xi2 := Xi.c2
          have xx0 := Xx.c0
          have xx1 := Xx.c1
          have xx2 := Xx.c2
          have xy0 := Xy.c0
          have xy1 := Xy.c1
          have xy2 := Xy.c2
          have xw0 := Xw.c0
          have xw1 := Xw.c1
          have xw2 := Xw.c2
          go_wp2
          go_ret
          exact ⟨rfl, Below.next B (by repeat (first | exact Below.refl _ _ | apply Below.draws | apply below_lit))⟩
        · clear xa0 xa1 xa2
          have D : Below (World.heap u4 |>.size) u4 u5 := Below.next (by repeat (first | exact Below.refl _ _ | apply Below.draws | apply below_lit)) b
          have sD := D.size
          replace Ra := Ra.below D
          replace F := F.below D
          replace Xa := Xa.below la D
          replace la := Nat.lt_of_lt_of_le la sD
          replace B := Below.next B D
          clear b D sD
          have xa0 := Xa.c0
          have xa1 := Xa.c1
          have xa2 := Xa.c2
          obtain ⟨av, cv, rfl⟩ := Rv.form
          clear Rv
          go_wp2
          go_ret
          exact ⟨rfl, Below.next B (by repeat (first | exact Below.refl _ _ | apply Below.draws | apply below_lit))⟩
      · have hne : (mr0 != mc0) = true := by simpa using hrc
        go_enter Try.func5, Try.ntmps5
        have B : Below w.heap.size w w := Below.refl _ _
        go_wp2_with fail
        refine (awake3_any _).mono ?_
        rintro e u1 ⟨rfl, b⟩
        have D : Below w.heap.size w u1 := Below.next (by repeat (first | exact Below.refl _ _ | apply Below.draws | apply below_lit)) b
        have sD := D.size
        replace Ra := Ra.below D
        have Xa : Box u1 (w.heap.size) _ _ _ := Below.box b (by simp <;> omega) (by first | exact Box.new _ _ _ _ _ | exact (Box.new _ _ _ _ _).alloc (by simp) _ | exact ((Box.new _ _ _ _ _).alloc (by simp) _).alloc (by simp <;> omega) _ | exact Box.new1 _ _ _ _ _ _ | exact (Box.new1 _ _ _ _ _ _).alloc (by simp <;> omega) _ | exact Box.new2 _ _ _ _ _ _ _)
        have la : w.heap.size < u1.heap.size := by have := b.size; simp at this; omega
        replace B := Below.next B D
        clear b D sD
        have xa0 := Xa.c0
        have xa1 := Xa.c1
        have xa2 := Xa.c2
        go_wp2_with fail
        refine (new_any _).mono ?_
        rintro e u2 ⟨rfl, F, hO⟩
        have b := hO.below
        clear hO
        clear xa0 xa1 xa2
        have D : Below (World.heap u1 |>.size) u1 u2 := Below.next (by repeat (first | exact Below.refl _ _ | apply Below.draws | apply below_lit)) b
        have sD := D.size
        replace Ra := Ra.below D
        replace Xa := Xa.below la D
        replace la := Nat.lt_of_lt_of_le la sD
        replace B := Below.next B D
        clear b D sD
        have xa0 := Xa.c0
        have xa1 := Xa.c1
        have xa2 := Xa.c2
        go_wp2_with fail
        refine (small_yes ⟨_, rfl, (Ra.below (by repeat (first | exact Below.refl _ _ | apply Below.draws | apply below_lit)))⟩ hs).mono ?_
        rintro e u3 ⟨rfl, b⟩
        clear xa0 xa1 xa2
        have D : Below (World.heap u2 |>.size) u2 u3 := Below.next (by repeat (first | exact Below.refl _ _ | apply Below.draws | apply below_lit)) b
        have sD := D.size
        replace Ra := Ra.below D
        replace F := F.below D
        replace Xa := Xa.below la D
        replace la := Nat.lt_of_lt_of_le la sD
        replace B := Below.next B D
        clear b D sD
        have xa0 := Xa.c0
        have xa1 := Xa.c1
        have xa2 := Xa.c2
        go_wp2_with fail
        refine (mcheck_ok ⟨_, rfl, (Ra.below (by repeat (first | exact Below.refl _ _ | apply Below.draws | apply below_lit)))⟩ hok).mono ?_
        rintro e u4 ⟨rfl, b⟩
        clear xa0 xa1 xa2
        have D : Below (World.heap u3 |>.size) u3 u4 := Below.next (by repeat (first | exact Below.refl _ _ | apply Below.draws | apply below_lit)) b
        have sD := D.size
        replace Ra := Ra.below D
        replace F := F.below D
        replace Xa := Xa.below la D
        replace la := Nat.lt_of_lt_of_le la sD
        replace B := Below.next B D
        clear b D sD
        have xa0 := Xa.c0
        have xa1 := Xa.c1
        have xa2 := Xa.c2
        go_wp2
        go_ret
        exact ⟨rfl, Below.next B (by repeat (first | exact Below.refl _ _ | apply Below.draws | apply below_lit))⟩
    · go_enter Try.func5, Try.ntmps5
      have B : Below w.heap.size w w := Below.refl _ _
      go_wp2_with fail
      refine (awake3_any _).mono ?_
      rintro e u1 ⟨rfl, b⟩
      have D : Below w.heap.size w u1 := Below.next (by repeat (first | exact Below.refl _ _ | apply Below.draws | apply below_lit)) b
      have sD := D.size
      replace Ra := Ra.below D
      have Xa : Box u1 (w.heap.size) _ _ _ := Below.box b (by simp <;> omega) (by first | exact Box.new _ _ _ _ _ | exact (Box.new _ _ _ _ _).alloc (by simp) _ | exact ((Box.new _ _ _ _ _).alloc (by simp) _).alloc (by simp <;> omega) _ | exact Box.new1 _ _ _ _ _ _ | exact (Box.new1 _ _ _ _ _ _).alloc (by simp <;> omega) _ | exact Box.new2 _ _ _ _ _ _ _)
      have la : w.heap.size < u1.heap.size := by have := b.size; simp at this; omega
      replace B := Below.next B D
      clear b D sD
      have xa0 := Xa.c0
      have xa1 := Xa.c1
      have xa2 := Xa.c2
      go_wp2_with fail
      refine (new_any _).mono ?_
      rintro e u2 ⟨rfl, F, hO⟩
      have b := hO.below
      clear hO
      clear xa0 xa1 xa2
      have D : Below (World.heap u1 |>.size) u1 u2 := Below.next (by repeat (first | exact Below.refl _ _ | apply Below.draws | apply below_lit)) b
      have sD := D.size
      replace Ra := Ra.below D
      replace Xa := Xa.below la D
      replace la := Nat.lt_of_lt_of_le la sD
      replace B := Below.next B D
      clear b D sD
      have xa0 := Xa.c0
      have xa1 := Xa.c1
      have xa2 := Xa.c2
      go_wp2_with fail
      refine (small_yes ⟨_, rfl, (Ra.below (by repeat (first | exact Below.refl _ _ | apply Below.draws | apply below_lit)))⟩ hs).mono ?_
      rintro e u3 ⟨rfl, b⟩
      clear xa0 xa1 xa2
      have D : Below (World.heap u2 |>.size) u2 u3 := Below.next (by repeat (first | exact Below.refl _ _ | apply Below.draws | apply below_lit)) b
      have sD := D.size
      replace Ra := Ra.below D
      replace F := F.below D
      replace Xa := Xa.below la D
      replace la := Nat.lt_of_lt_of_le la sD
      replace B := Below.next B D
      clear b D sD
      have xa0 := Xa.c0
      have xa1 := Xa.c1
      have xa2 := Xa.c2
      go_wp2_with fail
      refine (mcheck_bad ⟨_, rfl, (Ra.below (by repeat (first | exact Below.refl _ _ | apply Below.draws | apply below_lit)))⟩ hok).mono ?_
      rintro e u4 ⟨rfl, b⟩
      clear xa0 xa1 xa2
      have D : Below (World.heap u3 |>.size) u3 u4 := Below.next (by repeat (first | exact Below.refl _ _ | apply Below.draws | apply below_lit)) b
      have sD := D.size
      replace Ra := Ra.below D
      replace F := F.below D
      replace Xa := Xa.below la D
      replace la := Nat.lt_of_lt_of_le la sD
      replace B := Below.next B D
      clear b D sD
      have xa0 := Xa.c0
      have xa1 := Xa.c1
      have xa2 := Xa.c2
      go_wp2
      go_ret
      exact ⟨rfl, Below.next B (by repeat (first | exact Below.refl _ _ | apply Below.draws | apply below_lit))⟩
  · go_enter Try.func5, Try.ntmps5
    have B : Below w.heap.size w w := Below.refl _ _
    go_wp2_with fail
    refine (awake3_any _).mono ?_
    rintro e u1 ⟨rfl, b⟩
    have D : Below w.heap.size w u1 := Below.next (by repeat (first | exact Below.refl _ _ | apply Below.draws | apply below_lit)) b
    have sD := D.size
    replace Ra := Ra.below D
    have Xa : Box u1 (w.heap.size) _ _ _ := Below.box b (by simp <;> omega) (by first | exact Box.new _ _ _ _ _ | exact (Box.new _ _ _ _ _).alloc (by simp) _ | exact ((Box.new _ _ _ _ _).alloc (by simp) _).alloc (by simp <;> omega) _ | exact Box.new1 _ _ _ _ _ _ | exact (Box.new1 _ _ _ _ _ _).alloc (by simp <;> omega) _ | exact Box.new2 _ _ _ _ _ _ _)
    have la : w.heap.size < u1.heap.size := by have := b.size; simp at this; omega
    replace B := Below.next B D
    clear b D sD
    have xa0 := Xa.c0
    have xa1 := Xa.c1
    have xa2 := Xa.c2
    go_wp2_with fail
    refine (new_any _).mono ?_
    rintro e u2 ⟨rfl, F, hO⟩
    have b := hO.below
    clear hO
    clear xa0 xa1 xa2
    have D : Below (World.heap u1 |>.size) u1 u2 := Below.next (by repeat (first | exact Below.refl _ _ | apply Below.draws | apply below_lit)) b
    have sD := D.size
    replace Ra := Ra.below D
    replace Xa := Xa.below la D
    replace la := Nat.lt_of_lt_of_le la sD
    replace B := Below.next B D
    clear b D sD
    have xa0 := Xa.c0
    have xa1 := Xa.c1
    have xa2 := Xa.c2
    go_wp2_with fail
    refine (small_no ⟨_, rfl, (Ra.below (by repeat (first | exact Below.refl _ _ | apply Below.draws | apply below_lit)))⟩ hs).mono ?_
    rintro e u3 ⟨rfl, b⟩
    clear xa0 xa1 xa2
    have D : Below (World.heap u2 |>.size) u2 u3 := Below.next (by repeat (first | exact Below.refl _ _ | apply Below.draws | apply below_lit)) b
    have sD := D.size
    replace Ra := Ra.below D
    replace F := F.below D
    replace Xa := Xa.below la D
    replace la := Nat.lt_of_lt_of_le la sD
    replace B := Below.next B D
    clear b D sD
    have xa0 := Xa.c0
    have xa1 := Xa.c1
    have xa2 := Xa.c2
    go_wp2
    go_ret
    exact ⟨rfl, Below.next B (by repeat (first | exact Below.refl _ _ | apply Below.draws | apply below_lit))⟩

/-! ### THE ROW's STEP: WRITTEN OUT: LEAVE IT -/
set_option maxRecDepth 100000 in
set_option maxHeartbeats 2000000 in
theorem lifted (os : Os) (started : os.Started) (H : Type) (enc : TypeId × Value → H) :
    ReturnsInHanded {} Try.checked os 5 .any (Rows.matrixInverseSpec.pre6 enc Try.prog Try.f5 Rows.matrixInverseRow.domain false) (Rows.matrixInverseSpec.post enc Try.prog Try.f5 false true false false) := by
  refine returnsInHanded_of_change (C := Try.checked) own started (by kernel_rfl) Try.func5
    (ChangeSpec.witness6 (enc := enc) (C := Try.checked) false ⟨#[], #[.agg #[.int .i64 0, .int .i64 0, .slice none 0 0]], []⟩ 8 (by kernel_rfl) (by kernel_rfl) (by kernel_rfl) (by kernel_rfl)) ?_
  intro W base args ds gs before hval0 hW hcnd _
  have hval : ∀ (j : Nat) t v, Try.f5.params[j]? = some t → args[j]? = some v → Value.okWide Try.prog W .any base t v := hval0
  have hW' := hW
  obtain ⟨p, q, hA0, hV, rfl, hfz, hnd⟩ := hW
  have hA : DataW.TrodAll enc Try.prog W 0 (fun _ => true) true Try.f5.params.toList args.toList ds p := hA0
  rw [Try.params5] at hA hval
  obtain ⟨v0, vs0, d0, ds0, p0, q0, hargs, rfl, rfl, h0, r0⟩ := trodAll_cons hA
  obtain ⟨rfl, rfl, rfl⟩ := trodAll_nil r0
  obtain rfl : args = #[v0] := by cases args; simp_all
  obtain ⟨rfl, rfl⟩ := trodVars_none hV
  have k0 := h0
  have lt0 : ∀ x ∈ p0, x.block < W.heap.size := by obtain ⟨m, hm⟩ := k0; exact DataW.trod_lt m _ _ _ hm
  obtain ⟨x00, x01, x02, y00, y01, y02, m0, rfl, rfl, rfl, hy00, hy01, hy02⟩ := Go.Joins.open_agg3 Try.underlying25 (by kernel_rfl) (by kernel_rfl) (hval 0 25 v0 rfl rfl) h0
  obtain ⟨mr0, e00, f00, wr0⟩ := DataW.trod_int Try.underlying3 hy00
  obtain ⟨mc0, e01, f01, wc0⟩ := DataW.trod_int Try.underlying3 hy01
  obtain ⟨a0, len0, cap0, z0, e02, w0⟩ : ∃ a len cap zs, x02 = .slice a len cap ∧ IsRow .u8 W a len cap zs := by
    rcases open_ints Try.underlying23 Try.underlying5 (by kernel_rfl) hy02 with ⟨hcs, _⟩ | ⟨x, l, c, zs, hcs, _, hl, hm, hz, _, hcell, hwz⟩
    · simp at hcs
      exact ⟨none, 0, 0, [], hcs, .inl ⟨rfl, rfl, rfl, rfl⟩⟩
    · simp at hcs
      exact ⟨_, _, _, zs, hcs, .inr ⟨_, rfl, hl, hm, by simpa using hz, hcell, hwz⟩⟩
  simp at e00 e01
  subst e00 e01 e02
  clear hA0 hval0
  refine (walk mr0 mc0 a0 len0 cap0 z0 W wr0 wc0 w0).mono fun e W' ⟨he, bel⟩ => ?_
  subst he
  exact ⟨_, rfl, _, _, _, [], _, [], hW', trodAll_mk1 (shut_bool Try.underlying4 _), (trodAll_cons_mk (Below.trod laidOut (by kernel_rfl) (of_decide_eq_true (by kernel_rfl)) k0 bel lt0) trodAll_mk0), rfl, bel.frame _, fun h => by cases h⟩

theorem over : Rows.matrixInverseRow.holds Try.pinned (OpenSpec.ofChange Rows.matrixInverseSpec) :=
  OpenClaim.holds_of_wide 5 Try.f5 rfl rfl rfl rfl rfl rfl rfl ⟨rfl, rfl, rfl, rfl, rfl⟩ rfl rfl rfl rfl rfl (by kernel_rfl) Try.func5 (by kernel_rfl)
    (of_decide_eq_true (by kernel_rfl)) (by unfold Func.isWrapper; first | (rw [if_pos (by decide +kernel)]; kernel_rfl) | (rw [if_neg (by decide +kernel)]; exact ⟨rfl, rfl⟩))
    (fun os started H enc _ => lifted os started H enc)

/-- ████ THE STATEMENT ████ -/
theorem proved : Rows.MatrixInverseSaid := over
end Go.Proofs.Ytljbecalobnkbaa.matrixInverse
namespace Go.Proofs.Ytljbecalobnkbaa
theorem matrixInverse_holds : Rows.MatrixInverseSaid := matrixInverse.proved
#print axioms matrixInverse_holds
end Go.Proofs.Ytljbecalobnkbaa
