/- PROVED: for every matrix a (whatever its rows and columns say) and all numbers of rows the call MatrixRows(a, rows) returns true, and its arguments read behind it as before; no conditions. -/
import Derived.Test.YtljbecalobnkbaaRows
import Derived.Test.YtljbecalobnkbaaMxAwake
import Derived.Test.YtljbecalobnkbaaMxSmall
import Derived.Test.YtljbecalobnkbaaMxLaws
import Derived.Test.YtljbecalobnkbaaMxInv
import Derived.WalkKit
import Derived.ProofKit
import Derived.OpenShut
import Derived.ShutString
import Derived.ChangeOld
import Derived.Below
import Derived.Lib.SmallJoins
namespace Go.Proofs.Ytljbecalobnkbaa.matrixRows
open Go.ChangeShapes Go.WideShapes Go.ChangeAt Go.RowKit
open Go.ChangeMaps (open_string shut_string)
set_option linter.unusedVariables false

theorem own : ownKnob Try.prog.godebug = none := by kernel_rfl
theorem laidOut : laidOutB Try.prog = true := by kernel_rfl

/-- WHAT THE WALK IS TOLD OF A SLICE OF INTEGERS THAT CAME IN: it is nil; or it leads to a row of 'cap' cells, the numbers 'zs' (the first 'len' are its elements, the rest its spare room), each fitting its kind. -/
def IsRow (k : IntKind) (w : World) (a : Option Addr) (len cap : Nat) (zs : List Int) : Prop :=
  (a = none ∧ len = 0 ∧ cap = 0 ∧ zs = []) ∨
  ∃ x, a = some x ∧ len ≤ cap ∧ cap ≤ maxLen ∧ zs.length = cap ∧ (∀ i, i < zs.length → w.cell? (x.add i) = some (.int k (zs.getD i 0))) ∧ ∀ n ∈ zs, (Lit.int k n).wf = true

open Gf
set_option linter.unusedSimpArgs false
def Dup (zs : List Int) : Prop := ∃ k l, k < zs.length ∧ l < k ∧ zs.getD k 0 = zs.getD l 0

set_option maxRecDepth 100000 in
set_option maxHeartbeats 2000000 in
theorem walk (mr0 mc0 : Int) (a0 : Option Addr) (len0 cap0 : Nat) (z0 : List Int) (a1 : Option Addr) (len1 cap1 : Nat) (z1 : List Int) (w : World) (wr0 : (Lit.int .i64 mr0).wf = true) (wc0 : (Lit.int .i64 mc0).wf = true) (w0 : IsRow .u8 w a0 len0 cap0 z0) (w1 : IsRow .i64 w a1 len1 cap1 z1) :
    Calls Try.prog 7 #[.agg #[.int .i64 mr0, .int .i64 mc0, .slice a0 len0 cap0], .slice a1 len1 cap1] w fun e w' => e = .returned (.bool true) ∧ Below w.heap.size w w' := by
  obtain ⟨La, rfl, Ra⟩ := rd_row w0
  obtain ⟨zs, rfl, Rz⟩ := rdI_row w1
  obtain ⟨az, cz, ez⟩ : ∃ a c, (Value.slice a1 zs.length cap1) = .slice a zs.length c := ⟨_, _, rfl⟩
  clear ez az cz
  by_cases hs : SmallM mr0 mc0 La
  · by_cases hl : zs.length ≤ 8
    · have hl2 : ¬ (zs.length : Int) > 8 := by omega
      by_cases hok : OkM mr0 mc0 La
      · obtain ⟨r, c, e1, e2, hr, hc, hAl⟩ := hok.nat
        subst e1
        subst e2
        clear hAl
        go_enter Try.func7, Try.ntmps7
        have B : Below w.heap.size w w := Below.refl _ _
        go_wp2_with fail
        refine (awake3_any _).mono ?_
        rintro e u1 ⟨rfl, b⟩
        have D : Below w.heap.size w u1 := Below.next (by repeat (first | exact Below.refl _ _ | apply Below.draws | apply below_lit)) b
        have sD := D.size
        replace Ra := Ra.below D
        have Xa : Box u1 (w.heap.size) _ _ _ := Below.box b (by simp <;> omega) (by first | exact Box.new _ _ _ _ _ | exact (Box.new _ _ _ _ _).alloc (by simp) _ | exact ((Box.new _ _ _ _ _).alloc (by simp) _).alloc (by simp <;> omega) _ | exact Box.new1 _ _ _ _ _ _ | exact (Box.new1 _ _ _ _ _ _).alloc (by simp <;> omega) _ | exact Box.new2 _ _ _ _ _ _ _)
        have la : w.heap.size < u1.heap.size := by have := b.size; simp at this; omega
        replace Rz := Rz.below D
        replace B := Below.next B D
        clear b D sD
        have xa0 := Xa.c0
        have xa1 := Xa.c1
        have xa2 := Xa.c2
        go_wp2_with fail
        refine (new_any _).mono ?_
        rintro e u2 ⟨rfl, F, hO⟩
        have b := hO.below
        clear hO
        clear xa0 xa1 xa2
        have D : Below (World.heap u1 |>.size) u1 u2 := Below.next (by repeat (first | exact Below.refl _ _ | apply Below.draws | apply below_lit)) b
        have sD := D.size
        replace Ra := Ra.below D
        replace Rz := Rz.below D
        replace Xa := Xa.below la D
        replace la := Nat.lt_of_lt_of_le la sD
        replace B := Below.next B D
        clear b D sD
        have xa0 := Xa.c0
        have xa1 := Xa.c1
        have xa2 := Xa.c2
        go_wp2_with fail
        refine (small_yes ⟨_, rfl, (Ra.below (by repeat (first | exact Below.refl _ _ | apply Below.draws | apply below_lit)))⟩ hs).mono ?_
        rintro e u3 ⟨rfl, b⟩
        clear xa0 xa1 xa2
        have D : Below (World.heap u2 |>.size) u2 u3 := Below.next (by repeat (first | exact Below.refl _ _ | apply Below.draws | apply below_lit)) b
        have sD := D.size
        replace Ra := Ra.below D
        replace Rz := Rz.below D
        replace F := F.below D
        replace Xa := Xa.below la D
        replace la := Nat.lt_of_lt_of_le la sD
        replace B := Below.next B D
        clear b D sD
        have xa0 := Xa.c0
        have xa1 := Xa.c1
        have xa2 := Xa.c2
        go_wp2_with fail
        refine (mcheck_ok ⟨_, rfl, (Ra.below (by repeat (first | exact Below.refl _ _ | apply Below.draws | apply below_lit)))⟩ hok).mono ?_
        rintro e u4 ⟨rfl, b⟩
        clear xa0 xa1 xa2
        have D : Below (World.heap u3 |>.size) u3 u4 := Below.next (by repeat (first | exact Below.refl _ _ | apply Below.draws | apply below_lit)) b
        have sD := D.size
        replace Ra := Ra.below D
        replace Rz := Rz.below D
        replace F := F.below D
        replace Xa := Xa.below la D
        replace la := Nat.lt_of_lt_of_le la sD
        replace B := Below.next B D
        clear b D sD
        have xa0 := Xa.c0
        have xa1 := Xa.c1
        have xa2 := Xa.c2
        go_wp2_with fail
        refine (mpick_ok ⟨_, rfl, (Ra.below (by repeat (first | exact Below.refl _ _ | apply Below.draws | apply below_lit)))⟩ (Rz.below (by repeat (first | exact Below.refl _ _ | apply Below.draws | apply below_lit))) hok (by omega)).mono ?_
        rintro e u5 (⟨hin, vp, rfl, Rp, b⟩ | ⟨hn, vp, rfl, Rp, b⟩)
        · clear xa0 xa1 xa2
          have D : Below (World.heap u4 |>.size) u4 u5 := Below.next (by repeat (first | exact Below.refl _ _ | apply Below.draws | apply below_lit)) b
          have sD := D.size
          replace Ra := Ra.below D
          replace Rz := Rz.below D
          replace F := F.below D
          replace Xa := Xa.below la D
          replace la := Nat.lt_of_lt_of_le la sD
          replace B := Below.next B D
          clear b D sD
          have xa0 := Xa.c0
          have xa1 := Xa.c1
          have xa2 := Xa.c2
          obtain ⟨ap, cp, rfl⟩ := Rp.form
          go_wp2_with fail
          refine (mident_any r _ (by omega) rfl).mono ?_
          rintro e u6 ⟨vi, rfl, Ri, b⟩
          clear xa0 xa1 xa2
          have D : Below (World.heap u5 |>.size) u5 u6 := Below.next (by repeat (first | exact Below.refl _ _ | apply Below.draws | apply below_lit)) b
          have sD := D.size
          replace Ra := Ra.below D
          replace Rz := Rz.below D
          replace F := F.below D
          replace Rp := Rp.below D
          replace Xa := Xa.below la D
          replace la := Nat.lt_of_lt_of_le la sD
          have Xp : Box u6 (World.heap u5 |>.size) _ _ _ := Below.box b (by simp <;> omega) (by first | exact Box.new _ _ _ _ _ | exact (Box.new _ _ _ _ _).alloc (by simp) _ | exact ((Box.new _ _ _ _ _).alloc (by simp) _).alloc (by simp <;> omega) _)
          have lp : (World.heap u5 |>.size) < (World.heap u6 |>.size) := by have := b.size; simp at this; omega
          replace B := Below.next B D
          clear b D sD
          have xa0 := Xa.c0
          have xa1 := Xa.c1
          have xa2 := Xa.c2
          have xp0 := Xp.c0
          have xp1 := Xp.c1
          have xp2 := Xp.c2
          obtain ⟨ai, ci, rfl⟩ := Ri.form
          go_wp2_with fail
          refine (mpick_ok ⟨_, rfl, (Ri.below (by repeat (first | exact Below.refl _ _ | apply Below.draws | apply below_lit)))⟩ (Rz.below (by repeat (first | exact Below.refl _ _ | apply Below.draws | apply below_lit))) (okM_flat one (by omega) (by omega)) (by omega)).mono ?_
          rintro e u7 (⟨_, vq, rfl, Rq, b⟩ | ⟨hn, _⟩)
          rotate_left
          · exact absurd hin hn
          clear xa0 xa1 xa2 xp0 xp1 xp2
          have D : Below (World.heap u6 |>.size) u6 u7 := Below.next (by repeat (first | exact Below.refl _ _ | apply Below.draws | apply below_lit)) b
          have sD := D.size
          replace Ra := Ra.below D
          replace Rz := Rz.below D
          replace F := F.below D
          replace Rp := Rp.below D
          replace Ri := Ri.below D
          replace Xa := Xa.below la D
          replace la := Nat.lt_of_lt_of_le la sD
          replace Xp := Xp.below lp D
          replace lp := Nat.lt_of_lt_of_le lp sD
          have Xi : Box u7 (World.heap u6 |>.size) _ _ _ := Below.box b (by simp <;> omega) (by first | exact Box.new _ _ _ _ _ | exact (Box.new _ _ _ _ _).alloc (by simp) _ | exact ((Box.new _ _ _ _ _).alloc (by simp) _).alloc (by simp <;> omega) _)
          have li : (World.heap u6 |>.size) < (World.heap u7 |>.size) := by have := b.size; simp at this; omega
          replace B := Below.next B D
          clear b D sD
          have xa0 := Xa.c0
          have xa1 := Xa.c1
          have xa2 := Xa.c2
          have xp0 := Xp.c0
          have xp1 := Xp.c1
          have xp2 := Xp.c2
          have xi0 := Xi.c0
          have xi1 := Xi.c1
          have xi2 := Xi.c2
          obtain ⟨aq, cq, rfl⟩ := Rq.form
          go_wp2_with fail
          refine (mmul_ok (F.below (by repeat (first | exact Below.refl _ _ | apply Below.draws | apply below_lit))) ⟨_, rfl, (Rq.below (by repeat (first | exact Below.refl _ _ | apply Below.draws | apply below_lit)))⟩ ⟨_, rfl, (Ra.below (by repeat (first | exact Below.refl _ _ | apply Below.draws | apply below_lit)))⟩ (okM_flat _ (by omega) (by omega)) hok).mono ?_
          rintro e u8 ⟨vm, rfl, Rm, b⟩
          clear xa0 xa1 xa2 xp0 xp1 xp2 xi0 xi1 xi2
          have D : Below (World.heap u7 |>.size) u7 u8 := Below.next (by repeat (first | exact Below.refl _ _ | apply Below.draws | apply below_lit)) b
          have sD := D.size
          replace Ra := Ra.below D
          replace Rz := Rz.below D
          replace F := F.below D
          replace Rp := Rp.below D
          replace Ri := Ri.below D
          replace Rq := Rq.below D
          replace Xa := Xa.below la D
          replace la := Nat.lt_of_lt_of_le la sD
          replace Xp := Xp.below lp D
          replace lp := Nat.lt_of_lt_of_le lp sD
          replace Xi := Xi.below li D
          replace li := Nat.lt_of_lt_of_le li sD
          have Xq : Box u8 (World.heap u7 |>.size) _ _ _ := Below.box b (by simp <;> omega) (by first | exact Box.new _ _ _ _ _ | exact (Box.new _ _ _ _ _).alloc (by simp) _ | exact ((Box.new _ _ _ _ _).alloc (by simp) _).alloc (by simp <;> omega) _)
          have lq : (World.heap u7 |>.size) < (World.heap u8 |>.size) := by have := b.size; simp at this; omega
          replace B := Below.next B D
          clear b D sD
          have xa0 := Xa.c0
          have xa1 := Xa.c1
          have xa2 := Xa.c2
          have xp0 := Xp.c0
          have xp1 := Xp.c1
          have xp2 := Xp.c2
          have xi0 := Xi.c0
          have xi1 := Xi.c1
          have xi2 := Xi.c2
          have xq0 := Xq.c0
          have xq1 := Xq.c1
          have xq2 := Xq.c2
          obtain ⟨am, cm, rfl⟩ := Rm.form
          go_wp2_with fail
          refine (same3 ⟨_, rfl, (Rp.below (by repeat (first | exact Below.refl _ _ | apply Below.draws | apply below_lit))).as (pick_mul hin)⟩ ⟨_, rfl, (Rm.below (by repeat (first | exact Below.refl _ _ | apply Below.draws | apply below_lit)))⟩).mono ?_
          rintro e u9 ⟨rfl, b⟩
          clear xa0 xa1 xa2 xp0 xp1 xp2 xi0 xi1 xi2 xq0 xq1 xq2
          have D : Below (World.heap u8 |>.size) u8 u9 := Below.next (by repeat (first | exact Below.refl _ _ | apply Below.draws | apply below_lit)) b
          have sD := D.size
          replace Ra := Ra.below D
          replace Rz := Rz.below D
          replace F := F.below D
          replace Rp := Rp.below D
          replace Ri := Ri.below D
          replace Rq := Rq.below D
          replace Rm := Rm.below D
          replace Xa := Xa.below la D
          replace la := Nat.lt_of_lt_of_le la sD
          replace Xp := Xp.below lp D
          replace lp := Nat.lt_of_lt_of_le lp sD
          replace Xi := Xi.below li D
          replace li := Nat.lt_of_lt_of_le li sD
          replace Xq := Xq.below lq D
          replace lq := Nat.lt_of_lt_of_le lq sD
          have Xm : Box u9 (World.heap u8 |>.size) _ _ _ := Below.box b (by simp <;> omega) (by first | exact Box.new _ _ _ _ _ | exact (Box.new _ _ _ _ _).alloc (by simp) _ | exact ((Box.new _ _ _ _ _).alloc (by simp) _).alloc (by simp <;> omega) _)
          have lm : (World.heap u8 |>.size) < (World.heap u9 |>.size) := by have := b.size; simp at this; omega
          replace B := Below.next B D
          clear b D sD
          have xa0 := Xa.c0
          have xa1 := Xa.c1
          have xa2 := Xa.c2
          have xp0 := Xp.c0
          have xp1 := Xp.c1
          have xp2 := Xp.c2
          have xi0 := Xi.c0
          have xi1 := Xi.c1
          have xi2 := Xi.c2
          have xq0 := Xq.c0
          have xq1 := Xq.c1
          have xq2 := Xq.c2
          have xm0 := Xm.c0
          have xm1 := Xm.c1
          have xm2 := Xm.c2
          have Hin : Hid _ := hin
          clear hin
          go_wp2
          go_loopw [16, 17] (fun tw i wr => ∃ (k : Nat) (t : Bool) (d : Nat), k ≤ zs.length ∧ i = .int .i64 k ∧ tw = .bool t ∧ Hid (t = true → Dup zs) ∧ Hid (wr = World.drewN u9 d)) (fun _ i _ => zs.length - (intOf i).toNat)
          case atStart => exact ⟨0, false, 0, by omega, rfl, rfl, (fun h => by cases h), rfl⟩
          case round =>
            obtain ⟨k, t, d, hk, rfl, rfl, hT, hd⟩ := hrel
            by_cases hlt : k < zs.length
            · have hlt2 : (k : Int) < (zs.length : Int) := by omega
              go_wp2
              go_loopw [16, 18] (fun tw i w2 => ∃ (n : Nat) (t : Bool) (d : Nat), n ≤ k ∧ i = .int .i64 n ∧ tw = .bool t ∧ Hid (t = true → Dup zs) ∧ Hid (w2 = World.drewN u9 d)) (fun _ i _ => k - (intOf i).toNat)
              case atStart => exact ⟨0, t, d, by omega, rfl, rfl, hT, hd⟩
              case round =>
                clear hT hd
                obtain ⟨n, t, d, hn, rfl, rfl, hT, hd⟩ := hrel
                by_cases hnk : n < k
                · have hnk2 : (n : Int) < (k : Int) := by omega
                  cases t
                  · rcases Rz with ⟨a0, c0, e1, e2⟩ | ⟨bz, oz, c0, hz0, e2, hz1, hz3, hzc⟩
                    · subst e1; simp at hlt
                    · simp at e2
                      obtain ⟨rfl, rfl⟩ := e2
                      have c1 : World.cell? wr ⟨bz, oz + k, none⟩ = some (.int .i64 (zs.getD k 0)) := by rw [hd.out]; exact hzc k hlt
                      have c2 : World.cell? wr ⟨bz, oz + n, none⟩ = some (.int .i64 (zs.getD n 0)) := by rw [hd.out]; exact hzc n (by omega)
                      have hnl : (n : Int) < (zs.length : Int) := by omega
                      have N1 : Hid ((zs.getD k 0 == zs.getD n 0) = true → Dup zs) := fun h => ⟨k, n, hlt, hnk, by simpa using h⟩
                      obtain ⟨z1, e1⟩ : ∃ z1, z1 = zs.getD k 0 := ⟨_, rfl⟩
                      obtain ⟨z2, e2⟩ : ∃ z2, z2 = zs.getD n 0 := ⟨_, rfl⟩
                      rw [← e1] at c1 N1
                      rw [← e2] at c2 N1
                      clear e1 e2 hzc
                      go_wp2
                      go_quiet (fail)
                      go_wp2
                      go_roundw
                      case rel => exact ⟨n + 1, z1 == z2, _, by omega, by go_num, rfl, N1, by show _ = _; rw [hd.out, World.drewN_drewN]⟩
                      case measure => simp [intOf]; omega
                  · go_wp2
                    go_quiet (fail)
                    go_wp2
                    go_roundw
                    case rel => exact ⟨n + 1, true, _, by omega, by go_num, rfl, (by first | exact hT | exact fun _ => hT.out trivial), by show _ = _; rw [hd.out, World.drewN_drewN]⟩
                    case measure => simp [intOf]; omega
                · have e : n = k := by omega
                  subst e
                  go_wp2
                  go_roundw
                  case rel => exact ⟨n + 1, t, d, by omega, by go_num, rfl, hT, hd⟩
                  case measure => simp [intOf]; omega
            · have hd2 := hd.out
              subst hd2
              clear hd
              cases t
              · go_wp2_with fail
                refine (minv_some (F.below (by repeat (first | exact Below.refl _ _ | apply Below.draws | apply below_lit))) ⟨_, rfl, (Rp.below (by repeat (first | exact Below.refl _ _ | apply Below.draws | apply below_lit)))⟩ (okM_flat _ (by omega) (by omega))).mono ?_
                rintro e u10 (⟨V, eV, hV, vv, rfl, Rv, b⟩ | ⟨xv, hxv, vv, rfl, Rv, b⟩)
                · clear xa0 xa1 xa2 xp0 xp1 xp2 xi0 xi1 xi2 xq0 xq1 xq2 xm0 xm1 xm2
                  have D : Below (World.heap u9 |>.size) u9 u10 := Below.next (by repeat (first | exact Below.refl _ _ | apply Below.draws | apply below_lit)) b
                  have sD := D.size
                  replace Ra := Ra.below D
                  replace Rz := Rz.below D
                  replace F := F.below D
                  replace Rp := Rp.below D
                  replace Ri := Ri.below D
                  replace Rq := Rq.below D
                  replace Rm := Rm.below D
                  replace Xa := Xa.below la D
                  replace la := Nat.lt_of_lt_of_le la sD
                  replace Xp := Xp.below lp D
                  replace lp := Nat.lt_of_lt_of_le lp sD
                  replace Xi := Xi.below li D
                  replace li := Nat.lt_of_lt_of_le li sD
                  replace Xq := Xq.below lq D
                  replace lq := Nat.lt_of_lt_of_le lq sD
                  replace Xm := Xm.below lm D
                  replace lm := Nat.lt_of_lt_of_le lm sD
                  replace B := Below.next B D
                  clear b D sD
                  have xa0 := Xa.c0
                  have xa1 := Xa.c1
                  have xa2 := Xa.c2
                  have xp0 := Xp.c0
                  have xp1 := Xp.c1
                  have xp2 := Xp.c2
                  have xi0 := Xi.c0
                  have xi1 := Xi.c1
                  have xi2 := Xi.c2
                  have xq0 := Xq.c0
                  have xq1 := Xq.c1
                  have xq2 := Xq.c2
                  have xm0 := Xm.c0
                  have xm1 := Xm.c1
                  have xm2 := Xm.c2
                  obtain ⟨av, cv, rfl⟩ := Rv.form
                  clear Rv
                  go_wp2
                  go_ret
                  exact ⟨rfl, Below.next B (by repeat (first | exact Below.refl _ _ | apply Below.draws | apply below_lit))⟩
                · clear xa0 xa1 xa2 xp0 xp1 xp2 xi0 xi1 xi2 xq0 xq1 xq2 xm0 xm1 xm2
                  have D : Below (World.heap u9 |>.size) u9 u10 := Below.next (by repeat (first | exact Below.refl _ _ | apply Below.draws | apply below_lit)) b
                  have sD := D.size
                  replace Ra := Ra.below D
                  replace Rz := Rz.below D
                  replace F := F.below D
                  replace Rp := Rp.below D
                  replace Ri := Ri.below D
                  replace Rq := Rq.below D
                  replace Rm := Rm.below D
                  replace Xa := Xa.below la D
                  replace la := Nat.lt_of_lt_of_le la sD
                  replace Xp := Xp.below lp D
                  replace lp := Nat.lt_of_lt_of_le lp sD
                  replace Xi := Xi.below li D
                  replace li := Nat.lt_of_lt_of_le li sD
                  replace Xq := Xq.below lq D
                  replace lq := Nat.lt_of_lt_of_le lq sD
                  replace Xm := Xm.below lm D
                  replace lm := Nat.lt_of_lt_of_le lm sD
                  replace B := Below.next B D
                  clear b D sD
                  have xa0 := Xa.c0
                  have xa1 := Xa.c1
                  have xa2 := Xa.c2
                  have xp0 := Xp.c0
                  have xp1 := Xp.c1
                  have xp2 := Xp.c2
                  have xi0 := Xi.c0
                  have xi1 := Xi.c1
                  have xi2 := Xi.c2
                  have xq0 := Xq.c0
                  have xq1 := Xq.c1
                  have xq2 := Xq.c2
                  have xm0 := Xm.c0
                  have xm1 := Xm.c1
                  have xm2 := Xm.c2
                  obtain ⟨av, cv, rfl⟩ := Rv.form
                  clear Rv
                  go_wp2
                  go_ret
                  exact ⟨rfl, Below.next B (by repeat (first | exact Below.refl _ _ | apply Below.draws | apply below_lit))⟩
              · obtain ⟨i1, j1, hk1, hk2, hk3⟩ := hT.out rfl
                by_cases hsq : zs.length = c
                · subst hsq
                  go_wp2_with fail
                  refine (minv_ok (F.below (by repeat (first | exact Below.refl _ _ | apply Below.draws | apply below_lit))) ⟨_, rfl, (Rp.below (by repeat (first | exact Below.refl _ _ | apply Below.draws | apply below_lit)))⟩ (okM_flat _ (by omega) (by omega))).mono ?_
                  rintro e u10 (⟨V, hV, _⟩ | ⟨_, vv, rfl, Rv, b⟩)
                  · exact (pick_twice rfl hk1 hk2 hk3 hV).elim
                  clear xa0 xa1 xa2 xp0 xp1 xp2 xi0 xi1 xi2 xq0 xq1 xq2 xm0 xm1 xm2
                  have D : Below (World.heap u9 |>.size) u9 u10 := Below.next (by repeat (first | exact Below.refl _ _ | apply Below.draws | apply below_lit)) b
                  have sD := D.size
                  replace Ra := Ra.below D
                  replace Rz := Rz.below D
                  replace F := F.below D
                  replace Rp := Rp.below D
                  replace Ri := Ri.below D
                  replace Rq := Rq.below D
                  replace Rm := Rm.below D
                  replace Xa := Xa.below la D
                  replace la := Nat.lt_of_lt_of_le la sD
                  replace Xp := Xp.below lp D
                  replace lp := Nat.lt_of_lt_of_le lp sD
                  replace Xi := Xi.below li D
                  replace li := Nat.lt_of_lt_of_le li sD
                  replace Xq := Xq.below lq D
                  replace lq := Nat.lt_of_lt_of_le lq sD
                  replace Xm := Xm.below lm D
                  replace lm := Nat.lt_of_lt_of_le lm sD
                  replace B := Below.next B D
                  clear b D sD
                  have xa0 := Xa.c0
                  have xa1 := Xa.c1
                  have xa2 := Xa.c2
                  have xp0 := Xp.c0
                  have xp1 := Xp.c1
                  have xp2 := Xp.c2
                  have xi0 := Xi.c0
                  have xi1 := Xi.c1
                  have xi2 := Xi.c2
                  have xq0 := Xq.c0
                  have xq1 := Xq.c1
                  have xq2 := Xq.c2
                  have xm0 := Xm.c0
                  have xm1 := Xm.c1
                  have xm2 := Xm.c2
                  obtain ⟨av, cv, rfl⟩ := Rv.form
                  clear Rv
                  go_wp2
                  go_ret
                  exact ⟨rfl, Below.next B (by repeat (first | exact Below.refl _ _ | apply Below.draws | apply below_lit))⟩
                · have hne : ((zs.length : Int) != (c : Int)) = true := by simp; omega
                  go_wp2_with fail
                  refine (minv_some (F.below (by repeat (first | exact Below.refl _ _ | apply Below.draws | apply below_lit))) ⟨_, rfl, (Rp.below (by repeat (first | exact Below.refl _ _ | apply Below.draws | apply below_lit)))⟩ (okM_flat _ (by omega) (by omega))).mono ?_
                  rintro e u10 (⟨V, eV, hV, vv, rfl, Rv, b⟩ | ⟨xv, hxv, vv, rfl, Rv, b⟩)
                  · exact absurd eV hsq
                  · clear xa0 xa1 xa2 xp0 xp1 xp2 xi0 xi1 xi2 xq0 xq1 xq2 xm0 xm1 xm2
                    have D : Below (World.heap u9 |>.size) u9 u10 := Below.next (by repeat (first | exact Below.refl _ _ | apply Below.draws | apply below_lit)) b
                    have sD := D.size
                    replace Ra := Ra.below D
                    replace Rz := Rz.below D
                    replace F := F.below D
                    replace Rp := Rp.below D
                    replace Ri := Ri.below D
                    replace Rq := Rq.below D
                    replace Rm := Rm.below D
                    replace Xa := Xa.below la D
                    replace la := Nat.lt_of_lt_of_le la sD
                    replace Xp := Xp.below lp D
                    replace lp := Nat.lt_of_lt_of_le lp sD
                    replace Xi := Xi.below li D
                    replace li := Nat.lt_of_lt_of_le li sD
                    replace Xq := Xq.below lq D
                    replace lq := Nat.lt_of_lt_of_le lq sD
                    replace Xm := Xm.below lm D
                    replace lm := Nat.lt_of_lt_of_le lm sD
                    replace B := Below.next B D
                    clear b D sD
                    have xa0 := Xa.c0
                    have xa1 := Xa.c1
                    have xa2 := Xa.c2
                    have xp0 := Xp.c0
                    have xp1 := Xp.c1
                    have xp2 := Xp.c2
                    have xi0 := Xi.c0
                    have xi1 := Xi.c1
                    have xi2 := Xi.c2
                    have xq0 := Xq.c0
                    have xq1 := Xq.c1
                    have xq2 := Xq.c2
                    have xm0 := Xm.c0
                    have xm1 := Xm.c1
                    have xm2 := Xm.c2
                    obtain ⟨av, cv, rfl⟩ := Rv.form
                    clear Rv
                    go_wp2
                    go_ret
                    exact ⟨rfl, Below.next B (by repeat (first | exact Below.refl _ _ | apply Below.draws | apply below_lit))⟩
        · clear xa0 xa1 xa2
          have D : Below (World.heap u4 |>.size) u4 u5 := Below.next (by repeat (first | exact Below.refl _ _ | apply Below.draws | apply below_lit)) b
          have sD := D.size
          replace Ra := Ra.below D
          replace Rz := Rz.below D
          replace F := F.below D
          replace Xa := Xa.below la D
          replace la := Nat.lt_of_lt_of_le la sD
          replace B := Below.next B D
          clear b D sD
          have xa0 := Xa.c0
          have xa1 := Xa.c1
          have xa2 := Xa.c2
          obtain ⟨ap, cp, rfl⟩ := Rp.form
          clear Rp
          go_wp2_with fail
          refine (mident_any r _ (by omega) rfl).mono ?_
          rintro e u6 ⟨vi, rfl, Ri, b⟩
          clear xa0 xa1 xa2
          have D : Below (World.heap u5 |>.size) u5 u6 := Below.next (by repeat (first | exact Below.refl _ _ | apply Below.draws | apply below_lit)) b
          have sD := D.size
          replace Ra := Ra.below D
          replace Rz := Rz.below D
          replace F := F.below D
          replace Xa := Xa.below la D
          replace la := Nat.lt_of_lt_of_le la sD
          have Xp : Box u6 (World.heap u5 |>.size) _ _ _ := Below.box b (by simp <;> omega) (by first | exact Box.new _ _ _ _ _ | exact (Box.new _ _ _ _ _).alloc (by simp) _ | exact ((Box.new _ _ _ _ _).alloc (by simp) _).alloc (by simp <;> omega) _)
          have lp : (World.heap u5 |>.size) < (World.heap u6 |>.size) := by have := b.size; simp at this; omega
          replace B := Below.next B D
          clear b D sD
          have xa0 := Xa.c0
          have xa1 := Xa.c1
          have xa2 := Xa.c2
          have xp0 := Xp.c0
          have xp1 := Xp.c1
          have xp2 := Xp.c2
          obtain ⟨ai, ci, rfl⟩ := Ri.form
          go_wp2_with fail
          refine (mpick_ok ⟨_, rfl, (Ri.below (by repeat (first | exact Below.refl _ _ | apply Below.draws | apply below_lit)))⟩ (Rz.below (by repeat (first | exact Below.refl _ _ | apply Below.draws | apply below_lit))) (okM_flat one (by omega) (by omega)) (by omega)).mono ?_
          rintro e u7 (⟨hin, _⟩ | ⟨_, vq, rfl, Rq, b⟩)
          · exact absurd hin hn
          clear xa0 xa1 xa2 xp0 xp1 xp2
          have D : Below (World.heap u6 |>.size) u6 u7 := Below.next (by repeat (first | exact Below.refl _ _ | apply Below.draws | apply below_lit)) b
          have sD := D.size
          replace Ra := Ra.below D
          replace Rz := Rz.below D
          replace F := F.below D
          replace Ri := Ri.below D
          replace Xa := Xa.below la D
          replace la := Nat.lt_of_lt_of_le la sD
          replace Xp := Xp.below lp D
          replace lp := Nat.lt_of_lt_of_le lp sD
          have Xi : Box u7 (World.heap u6 |>.size) _ _ _ := Below.box b (by simp <;> omega) (by first | exact Box.new _ _ _ _ _ | exact (Box.new _ _ _ _ _).alloc (by simp) _ | exact ((Box.new _ _ _ _ _).alloc (by simp) _).alloc (by simp <;> omega) _)
          have li : (World.heap u6 |>.size) < (World.heap u7 |>.size) := by have := b.size; simp at this; omega
          replace B := Below.next B D
          clear b D sD
          have xa0 := Xa.c0
          have xa1 := Xa.c1
          have xa2 := Xa.c2
          have xp0 := Xp.c0
          have xp1 := Xp.c1
          have xp2 := Xp.c2
          have xi0 := Xi.c0
          have xi1 := Xi.c1
          have xi2 := Xi.c2
          obtain ⟨aq, cq, rfl⟩ := Rq.form
          clear Rq
          go_wp2
          go_ret
          exact ⟨rfl, Below.next B (by repeat (first | exact Below.refl _ _ | apply Below.draws | apply below_lit))⟩
      · go_enter Try.func7, Try.ntmps7
        have B : Below w.heap.size w w := Below.refl _ _
        go_wp2_with fail
        refine (awake3_any _).mono ?_
        rintro e u1 ⟨rfl, b⟩
        have D : Below w.heap.size w u1 := Below.next (by repeat (first | exact Below.refl _ _ | apply Below.draws | apply below_lit)) b
        have sD := D.size
        replace Ra := Ra.below D
        have Xa : Box u1 (w.heap.size) _ _ _ := Below.box b (by simp <;> omega) (by first | exact Box.new _ _ _ _ _ | exact (Box.new _ _ _ _ _).alloc (by simp) _ | exact ((Box.new _ _ _ _ _).alloc (by simp) _).alloc (by simp <;> omega) _ | exact Box.new1 _ _ _ _ _ _ | exact (Box.new1 _ _ _ _ _ _).alloc (by simp <;> omega) _ | exact Box.new2 _ _ _ _ _ _ _)
        have la : w.heap.size < u1.heap.size := by have := b.size; simp at this; omega
        replace B := Below.next B D
        clear b D sD
        have xa0 := Xa.c0
        have xa1 := Xa.c1
        have xa2 := Xa.c2
        go_wp2_with fail
        refine (new_any _).mono ?_
        rintro e u2 ⟨rfl, F, hO⟩
        have b := hO.below
        clear hO
        clear xa0 xa1 xa2
        have D : Below (World.heap u1 |>.size) u1 u2 := Below.next (by repeat (first | exact Below.refl _ _ | apply Below.draws | apply below_lit)) b
        have sD := D.size
        replace Ra := Ra.below D
        replace Xa := Xa.below la D
        replace la := Nat.lt_of_lt_of_le la sD
        replace B := Below.next B D
        clear b D sD
        have xa0 := Xa.c0
        have xa1 := Xa.c1
        have xa2 := Xa.c2
        go_wp2_with fail
        refine (small_yes ⟨_, rfl, (Ra.below (by repeat (first | exact Below.refl _ _ | apply Below.draws | apply below_lit)))⟩ hs).mono ?_
        rintro e u3 ⟨rfl, b⟩
        clear xa0 xa1 xa2
        have D : Below (World.heap u2 |>.size) u2 u3 := Below.next (by repeat (first | exact Below.refl _ _ | apply Below.draws | apply below_lit)) b
        have sD := D.size
        replace Ra := Ra.below D
        replace F := F.below D
        replace Xa := Xa.below la D
        replace la := Nat.lt_of_lt_of_le la sD
        replace B := Below.next B D
        clear b D sD
        have xa0 := Xa.c0
        have xa1 := Xa.c1
        have xa2 := Xa.c2
        go_wp2_with fail
        refine (mcheck_bad ⟨_, rfl, (Ra.below (by repeat (first | exact Below.refl _ _ | apply Below.draws | apply below_lit)))⟩ hok).mono ?_
        rintro e u4 ⟨rfl, b⟩
        clear xa0 xa1 xa2
        have D : Below (World.heap u3 |>.size) u3 u4 := Below.next (by repeat (first | exact Below.refl _ _ | apply Below.draws | apply below_lit)) b
        have sD := D.size
        replace Ra := Ra.below D
        replace F := F.below D
        replace Xa := Xa.below la D
        replace la := Nat.lt_of_lt_of_le la sD
        replace B := Below.next B D
        clear b D sD
        have xa0 := Xa.c0
        have xa1 := Xa.c1
        have xa2 := Xa.c2
        go_wp2
        go_ret
        exact ⟨rfl, Below.next B (by repeat (first | exact Below.refl _ _ | apply Below.draws | apply below_lit))⟩
    · have hl2 : (zs.length : Int) > 8 := by omega
      go_enter Try.func7, Try.ntmps7
      have B : Below w.heap.size w w := Below.refl _ _
      go_wp2_with fail
      refine (awake3_any _).mono ?_
      rintro e u1 ⟨rfl, b⟩
      have D : Below w.heap.size w u1 := Below.next (by repeat (first | exact Below.refl _ _ | apply Below.draws | apply below_lit)) b
      have sD := D.size
      replace Ra := Ra.below D
      have Xa : Box u1 (w.heap.size) _ _ _ := Below.box b (by simp <;> omega) (by first | exact Box.new _ _ _ _ _ | exact (Box.new _ _ _ _ _).alloc (by simp) _ | exact ((Box.new _ _ _ _ _).alloc (by simp) _).alloc (by simp <;> omega) _ | exact Box.new1 _ _ _ _ _ _ | exact (Box.new1 _ _ _ _ _ _).alloc (by simp <;> omega) _ | exact Box.new2 _ _ _ _ _ _ _)
      have la : w.heap.size < u1.heap.size := by have := b.size; simp at this; omega
      replace B := Below.next B D
      clear b D sD
      have xa0 := Xa.c0
      have xa1 := Xa.c1
      have xa2 := Xa.c2
      go_wp2_with fail
      refine (new_any _).mono ?_
      rintro e u2 ⟨rfl, F, hO⟩
      have b := hO.below
      clear hO
      clear xa0 xa1 xa2
      have D : Below (World.heap u1 |>.size) u1 u2 := Below.next (by repeat (first | exact Below.refl _ _ | apply Below.draws | apply below_lit)) b
      have sD := D.size
      replace Ra := Ra.below D
      replace Xa := Xa.below la D
      replace la := Nat.lt_of_lt_of_le la sD
      replace B := Below.next B D
      clear b D sD
      have xa0 := Xa.c0
      have xa1 := Xa.c1
      have xa2 := Xa.c2
      go_wp2_with fail
      refine (small_yes ⟨_, rfl, (Ra.below (by repeat (first | exact Below.refl _ _ | apply Below.draws | apply below_lit)))⟩ hs).mono ?_
      rintro e u3 ⟨rfl, b⟩
      clear xa0 xa1 xa2
      have D : Below (World.heap u2 |>.size) u2 u3 := Below.next (by repeat (first | exact Below.refl _ _ | apply Below.draws | apply below_lit)) b
      have sD := D.size
      replace Ra := Ra.below D
      replace F := F.below D
      replace Xa := Xa.below la D
      replace la := Nat.lt_of_lt_of_le la sD
      replace B := Below.next B D
      clear b D sD
      have xa0 := Xa.c0
      have xa1 := Xa.c1
      have xa2 := Xa.c2
      go_wp2
      go_ret
      exact ⟨rfl, Below.next B (by repeat (first | exact Below.refl _ _ | apply Below.draws | apply below_lit))⟩
  · go_enter Try.func7, Try.ntmps7
    have B : Below w.heap.size w w := Below.refl _ _
    go_wp2_with fail
    refine (awake3_any _).mono ?_
    rintro e u1 ⟨rfl, b⟩
    have D : Below w.heap.size w u1 := Below.next (by repeat (first | exact Below.refl _ _ | apply Below.draws | apply below_lit)) b
    have sD := D.size
    replace Ra := Ra.below D
    have Xa : Box u1 (w.heap.size) _ _ _ := Below.box b (by simp <;> omega) (by first | exact Box.new _ _ _ _ _ | exact (Box.new _ _ _ _ _).alloc (by simp) _ | exact ((Box.new _ _ _ _ _).alloc (by simp) _).alloc (by simp <;> omega) _ | exact Box.new1 _ _ _ _ _ _ | exact (Box.new1 _ _ _ _ _ _).alloc (by simp <;> omega) _ | exact Box.new2 _ _ _ _ _ _ _)
    have la : w.heap.size < u1.heap.size := by have := b.size; simp at this; omega
    replace B := Below.next B D
    clear b D sD
    have xa0 := Xa.c0
    have xa1 := Xa.c1
    have xa2 := Xa.c2
    go_wp2_with fail
    refine (new_any _).mono ?_
    rintro e u2 ⟨rfl, F, hO⟩
    have b := hO.below
    clear hO
    clear xa0 xa1 xa2
    have D : Below (World.heap u1 |>.size) u1 u2 := Below.next (by repeat (first | exact Below.refl _ _ | apply Below.draws | apply below_lit)) b
    have sD := D.size
    replace Ra := Ra.below D
    replace Xa := Xa.below la D
    replace la := Nat.lt_of_lt_of_le la sD
    replace B := Below.next B D
    clear b D sD
    have xa0 := Xa.c0
    have xa1 := Xa.c1
    have xa2 := Xa.c2
    go_wp2_with fail
    refine (small_no ⟨_, rfl, (Ra.below (by repeat (first | exact Below.refl _ _ | apply Below.draws | apply below_lit)))⟩ hs).mono ?_
    rintro e u3 ⟨rfl, b⟩
    clear xa0 xa1 xa2
    have D : Below (World.heap u2 |>.size) u2 u3 := Below.next (by repeat (first | exact Below.refl _ _ | apply Below.draws | apply below_lit)) b
    have sD := D.size
    replace Ra := Ra.below D
    replace F := F.below D
    replace Xa := Xa.below la D
    replace la := Nat.lt_of_lt_of_le la sD
    replace B := Below.next B D
    clear b D sD
    have xa0 := Xa.c0
    have xa1 := Xa.c1
    have xa2 := Xa.c2
    go_wp2
    go_ret
    exact ⟨rfl, Below.next B (by repeat (first | exact Below.refl _ _ | apply Below.draws | apply below_lit))⟩

/-! ### THE ROW's STEP: WRITTEN OUT: LEAVE IT -/
set_option maxRecDepth 100000 in
set_option maxHeartbeats 2000000 in
theorem lifted (os : Os) (started : os.Started) (H : Type) (enc : TypeId × Value → H) :
    ReturnsInHanded {} Try.checked os 7 .any (Rows.matrixRowsSpec.pre6 enc Try.prog Try.f7 Rows.matrixRowsRow.domain false) (Rows.matrixRowsSpec.post enc Try.prog Try.f7 false true false false) := by
  refine returnsInHanded_of_change (C := Try.checked) own started (by kernel_rfl) Try.func7
    (ChangeSpec.witness6 (enc := enc) (C := Try.checked) false ⟨#[], #[.agg #[.int .i64 0, .int .i64 0, .slice none 0 0], .slice none 0 0], []⟩ 8 (by kernel_rfl) (by kernel_rfl) (by kernel_rfl) (by kernel_rfl)) ?_
  intro W base args ds gs before hval0 hW hcnd _
  have hval : ∀ (j : Nat) t v, Try.f7.params[j]? = some t → args[j]? = some v → Value.okWide Try.prog W .any base t v := hval0
  have hW' := hW
  obtain ⟨p, q, hA0, hV, rfl, hfz, hnd⟩ := hW
  have hA : DataW.TrodAll enc Try.prog W 0 (fun _ => true) true Try.f7.params.toList args.toList ds p := hA0
  rw [Try.params7] at hA hval
  obtain ⟨v0, vs0, d0, ds0, p0, q0, hargs, rfl, rfl, h0, r0⟩ := trodAll_cons hA
  obtain ⟨v1, vs1, d1, ds1, p1, q1, rfl, rfl, rfl, h1, r1⟩ := trodAll_cons r0
  obtain ⟨rfl, rfl, rfl⟩ := trodAll_nil r1
  obtain rfl : args = #[v0, v1] := by cases args; simp_all
  obtain ⟨rfl, rfl⟩ := trodVars_none hV
  have k0 := h0
  have lt0 : ∀ x ∈ p0, x.block < W.heap.size := by obtain ⟨m, hm⟩ := k0; exact DataW.trod_lt m _ _ _ hm
  obtain ⟨x00, x01, x02, y00, y01, y02, m0, rfl, rfl, rfl, hy00, hy01, hy02⟩ := Go.Joins.open_agg3 Try.underlying25 (by kernel_rfl) (by kernel_rfl) (hval 0 25 v0 rfl rfl) h0
  obtain ⟨mr0, e00, f00, wr0⟩ := DataW.trod_int Try.underlying3 hy00
  obtain ⟨mc0, e01, f01, wc0⟩ := DataW.trod_int Try.underlying3 hy01
  obtain ⟨a0, len0, cap0, z0, e02, w0⟩ : ∃ a len cap zs, x02 = .slice a len cap ∧ IsRow .u8 W a len cap zs := by
    rcases open_ints Try.underlying23 Try.underlying5 (by kernel_rfl) hy02 with ⟨hcs, _⟩ | ⟨x, l, c, zs, hcs, _, hl, hm, hz, _, hcell, hwz⟩
    · simp at hcs
      exact ⟨none, 0, 0, [], hcs, .inl ⟨rfl, rfl, rfl, rfl⟩⟩
    · simp at hcs
      exact ⟨_, _, _, zs, hcs, .inr ⟨_, rfl, hl, hm, by simpa using hz, hcell, hwz⟩⟩
  simp at e00 e01
  subst e00 e01 e02
  obtain ⟨a1, len1, cap1, rfl⟩ := okWide_slice Try.underlying26 (hval 1 26 v1 rfl rfl)
  have k1 := h1
  have lt1 : ∀ x ∈ p1, x.block < W.heap.size := by obtain ⟨m, hm⟩ := k1; exact DataW.trod_lt m _ _ _ hm
  obtain ⟨z1, w1⟩ : ∃ zs, IsRow .i64 W a1 len1 cap1 zs := by
    obtain ⟨fuel, hf⟩ := h1
    rcases open_ints Try.underlying26 Try.underlying3 (by kernel_rfl) hf with ⟨hcs, _⟩ | ⟨x, l, c, zs, hcs, _, hl, hm, hz, _, hcell, hwz⟩
    · simp [Value.cells] at hcs
      obtain ⟨rfl, rfl, rfl⟩ := hcs
      exact ⟨[], .inl ⟨rfl, rfl, rfl, rfl⟩⟩
    · simp [Value.cells] at hcs
      obtain ⟨rfl, rfl, rfl⟩ := hcs
      exact ⟨zs, .inr ⟨_, rfl, hl, hm, by simpa using hz, hcell, hwz⟩⟩
  clear hA0 hval0
  refine (walk mr0 mc0 a0 len0 cap0 z0 a1 len1 cap1 z1 W wr0 wc0 w0 w1).mono fun e W' ⟨he, bel⟩ => ?_
  subst he
  exact ⟨_, rfl, _, _, _, [], _, [], hW', trodAll_mk1 (shut_bool Try.underlying4 _), (trodAll_cons_mk (Below.trod laidOut (by kernel_rfl) (of_decide_eq_true (by kernel_rfl)) k0 bel lt0) (trodAll_cons_mk (Below.trod laidOut (by kernel_rfl) (of_decide_eq_true (by kernel_rfl)) k1 bel lt1) trodAll_mk0)), rfl, bel.frame _, fun h => by cases h⟩

theorem over : Rows.matrixRowsRow.holds Try.pinned (OpenSpec.ofChange Rows.matrixRowsSpec) :=
  OpenClaim.holds_of_wide 7 Try.f7 rfl rfl rfl rfl rfl rfl rfl ⟨rfl, rfl, rfl, rfl, rfl⟩ rfl rfl rfl rfl rfl (by kernel_rfl) Try.func7 (by kernel_rfl)
    (of_decide_eq_true (by kernel_rfl)) (by unfold Func.isWrapper; first | (rw [if_pos (by decide +kernel)]; kernel_rfl) | (rw [if_neg (by decide +kernel)]; exact ⟨rfl, rfl⟩))
    (fun os started H enc _ => lifted os started H enc)

/-- ████ THE STATEMENT ████ -/
theorem proved : Rows.MatrixRowsSaid := over
end Go.Proofs.Ytljbecalobnkbaa.matrixRows
namespace Go.Proofs.Ytljbecalobnkbaa
theorem matrixRows_holds : Rows.MatrixRowsSaid := matrixRows.proved
#print axioms matrixRows_holds
end Go.Proofs.Ytljbecalobnkbaa
