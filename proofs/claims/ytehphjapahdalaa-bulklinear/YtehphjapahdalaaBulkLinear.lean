/- PROVED: for all k, m and all slices a, b of byte slices the call BulkLinear(k, m, a, b) returns true, and its arguments read behind it as before; no conditions. -/
import Derived.Test.YtehphjapahdalaaRows
import Derived.Test.YtehphjapahdalaaBkLaw
import Derived.Test.YtehphjapahdalaaBkAdd
import Derived.WalkKit
import Derived.ProofKit
import Derived.OpenShut
import Derived.ShutString
import Derived.ChangeOld
import Derived.Below
import Derived.Deep.Matrix
namespace Go.Proofs.Ytehphjapahdalaa.bulkLinear
open Go.ChangeShapes Go.WideShapes Go.ChangeAt Go.RowKit
open Go.ChangeMaps (open_string shut_string)
set_option linter.unusedVariables false

theorem own : ownKnob Try.prog.godebug = none := by kernel_rfl
theorem laidOut : laidOutB Try.prog = true := by kernel_rfl

/-- WHAT THE WALK IS TOLD OF A SLICE OF INTEGERS THAT CAME IN: it is nil; or it leads to a row of 'cap' cells, the numbers 'zs' (the first 'len' are its elements, the rest its spare room), each fitting its kind. -/
def IsRow (k : IntKind) (w : World) (a : Option Addr) (len cap : Nat) (zs : List Int) : Prop :=
  (a = none ∧ len = 0 ∧ cap = 0 ∧ zs = []) ∨
  ∃ x, a = some x ∧ len ≤ cap ∧ cap ≤ maxLen ∧ zs.length = cap ∧ (∀ i, i < zs.length → w.cell? (x.add i) = some (.int k (zs.getD i 0))) ∧ ∀ n ∈ zs, (Lit.int k n).wf = true

open Gf
set_option linter.unusedSimpArgs false
set_option maxRecDepth 100000 in
set_option maxHeartbeats 2000000 in
theorem walk (a0 : Int) (a1 : Int) (a2 : Option Addr) (len2 cap2 : Nat) (z2 : List (List UInt8)) (a3 : Option Addr) (len3 cap3 : Nat) (z3 : List (List UInt8)) (w : World) (w0 : (Lit.int .i64 a0).wf = true) (w1 : (Lit.int .i64 a1).wf = true) (w2 : Rs w (.slice a2 len2 cap2) z2) (w3 : Rs w (.slice a3 len3 cap3) z3) :
    Calls Try.prog 6 #[.int .i64 a0, .int .i64 a1, .slice a2 len2 cap2, .slice a3 len3 cap3] w fun e w' => e = .returned (.bool true) ∧ Below w.heap.size w w' := by
  obtain rfl := w2.lenEq
  obtain rfl := w3.lenEq
  go_enter Try.func6, Try.ntmps6
  have B : Below w.heap.size w w := Below.refl _ _
  go_wp2_with fail
  refine (awake6_any _).mono ?_
  rintro e u1 ⟨rfl, b⟩
  have D : Below (World.heap w |>.size) w u1 := Below.next (by repeat (first | exact Below.refl _ _ | apply Below.drewN | apply Below.drew | apply Below.draws | apply below_lit)) b
  replace w2 := w2.below D
  replace w3 := w3.below D
  replace B := Below.next B D
  clear b D
  go_wp2_with fail
  refine (new_any _).mono ?_
  rintro e u2 ⟨rfl, F, hO⟩
  have b := hO.below
  clear hO
  have D : Below (World.heap u1 |>.size) u1 u2 := Below.next (by repeat (first | exact Below.refl _ _ | apply Below.drewN | apply Below.drew | apply Below.draws | apply below_lit)) b
  replace w2 := w2.below D
  replace w3 := w3.below D
  replace B := Below.next B D
  clear b D
  go_wp2_with fail
  refine (few_any a0 a1 (w2.below (by repeat (first | exact Below.refl _ _ | apply Below.drewN | apply Below.drew | apply Below.draws | apply below_lit)))).mono ?_
  rintro e u3 ⟨t0, rfl, hS0, b⟩
  have D : Below (World.heap u2 |>.size) u2 u3 := Below.next (by repeat (first | exact Below.refl _ _ | apply Below.drewN | apply Below.drew | apply Below.draws | apply below_lit)) b
  replace w2 := w2.below D
  replace w3 := w3.below D
  replace F := F.below D
  replace B := Below.next B D
  clear b D
  go_wp2_with fail
  refine (few_any a0 a1 (w3.below (by repeat (first | exact Below.refl _ _ | apply Below.drewN | apply Below.drew | apply Below.draws | apply below_lit)))).mono ?_
  rintro e u4 ⟨t1, rfl, hS1, b⟩
  have D : Below (World.heap u3 |>.size) u3 u4 := Below.next (by repeat (first | exact Below.refl _ _ | apply Below.drewN | apply Below.drew | apply Below.draws | apply below_lit)) b
  replace w2 := w2.below D
  replace w3 := w3.below D
  replace F := F.below D
  replace B := Below.next B D
  clear b D
  cases t0
  · go_wp2
    go_ret
    exact ⟨rfl, Below.next B (by repeat (first | exact Below.refl _ _ | apply Below.drewN | apply Below.drew | apply Below.draws | apply below_lit))⟩
  · have S2 := hS0 rfl
    clear hS0
    cases t1
    · go_wp2
      go_ret
      exact ⟨rfl, Below.next B (by repeat (first | exact Below.refl _ _ | apply Below.drewN | apply Below.drew | apply Below.draws | apply below_lit))⟩
    · have S3 := hS1 rfl
      clear hS1
      by_cases hx : encX a0 a1 z2 = 0
      · obtain ⟨k, m, rfl, rfl, h1, h2, hL, hE, _⟩ := enc_zero hx
        clear hx
        have hLh : Hid _ := hL
        clear hL
        go_wp2_with fail
        refine (enc_ok (F.below (by repeat (first | exact Below.refl _ _ | apply Below.drewN | apply Below.drew | apply Below.draws | apply below_lit))) h1 h2 (w2.below (by repeat (first | exact Below.refl _ _ | apply Below.drewN | apply Below.drew | apply Below.draws | apply below_lit))) hLh.out hE S2 rfl rfl).mono ?_
        rintro e u5 ⟨vx, rfl, Rx, b⟩
        have D : Below (World.heap u4 |>.size) u4 u5 := Below.next (by repeat (first | exact Below.refl _ _ | apply Below.drewN | apply Below.drew | apply Below.draws | apply below_lit)) b
        replace w2 := w2.below D
        replace w3 := w3.below D
        replace F := F.below D
        replace B := Below.next B D
        clear b D
        obtain ⟨xb, xo, xc, ex, hxb, hxc, hxm⟩ := Rx.somewhere (by rw [encL_length, hLh.out]; omega)
        rw [encL_length, hLh.out] at ex hxc
        subst ex
        by_cases hy : encX (k : Int) (m : Int) z3 = 0
        · obtain ⟨_, _, hLb, hEb⟩ := enc_zeroN hy
          clear hy
          have hLbh : Hid _ := hLb
          clear hLb
          go_wp2_with fail
          refine (enc_ok (F.below (by repeat (first | exact Below.refl _ _ | apply Below.drewN | apply Below.drew | apply Below.draws | apply below_lit))) h1 h2 (w3.below (by repeat (first | exact Below.refl _ _ | apply Below.drewN | apply Below.drew | apply Below.draws | apply below_lit))) hLbh.out hEb S3 rfl rfl).mono ?_
          rintro e u6 ⟨vy, rfl, Ry, b⟩
          have D : Below (World.heap u5 |>.size) u5 u6 := Below.next (by repeat (first | exact Below.refl _ _ | apply Below.drewN | apply Below.drew | apply Below.draws | apply below_lit)) b
          replace w2 := w2.below D
          replace w3 := w3.below D
          replace F := F.below D
          replace Rx := Rx.below D
          replace B := Below.next B D
          clear b D
          obtain ⟨ya, yc, rfl⟩ := Ry.form
          obtain ⟨ab, ao, aa, ac, ea, hab, ca, ra⟩ := w2.at (i := 0) (by rw [hLh.out]; omega)
          subst ea
          obtain ⟨bb, bo, ba, bc, eb, hbb, cb, rb⟩ := w3.at (i := 0) (by rw [hLbh.out]; omega)
          subst eb
          rw [Nat.add_zero] at ca cb
          clear ra rb
          have i0 : (0 : Int) < (List.length z2 : Int) := by rw [hLh.out]; omega
          have i1 : (0 : Int) < (List.length z3 : Int) := by rw [hLbh.out]; omega
          by_cases hl : (ro z2 0).length = (ro z3 0).length
          · have hn : (((ro z2 0).length : Int) != ((ro z3 0).length : Int)) = false := by simp [hl]
            have hlh : Hid _ := hl
            clear hl
            go_wp2
            go_quiet (fail)
            clear hn ca cb i0 i1
            go_wp2_with fail
            refine (added_any (w2.below (by repeat (first | exact Below.refl _ _ | apply Below.drewN | apply Below.drew | apply Below.draws | apply below_lit))) (w3.below (by repeat (first | exact Below.refl _ _ | apply Below.drewN | apply Below.drew | apply Below.draws | apply below_lit))) S2).mono ?_
            rintro e u7 ⟨vs, rfl, Rs1, b⟩
            have D : Below (World.heap u6 |>.size) u6 u7 := Below.next (by repeat (first | exact Below.refl _ _ | apply Below.drewN | apply Below.drew | apply Below.draws | apply below_lit)) b
            replace w2 := w2.below D
            replace w3 := w3.below D
            replace F := F.below D
            replace Rx := Rx.below D
            replace Ry := Ry.below D
            replace B := Below.next B D
            clear b D
            obtain ⟨sa, sc, rfl⟩ := Rs1.form
            go_wp2_with fail
            refine (enc_ok (F.below (by repeat (first | exact Below.refl _ _ | apply Below.drewN | apply Below.drew | apply Below.draws | apply below_lit))) h1 h2 (Rs1.below (by repeat (first | exact Below.refl _ _ | apply Below.drewN | apply Below.drew | apply Below.draws | apply below_lit))) (by rw [addL_length]; exact hLh.out) (addL_even hE) (addL_small S2) rfl rfl).mono ?_
            rintro e u8 ⟨vz, rfl, Rz, b⟩
            have D : Below (World.heap u7 |>.size) u7 u8 := Below.next (by repeat (first | exact Below.refl _ _ | apply Below.drewN | apply Below.drew | apply Below.draws | apply below_lit)) b
            replace w2 := w2.below D
            replace w3 := w3.below D
            replace F := F.below D
            replace Rx := Rx.below D
            replace Ry := Ry.below D
            replace Rs1 := Rs1.below D
            replace B := Below.next B D
            clear b D
            obtain ⟨za, zc, rfl⟩ := Rz.form
            go_wp2_with fail
            refine (added_any (Rx.below (by repeat (first | exact Below.refl _ _ | apply Below.drewN | apply Below.drew | apply Below.draws | apply below_lit))) (Ry.below (by repeat (first | exact Below.refl _ _ | apply Below.drewN | apply Below.drew | apply Below.draws | apply below_lit))) (enc_small hE (by rw [hLh.out]; omega) S2)).mono ?_
            rintro e u9 ⟨vr, rfl, Rr, b⟩
            have D : Below (World.heap u8 |>.size) u8 u9 := Below.next (by repeat (first | exact Below.refl _ _ | apply Below.drewN | apply Below.drew | apply Below.draws | apply below_lit)) b
            replace w2 := w2.below D
            replace w3 := w3.below D
            replace F := F.below D
            replace Rx := Rx.below D
            replace Ry := Ry.below D
            replace Rs1 := Rs1.below D
            replace Rz := Rz.below D
            replace B := Below.next B D
            clear b D
            obtain ⟨ra, rc, rfl⟩ := Rr.form
            go_wp2_with fail
            refine (same6_t (Rz.below (by repeat (first | exact Below.refl _ _ | apply Below.drewN | apply Below.drew | apply Below.draws | apply below_lit))) (Rr.below (by repeat (first | exact Below.refl _ _ | apply Below.drewN | apply Below.drew | apply Below.draws | apply below_lit))) (enc_add hLh.out hLbh.out (by omega) hE hEb hlh.out)).mono ?_
            rintro e u10 ⟨rfl, b⟩
            have D : Below (World.heap u9 |>.size) u9 u10 := Below.next (by repeat (first | exact Below.refl _ _ | apply Below.drewN | apply Below.drew | apply Below.draws | apply below_lit)) b
            replace w2 := w2.below D
            replace w3 := w3.below D
            replace F := F.below D
            replace Rx := Rx.below D
            replace Ry := Ry.below D
            replace Rs1 := Rs1.below D
            replace Rz := Rz.below D
            replace Rr := Rr.below D
            replace B := Below.next B D
            clear b D
            go_wp2_with fail
            refine (fits_t (F.below (by repeat (first | exact Below.refl _ _ | apply Below.drewN | apply Below.drew | apply Below.draws | apply below_lit))) h1 h2 hLh.out hE S2 (Rx.below (by repeat (first | exact Below.refl _ _ | apply Below.drewN | apply Below.drew | apply Below.draws | apply below_lit))) rfl rfl).mono ?_
            rintro e u11 ⟨rfl, b⟩
            have D : Below (World.heap u10 |>.size) u10 u11 := Below.next (by repeat (first | exact Below.refl _ _ | apply Below.drewN | apply Below.drew | apply Below.draws | apply below_lit)) b
            replace w2 := w2.below D
            replace w3 := w3.below D
            replace F := F.below D
            replace Rx := Rx.below D
            replace Ry := Ry.below D
            replace Rs1 := Rs1.below D
            replace Rz := Rz.below D
            replace Rr := Rr.below D
            replace B := Below.next B D
            clear b D
            have gw : IntKind.i64.wrap ((k : Int) + (m : Int)) = (k : Int) + (m : Int) := by rw [IntKind.wrap_i64]; omega
            have hkc : (k : Int) ≤ (xc : Int) := by omega
            have hkc2 : k ≤ xc := by omega
            have Rk := Rx.first (k := k) (by rw [encL_length, hLh.out]; omega)
            go_wp2_with fail
            refine (same6_t (Rk.below (by repeat (first | exact Below.refl _ _ | apply Below.drewN | apply Below.drew | apply Below.draws | apply below_lit))) (w2.below (by repeat (first | exact Below.refl _ _ | apply Below.drewN | apply Below.drew | apply Below.draws | apply below_lit))) (enc_take hLh.out)).mono ?_
            rintro e u12 ⟨rfl, b⟩
            have D : Below (World.heap u11 |>.size) u11 u12 := Below.next (by repeat (first | exact Below.refl _ _ | apply Below.drewN | apply Below.drew | apply Below.draws | apply below_lit)) b
            replace w2 := w2.below D
            replace w3 := w3.below D
            replace F := F.below D
            replace Rx := Rx.below D
            replace Ry := Ry.below D
            replace Rs1 := Rs1.below D
            replace Rz := Rz.below D
            replace Rr := Rr.below D
            replace Rk := Rk.below D
            replace B := Below.next B D
            clear b D
            go_wp2
            go_ret
            exact ⟨rfl, Below.next B (by repeat (first | exact Below.refl _ _ | apply Below.drewN | apply Below.drew | apply Below.draws | apply below_lit))⟩
          · have hn : (((ro z2 0).length : Int) != ((ro z3 0).length : Int)) = true := by simp; omega
            clear hl
            go_wp2
            go_quiet (fail)
            go_wp2
            go_ret
            exact ⟨rfl, Below.next B (by repeat (first | exact Below.refl _ _ | apply Below.drewN | apply Below.drew | apply Below.draws | apply below_lit))⟩
        · have hb : (encX (k : Int) (m : Int) z3 != 0) = true := by simp [hy]
          go_wp2_with fail
          refine (enc_any (F.below (by repeat (first | exact Below.refl _ _ | apply Below.drewN | apply Below.drew | apply Below.draws | apply below_lit))) (w3.below (by repeat (first | exact Below.refl _ _ | apply Below.drewN | apply Below.drew | apply Below.draws | apply below_lit))) S3).mono ?_
          rintro e u6 ⟨vy, rfl, Ry, b⟩
          have D : Below (World.heap u5 |>.size) u5 u6 := Below.next (by repeat (first | exact Below.refl _ _ | apply Below.drewN | apply Below.drew | apply Below.draws | apply below_lit)) b
          replace w2 := w2.below D
          replace w3 := w3.below D
          replace F := F.below D
          replace Rx := Rx.below D
          replace B := Below.next B D
          clear b D
          obtain ⟨ya, yc, rfl⟩ := Ry.form
          clear Ry
          generalize encX (k : Int) (m : Int) z3 = ey at *
          generalize (encR (k : Int) (m : Int) z3).length = ny at *
          clear hy
          go_wp2
          go_quiet (fail)
          go_wp2
          go_ret
          exact ⟨rfl, Below.next B (by repeat (first | exact Below.refl _ _ | apply Below.drewN | apply Below.drew | apply Below.draws | apply below_lit))⟩
      · have hb : (encX a0 a1 z2 != 0) = true := by simp [hx]
        go_wp2_with fail
        refine (enc_any (F.below (by repeat (first | exact Below.refl _ _ | apply Below.drewN | apply Below.drew | apply Below.draws | apply below_lit))) (w2.below (by repeat (first | exact Below.refl _ _ | apply Below.drewN | apply Below.drew | apply Below.draws | apply below_lit))) S2).mono ?_
        rintro e u5 ⟨vx, rfl, Rx, b⟩
        have D : Below (World.heap u4 |>.size) u4 u5 := Below.next (by repeat (first | exact Below.refl _ _ | apply Below.drewN | apply Below.drew | apply Below.draws | apply below_lit)) b
        replace w2 := w2.below D
        replace w3 := w3.below D
        replace F := F.below D
        replace B := Below.next B D
        clear b D
        obtain ⟨xa, xc, rfl⟩ := Rx.form
        clear Rx
        go_wp2_with fail
        refine (enc_any (F.below (by repeat (first | exact Below.refl _ _ | apply Below.drewN | apply Below.drew | apply Below.draws | apply below_lit))) (w3.below (by repeat (first | exact Below.refl _ _ | apply Below.drewN | apply Below.drew | apply Below.draws | apply below_lit))) S3).mono ?_
        rintro e u6 ⟨vy, rfl, Ry, b⟩
        have D : Below (World.heap u5 |>.size) u5 u6 := Below.next (by repeat (first | exact Below.refl _ _ | apply Below.drewN | apply Below.drew | apply Below.draws | apply below_lit)) b
        replace w2 := w2.below D
        replace w3 := w3.below D
        replace F := F.below D
        replace B := Below.next B D
        clear b D
        obtain ⟨ya, yc, rfl⟩ := Ry.form
        clear Ry
        generalize encX a0 a1 z2 = ex at *
        generalize (encR a0 a1 z2).length = nx at *
        generalize encX a0 a1 z3 = ey at *
        generalize (encR a0 a1 z3).length = ny at *
        clear hx
        go_wp2
        go_quiet (fail)
        go_wp2
        go_ret
        exact ⟨rfl, Below.next B (by repeat (first | exact Below.refl _ _ | apply Below.drewN | apply Below.drew | apply Below.draws | apply below_lit))⟩

/-! ### THE ROW's STEP: WRITTEN OUT: LEAVE IT -/
set_option maxRecDepth 100000 in
theorem lifted (os : Os) (started : os.Started) (H : Type) (enc : TypeId × Value → H) :
    ReturnsInHanded {} Try.checked os 6 .any (Rows.bulkLinearSpec.pre6 enc Try.prog Try.f6 Rows.bulkLinearRow.domain false) (Rows.bulkLinearSpec.post enc Try.prog Try.f6 false true false false) := by
  refine returnsInHanded_of_change (C := Try.checked) own started (by kernel_rfl) Try.func6
    (ChangeSpec.witness6 (enc := enc) (C := Try.checked) false ⟨#[], #[.int .i64 0, .int .i64 0, .slice none 0 0, .slice none 0 0], []⟩ 8 (by kernel_rfl) (by kernel_rfl) (by kernel_rfl) (by kernel_rfl)) ?_
  intro W base args ds gs before hval0 hW hcnd _
  have hval : ∀ (j : Nat) t v, Try.f6.params[j]? = some t → args[j]? = some v → Value.okWide Try.prog W .any base t v := hval0
  have hW' := hW
  obtain ⟨p, q, hA0, hV, rfl, hfz, hnd⟩ := hW
  have hA : DataW.TrodAll enc Try.prog W 0 (fun _ => true) true Try.f6.params.toList args.toList ds p := hA0
  rw [Try.params6] at hA hval
  obtain ⟨v0, vs0, d0, ds0, p0, q0, hargs, rfl, rfl, h0, r0⟩ := trodAll_cons hA
  obtain ⟨v1, vs1, d1, ds1, p1, q1, rfl, rfl, rfl, h1, r1⟩ := trodAll_cons r0
  obtain ⟨v2, vs2, d2, ds2, p2, q2, rfl, rfl, rfl, h2, r2⟩ := trodAll_cons r1
  obtain ⟨v3, vs3, d3, ds3, p3, q3, rfl, rfl, rfl, h3, r3⟩ := trodAll_cons r2
  obtain ⟨rfl, rfl, rfl⟩ := trodAll_nil r3
  obtain rfl : args = #[v0, v1, v2, v3] := by cases args; simp_all
  obtain ⟨rfl, rfl⟩ := trodVars_none hV
  obtain ⟨a0, rfl, rfl, rfl, w0⟩ := open_int Try.underlying3 (hval 0 3 v0 rfl rfl) h0
  obtain ⟨a1, rfl, rfl, rfl, w1⟩ := open_int Try.underlying3 (hval 1 3 v1 rfl rfl) h1
  obtain ⟨a2, len2, cap2, rfl⟩ := okWide_slice Try.underlying23 (hval 2 23 v2 rfl rfl)
  have k2 := h2
  have lt2 : ∀ x ∈ p2, x.block < W.heap.size := by obtain ⟨m, hm⟩ := k2; exact DataW.trod_lt m _ _ _ hm
  obtain ⟨z2, w2⟩ : ∃ zs, Rs W (.slice a2 len2 cap2) zs := by
    obtain ⟨fuel, hf⟩ := h2
    rcases Go.Deep.open_int_rows Try.underlying23 Try.underlying35 Try.underlying5 (by kernel_rfl) (by kernel_rfl) hf with ⟨hcs, _⟩ | ⟨x, l, c, A, N, C, Z, hcs, _, hl, hm, _, hrows⟩
    · simp [Value.cells] at hcs
      obtain ⟨rfl, rfl, rfl⟩ := hcs
      exact ⟨[], rs_none⟩
    · simp [Value.cells] at hcs
      obtain ⟨rfl, rfl, rfl⟩ := hcs
      exact rs_rows hl hm hrows
  obtain ⟨a3, len3, cap3, rfl⟩ := okWide_slice Try.underlying23 (hval 3 23 v3 rfl rfl)
  have k3 := h3
  have lt3 : ∀ x ∈ p3, x.block < W.heap.size := by obtain ⟨m, hm⟩ := k3; exact DataW.trod_lt m _ _ _ hm
  obtain ⟨z3, w3⟩ : ∃ zs, Rs W (.slice a3 len3 cap3) zs := by
    obtain ⟨fuel, hf⟩ := h3
    rcases Go.Deep.open_int_rows Try.underlying23 Try.underlying35 Try.underlying5 (by kernel_rfl) (by kernel_rfl) hf with ⟨hcs, _⟩ | ⟨x, l, c, A, N, C, Z, hcs, _, hl, hm, _, hrows⟩
    · simp [Value.cells] at hcs
      obtain ⟨rfl, rfl, rfl⟩ := hcs
      exact ⟨[], rs_none⟩
    · simp [Value.cells] at hcs
      obtain ⟨rfl, rfl, rfl⟩ := hcs
      exact rs_rows hl hm hrows
  clear hA0 hval0
  refine (walk a0 a1 a2 len2 cap2 z2 a3 len3 cap3 z3 W w0 w1 w2 w3).mono fun e W' ⟨he, bel⟩ => ?_
  subst he
  exact ⟨_, rfl, _, _, _, [], _, [], hW', trodAll_mk1 (shut_bool Try.underlying4 _), (trodAll_cons_mk (shut_int Try.underlying3 w0) (trodAll_cons_mk (shut_int Try.underlying3 w1) (trodAll_cons_mk (Below.trod laidOut (by kernel_rfl) (of_decide_eq_true (by kernel_rfl)) k2 bel lt2) (trodAll_cons_mk (Below.trod laidOut (by kernel_rfl) (of_decide_eq_true (by kernel_rfl)) k3 bel lt3) trodAll_mk0)))), rfl, bel.frame _, fun h => by cases h⟩

theorem over : Rows.bulkLinearRow.holds Try.pinned (OpenSpec.ofChange Rows.bulkLinearSpec) :=
  OpenClaim.holds_of_wide 6 Try.f6 rfl rfl rfl rfl rfl rfl rfl ⟨rfl, rfl, rfl, rfl, rfl⟩ rfl rfl rfl rfl rfl (by kernel_rfl) Try.func6 (by kernel_rfl)
    (of_decide_eq_true (by kernel_rfl)) (by unfold Func.isWrapper; first | (rw [if_pos (by decide +kernel)]; kernel_rfl) | (rw [if_neg (by decide +kernel)]; exact ⟨rfl, rfl⟩))
    (fun os started H enc _ => lifted os started H enc)

/-- ████ THE STATEMENT ████ -/
theorem proved : Rows.BulkLinearSaid := over
end Go.Proofs.Ytehphjapahdalaa.bulkLinear
namespace Go.Proofs.Ytehphjapahdalaa
theorem bulkLinear_holds : Rows.BulkLinearSaid := bulkLinear.proved
#print axioms bulkLinear_holds
end Go.Proofs.Ytehphjapahdalaa
