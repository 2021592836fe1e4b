/- PROVED: for all k, m, which, place, all slices data of byte slices and all bytes by the call BulkSingle(k, m, data, which, place, by) returns true, and its arguments read behind it as before; no conditions. -/
import Derived.Test.YtehphjapahdalaaRows
import Derived.Test.YtehphjapahdalaaBkLaw
import Derived.WalkKit
import Derived.ProofKit
import Derived.OpenShut
import Derived.ShutString
import Derived.ChangeOld
import Derived.Below
import Derived.Deep.Matrix
namespace Go.Proofs.Ytehphjapahdalaa.bulkSingle
open Go.ChangeShapes Go.WideShapes Go.ChangeAt Go.RowKit
open Go.ChangeMaps (open_string shut_string)
set_option linter.unusedVariables false

theorem own : ownKnob Try.prog.godebug = none := by kernel_rfl
theorem laidOut : laidOutB Try.prog = true := by kernel_rfl

/-- WHAT THE WALK IS TOLD OF A SLICE OF INTEGERS THAT CAME IN: it is nil; or it leads to a row of 'cap' cells, the numbers 'zs' (the first 'len' are its elements, the rest its spare room), each fitting its kind. -/
def IsRow (k : IntKind) (w : World) (a : Option Addr) (len cap : Nat) (zs : List Int) : Prop :=
  (a = none ∧ len = 0 ∧ cap = 0 ∧ zs = []) ∨
  ∃ x, a = some x ∧ len ≤ cap ∧ cap ≤ maxLen ∧ zs.length = cap ∧ (∀ i, i < zs.length → w.cell? (x.add i) = some (.int k (zs.getD i 0))) ∧ ∀ n ∈ zs, (Lit.int k n).wf = true

open Gf
set_option linter.unusedSimpArgs false
set_option maxRecDepth 100000 in
set_option maxHeartbeats 2000000 in
theorem walk (a0 : Int) (a1 : Int) (a2 : Option Addr) (len2 cap2 : Nat) (z2 : List (List UInt8)) (a3 : Int) (a4 : Int) (a5 : Int) (w : World) (w0 : (Lit.int .i64 a0).wf = true) (w1 : (Lit.int .i64 a1).wf = true) (w2 : Rs w (.slice a2 len2 cap2) z2) (w3 : (Lit.int .i64 a3).wf = true) (w4 : (Lit.int .i64 a4).wf = true) (w5 : (Lit.int .u8 a5).wf = true) :
    Calls Try.prog 8 #[.int .i64 a0, .int .i64 a1, .slice a2 len2 cap2, .int .i64 a3, .int .i64 a4, .int .u8 a5] w fun e w' => e = .returned (.bool true) ∧ Below w.heap.size w w' := by
  obtain ⟨by1, rfl⟩ : ∃ y : UInt8, a5 = ((y.toNat : Nat) : Int) := ⟨UInt8.ofNat a5.toNat, by have := bounds_u8 w5; rw [ofNat_u8 (by omega)]; omega⟩
  obtain rfl := w2.lenEq
  go_enter Try.func8, Try.ntmps8
  have B : Below w.heap.size w w := Below.refl _ _
  go_wp2_with fail
  refine (awake6_any _).mono ?_
  rintro e u1 ⟨rfl, b⟩
  have D : Below (World.heap w |>.size) w u1 := Below.next (by repeat (first | exact Below.refl _ _ | apply Below.drewN | apply Below.drew | apply Below.draws | apply below_lit)) b
  replace w2 := w2.below D
  replace B := Below.next B D
  clear b D
  go_wp2_with fail
  refine (new_any _).mono ?_
  rintro e u2 ⟨rfl, F, hO⟩
  have b := hO.below
  clear hO
  have D : Below (World.heap u1 |>.size) u1 u2 := Below.next (by repeat (first | exact Below.refl _ _ | apply Below.drewN | apply Below.drew | apply Below.draws | apply below_lit)) b
  replace w2 := w2.below D
  replace B := Below.next B D
  clear b D
  go_wp2_with fail
  refine (few_any a0 a1 (w2.below (by repeat (first | exact Below.refl _ _ | apply Below.drewN | apply Below.drew | apply Below.draws | apply below_lit)))).mono ?_
  rintro e u3 ⟨t0, rfl, hS0, b⟩
  have D : Below (World.heap u2 |>.size) u2 u3 := Below.next (by repeat (first | exact Below.refl _ _ | apply Below.drewN | apply Below.drew | apply Below.draws | apply below_lit)) b
  replace w2 := w2.below D
  replace F := F.below D
  replace B := Below.next B D
  clear b D
  cases t0
  · go_wp2
    go_ret
    exact ⟨rfl, Below.next B (by repeat (first | exact Below.refl _ _ | apply Below.drewN | apply Below.drew | apply Below.draws | apply below_lit))⟩
  · have S2 := hS0 rfl
    clear hS0
    by_cases hx : encX a0 a1 z2 = 0
    · obtain ⟨k, m, rfl, rfl, h1, h2, hL, hE, _⟩ := enc_zero hx
      clear hx
      have hLh : Hid _ := hL
      clear hL
      go_wp2_with fail
      refine (enc_ok (F.below (by repeat (first | exact Below.refl _ _ | apply Below.drewN | apply Below.drew | apply Below.draws | apply below_lit))) h1 h2 (w2.below (by repeat (first | exact Below.refl _ _ | apply Below.drewN | apply Below.drew | apply Below.draws | apply below_lit))) hLh.out hE S2 rfl rfl).mono ?_
      rintro e u4 ⟨vx, rfl, Rx, b⟩
      have D : Below (World.heap u3 |>.size) u3 u4 := Below.next (by repeat (first | exact Below.refl _ _ | apply Below.drewN | apply Below.drew | apply Below.draws | apply below_lit)) b
      replace w2 := w2.below D
      replace F := F.below D
      replace B := Below.next B D
      clear b D
      obtain ⟨xb, xo, xc, ex, hxb, hxc, hxm⟩ := Rx.somewhere (by rw [encL_length, hLh.out]; omega)
      rw [encL_length, hLh.out] at ex hxc
      subst ex
      unfold maxLen at hxm
      have gw : IntKind.i64.wrap ((k : Int) + (m : Int)) = (k : Int) + (m : Int) := by rw [IntKind.wrap_i64]; omega
      obtain ⟨ab, ao, aa, ac, ea, hab, ca, ra⟩ := w2.at (i := 0) (by rw [hLh.out]; omega)
      subst ea
      rw [Nat.add_zero] at ca
      clear ra
      have i0 : (0 : Int) < (List.length z2 : Int) := by rw [hLh.out]; omega
      by_cases hm : m = 0
      · have hmb : ((m : Int) == 0) = true := by simp [hm]
        clear hm
        go_wp2
        go_ret
        exact ⟨rfl, Below.next B (by repeat (first | exact Below.refl _ _ | apply Below.drewN | apply Below.drew | apply Below.draws | apply below_lit))⟩
      · have hmb : ((m : Int) == 0) = false := by simp [hm]
        by_cases hb0 : by1 = 0
        · have hbb : (((by1.toNat : Nat) : Int) == 0) = true := by rw [eq_u8_zero]; exact decide_eq_true hb0
          clear hb0
          go_wp2
          go_ret
          exact ⟨rfl, Below.next B (by repeat (first | exact Below.refl _ _ | apply Below.drewN | apply Below.drew | apply Below.draws | apply below_lit))⟩
        · have hbb : (((by1.toNat : Nat) : Int) == 0) = false := by rw [eq_u8_zero]; exact decide_eq_false hb0
          by_cases hw0 : a3 < 0
          · skip
            go_wp2
            go_ret
            exact ⟨rfl, Below.next B (by repeat (first | exact Below.refl _ _ | apply Below.drewN | apply Below.drew | apply Below.draws | apply below_lit))⟩
          · have hm2 := hm
            by_cases hw1 : a3 ≥ (k : Int) + (m : Int)
            · skip
              go_wp2
              go_ret
              exact ⟨rfl, Below.next B (by repeat (first | exact Below.refl _ _ | apply Below.drewN | apply Below.drew | apply Below.draws | apply below_lit))⟩
            · have hm3 := hm
              by_cases hp0 : a4 < 0
              · skip
                go_wp2
                go_ret
                exact ⟨rfl, Below.next B (by repeat (first | exact Below.refl _ _ | apply Below.drewN | apply Below.drew | apply Below.draws | apply below_lit))⟩
              · have hm4 := hm
                by_cases hp1 : a4 ≥ ((ro z2 0).length : Int)
                · skip
                  go_wp2
                  go_ret
                  exact ⟨rfl, Below.next B (by repeat (first | exact Below.refl _ _ | apply Below.drewN | apply Below.drew | apply Below.draws | apply below_lit))⟩
                · obtain ⟨j, rfl⟩ := Int.eq_ofNat_of_zero_le (show 0 ≤ a3 by omega)
                  obtain ⟨n, rfl⟩ := Int.eq_ofNat_of_zero_le (show 0 ≤ a4 by omega)
                  have hjkm : j < k + m := by omega
                  have hn0 : n < (ro z2 0).length := by omega
                  clear hm2 hm3 hm4
                  have hXl : Hid ((encL m k (parF k) z2).length = k + m) := (by rw [encL_length, hLh.out] : (encL m k (parF k) z2).length = k + m)
                  have hnj : n < (ro (encL m k (parF k) z2) j).length := by rw [enc_len hE (by rw [hLh.out]; exact hjkm)]; exact hn0
                  have hnl : (ro (encL m k (parF k) z2) j).length ≤ 300 := (enc_small hE (by rw [hLh.out]; omega) S2).2 j
                  go_wp2_with fail
                  refine (rcop_any (Rx.below (by repeat (first | exact Below.refl _ _ | apply Below.drewN | apply Below.drew | apply Below.draws | apply below_lit))) (enc_small hE (by rw [hLh.out]; omega) S2)).mono ?_
                  rintro e v10 ⟨vo, rfl, Oo, b⟩
                  have D : Below (World.heap u4 |>.size) u4 v10 := Below.next (by repeat (first | exact Below.refl _ _ | apply Below.drewN | apply Below.drew | apply Below.draws | apply below_lit)) b
                  clear b ca
                  obtain ⟨G, C, g, c, eo, cG, cg, fg, hg1, hg2, hg3, hg4, hset⟩ := Oo.byte (i := j) (n := n) (by rw [hXl.out]; exact hjkm) hnj
                  rw [hXl.out] at eo
                  subst eo
                  have E := xor_u8 (co (ro (encL m k (parF k) z2) j) n) by1
                  have Ry := (hset (co (ro (encL m k (parF k) z2) j) n ^^^ by1)).rs
                  rw [UInt8.toNat_xor] at Ry
                  have hgv : (World.heap u4 |>.size) ≤ g := by simpa using hg1
                  replace D := D.setCell (p := ⟨g, n, none⟩) hgv (.int .u8 (((co (ro (encL m k (parF k) z2) j) n).toNat ^^^ by1.toNat : Nat) : Int))
                  have hjk1 : (j : Int) < (k : Int) + (m : Int) := by omega
                  have hjk2 : (j : Int) < ((k + m : Nat) : Int) := by omega
                  have hnj1 : (n : Int) < ((ro (encL m k (parF k) z2) j).length : Int) := by omega
                  replace w2 := w2.below D
                  replace F := F.below D
                  replace Rx := Rx.below D
                  replace B := Below.next B D
                  clear D Oo hset hg1 hgv
                  go_wp2
                  go_region
                  generalize World.setCell v10 ⟨g, n, none⟩ (.int .u8 (((co (ro (encL m k (parF k) z2) j) n).toNat ^^^ by1.toNat : Nat) : Int)) = v11 at *
                  clear cG cg fg E
                  have hF := single_fit hLh.out h1 h2 (show 0 < m by omega) hjkm hE hn0 hb0
                  have hFx : Hid _ := hF.1
                  have hFb : Hid _ := hF.2
                  clear hF
                  go_wp2_with fail
                  refine (fits_any (F.below (by repeat (first | exact Below.refl _ _ | apply Below.drewN | apply Below.drew | apply Below.draws | apply below_lit))) (Ry.below (by repeat (first | exact Below.refl _ _ | apply Below.drewN | apply Below.drew | apply Below.draws | apply below_lit))) (setL_small (by rw [hXl.out]; exact hjkm) (enc_small hE (by rw [hLh.out]; omega) S2))).mono ?_
                  rintro e u12 ⟨rfl, b⟩
                  rw [hFx.out, hFb.out]
                  have D : Below (World.heap v11 |>.size) v11 u12 := Below.next (by repeat (first | exact Below.refl _ _ | apply Below.drewN | apply Below.drew | apply Below.draws | apply below_lit)) b
                  replace w2 := w2.below D
                  replace F := F.below D
                  replace Rx := Rx.below D
                  replace Ry := Ry.below D
                  replace B := Below.next B D
                  clear b D
                  clear hFx hFb
                  by_cases hjk : j < k
                  · have hjk3 : ¬ (j : Int) ≥ (k : Int) := by omega
                    have eT : (setL (encL m k (parF k) z2) j n (co (ro (encL m k (parF k) z2) j) n ^^^ by1)).take k = setL z2 j n (co (ro z2 j) n ^^^ by1) := by rw [take_setL hjk (by rw [hXl.out]; omega), enc_take hLh.out, enc_row_lt (by rw [hLh.out]; exact hjk)]
                    have Rk := Ry.first (k := k) (by rw [setL_length, hXl.out]; omega)
                    rw [eT] at Rk
                    clear eT
                    have hC := Ry.capLe
                    rw [setL_length, hXl.out] at hC
                    unfold maxLen at hC
                    obtain ⟨hC1, hC2⟩ := hC
                    have hkC : (k : Int) ≤ (C : Int) := by omega
                    have hkC2 : k ≤ C := by omega
                    have hk0 : (0 : Int) ≤ (k : Int) := by omega
                    have gk : IntKind.i64.wrap (k : Int) = (k : Int) := by rw [IntKind.wrap_i64]; omega
                    go_wp2_with fail
                    refine (enc_ok (F.below (by repeat (first | exact Below.refl _ _ | apply Below.drewN | apply Below.drew | apply Below.draws | apply below_lit))) h1 h2 (Rk.below (by repeat (first | exact Below.refl _ _ | apply Below.drewN | apply Below.drew | apply Below.draws | apply below_lit))) (by rw [setL_length]; exact hLh.out) (setL_even (by rw [hLh.out]; exact hjk) hE) (setL_small (by rw [hLh.out]; exact hjk) S2) rfl rfl).mono ?_
                    rintro e u13 ⟨vz, rfl, Rz, b⟩
                    have D : Below (World.heap u12 |>.size) u12 u13 := Below.next (by repeat (first | exact Below.refl _ _ | apply Below.drewN | apply Below.drew | apply Below.draws | apply below_lit)) b
                    replace w2 := w2.below D
                    replace F := F.below D
                    replace Rx := Rx.below D
                    replace Ry := Ry.below D
                    replace Rk := Rk.below D
                    replace B := Below.next B D
                    clear b D
                    obtain ⟨zb, zo, zc, ez, hzb, hzc, hzm⟩ := Rz.somewhere (by rw [encL_length, setL_length, hLh.out]; omega)
                    rw [encL_length, setL_length, hLh.out] at ez hzc
                    subst ez
                    have hj2 : j < z2.length := by rw [hLh.out]; exact hjk
                    have lz : Hid (∀ T, T < k + m → (ro (encL m k (parF k) (setL z2 j n (co (ro z2 j) n ^^^ by1))) T).length = (ro z2 0).length) := fun T hT => by rw [enc_len (setL_even hj2 hE) (by rw [setL_length, hLh.out]; exact hT), setL_row hj2]
                    have lx : Hid (∀ T, T < k + m → (ro (encL m k (parF k) z2) T).length = (ro z2 0).length) := fun T hT => enc_len hE (by rw [hLh.out]; exact hT)
                    have hs0 : (ro z2 0).length ≤ 300 := S2.2 0
                    have hne : Hid (∀ r, r < m → co (ro (encL m k (parF k) (setL z2 j n (co (ro z2 j) n ^^^ by1))) (k + r)) n ≠ co (ro (encL m k (parF k) z2) (k + r)) n) := fun r hr => single_ne hLh.out h2 hr hjk hE hn0 hb0
                    have Rz2 : Hid _ := Rz
                    have Rx2 : Hid _ := Rx
                    have B2 : Hid _ := B
                    clear Rz Rx B Rk Ry F w2
                    go_wp2
                    go_loopw [23] (fun i wr => ∃ T r : Nat, Hid (T = k + r) ∧ r ≤ m ∧ i = .int .i64 (T : Int) ∧ ∃ nd, wr = World.drewN u13 nd) (fun i _ => k + m - (intOf i).toNat)
                    case atStart => exact ⟨k, 0, rfl, by omega, rfl, 0, rfl⟩
                    case round =>
                      obtain ⟨T, r, hT, hr, rfl, nd, rfl⟩ := hrel
                      by_cases hlt : r < m
                      · have hTk : T < k + m := by have := hT.out; omega
                        have hTi : (T : Int) < (k : Int) + (m : Int) := by omega
                        have hTj : (T : Int) < ((k + m : Nat) : Int) := by omega
                        obtain ⟨pa, pc, cz, rz⟩ := Rs.get Rz2.out (i := T) (by rw [encL_length, setL_length, hLh.out]; exact hTk)
                        obtain ⟨qa, qc, cx, rx⟩ := Rs.get Rx2.out (i := T) (by rw [encL_length, hLh.out]; exact hTk)
                        obtain ⟨pb, po, ep, _, dz⟩ := rz.byte (i := n) (by rw [lz.out T hTk]; exact hn0)
                        subst ep
                        obtain ⟨qb, qo, eq, _, dx⟩ := rx.byte (i := n) (by rw [lx.out T hTk]; exact hn0)
                        subst eq
                        rw [lz.out T hTk] at cz
                        rw [lx.out T hTk] at cx
                        have hn1 : (n : Int) < ((ro z2 0).length : Int) := by omega
                        have hne2 := hne.out r hlt
                        rw [← hT.out] at hne2
                        have hq : ((((co (ro (encL m k (parF k) (setL z2 j n (co (ro z2 j) n ^^^ by1))) T) n).toNat : Nat) : Int) == (((co (ro (encL m k (parF k) z2) T) n).toNat : Nat) : Int)) = false := by rw [eq_u8]; exact decide_eq_false hne2
                        clear hne2 rz rx
                        generalize (((co (ro (encL m k (parF k) (setL z2 j n (co (ro z2 j) n ^^^ by1))) T) n).toNat : Nat) : Int) = zz at *
                        generalize (((co (ro (encL m k (parF k) z2) T) n).toNat : Nat) : Int) = xx at *
                        go_wp2
                        go_quiet (fail)
                        go_wp2
                        go_roundw
                        case rel => exact ⟨T + 1, r + 1, (by have := hT.out; omega : T + 1 = k + (r + 1)), by omega, by go_num, _, rfl⟩
                        case measure => simp [intOf]; omega
                      · have hTi : ¬ (T : Int) < (k : Int) + (m : Int) := by have := hT.out; omega
                        go_wp2
                        go_ret
                        exact ⟨rfl, Below.next B2.out ((Below.refl _ _).drewN _)⟩
                  · have hjk3 : (j : Int) ≥ (k : Int) := by omega
                    go_wp2
                    go_ret
                    exact ⟨rfl, Below.next B (by repeat (first | exact Below.refl _ _ | apply Below.drewN | apply Below.drew | apply Below.draws | apply below_lit))⟩
    · have hb : (encX a0 a1 z2 != 0) = true := by simp [hx]
      go_wp2_with fail
      refine (enc_any (F.below (by repeat (first | exact Below.refl _ _ | apply Below.drewN | apply Below.drew | apply Below.draws | apply below_lit))) (w2.below (by repeat (first | exact Below.refl _ _ | apply Below.drewN | apply Below.drew | apply Below.draws | apply below_lit))) S2).mono ?_
      rintro e u4 ⟨vx, rfl, Rx, b⟩
      have D : Below (World.heap u3 |>.size) u3 u4 := Below.next (by repeat (first | exact Below.refl _ _ | apply Below.drewN | apply Below.drew | apply Below.draws | apply below_lit)) b
      replace w2 := w2.below D
      replace F := F.below D
      replace B := Below.next B D
      clear b D
      obtain ⟨xa, xc, rfl⟩ := Rx.form
      clear Rx
      generalize encX a0 a1 z2 = ex at *
      generalize (encR a0 a1 z2).length = nx at *
      clear hx
      go_wp2
      go_ret
      exact ⟨rfl, Below.next B (by repeat (first | exact Below.refl _ _ | apply Below.drewN | apply Below.drew | apply Below.draws | apply below_lit))⟩

/-! ### THE ROW's STEP: WRITTEN OUT: LEAVE IT -/
set_option maxRecDepth 100000 in
theorem lifted (os : Os) (started : os.Started) (H : Type) (enc : TypeId × Value → H) :
    ReturnsInHanded {} Try.checked os 8 .any (Rows.bulkSingleSpec.pre6 enc Try.prog Try.f8 Rows.bulkSingleRow.domain false) (Rows.bulkSingleSpec.post enc Try.prog Try.f8 false true false false) := by
  refine returnsInHanded_of_change (C := Try.checked) own started (by kernel_rfl) Try.func8
    (ChangeSpec.witness6 (enc := enc) (C := Try.checked) false ⟨#[], #[.int .i64 0, .int .i64 0, .slice none 0 0, .int .i64 0, .int .i64 0, .int .u8 0], []⟩ 8 (by kernel_rfl) (by kernel_rfl) (by kernel_rfl) (by kernel_rfl)) ?_
  intro W base args ds gs before hval0 hW hcnd _
  have hval : ∀ (j : Nat) t v, Try.f8.params[j]? = some t → args[j]? = some v → Value.okWide Try.prog W .any base t v := hval0
  have hW' := hW
  obtain ⟨p, q, hA0, hV, rfl, hfz, hnd⟩ := hW
  have hA : DataW.TrodAll enc Try.prog W 0 (fun _ => true) true Try.f8.params.toList args.toList ds p := hA0
  rw [Try.params8] at hA hval
  obtain ⟨v0, vs0, d0, ds0, p0, q0, hargs, rfl, rfl, h0, r0⟩ := trodAll_cons hA
  obtain ⟨v1, vs1, d1, ds1, p1, q1, rfl, rfl, rfl, h1, r1⟩ := trodAll_cons r0
  obtain ⟨v2, vs2, d2, ds2, p2, q2, rfl, rfl, rfl, h2, r2⟩ := trodAll_cons r1
  obtain ⟨v3, vs3, d3, ds3, p3, q3, rfl, rfl, rfl, h3, r3⟩ := trodAll_cons r2
  obtain ⟨v4, vs4, d4, ds4, p4, q4, rfl, rfl, rfl, h4, r4⟩ := trodAll_cons r3
  obtain ⟨v5, vs5, d5, ds5, p5, q5, rfl, rfl, rfl, h5, r5⟩ := trodAll_cons r4
  obtain ⟨rfl, rfl, rfl⟩ := trodAll_nil r5
  obtain rfl : args = #[v0, v1, v2, v3, v4, v5] := by cases args; simp_all
  obtain ⟨rfl, rfl⟩ := trodVars_none hV
  obtain ⟨a0, rfl, rfl, rfl, w0⟩ := open_int Try.underlying3 (hval 0 3 v0 rfl rfl) h0
  obtain ⟨a1, rfl, rfl, rfl, w1⟩ := open_int Try.underlying3 (hval 1 3 v1 rfl rfl) h1
  obtain ⟨a2, len2, cap2, rfl⟩ := okWide_slice Try.underlying23 (hval 2 23 v2 rfl rfl)
  have k2 := h2
  have lt2 : ∀ x ∈ p2, x.block < W.heap.size := by obtain ⟨m, hm⟩ := k2; exact DataW.trod_lt m _ _ _ hm
  obtain ⟨z2, w2⟩ : ∃ zs, Rs W (.slice a2 len2 cap2) zs := by
    obtain ⟨fuel, hf⟩ := h2
    rcases Go.Deep.open_int_rows Try.underlying23 Try.underlying35 Try.underlying5 (by kernel_rfl) (by kernel_rfl) hf with ⟨hcs, _⟩ | ⟨x, l, c, A, N, C, Z, hcs, _, hl, hm, _, hrows⟩
    · simp [Value.cells] at hcs
      obtain ⟨rfl, rfl, rfl⟩ := hcs
      exact ⟨[], rs_none⟩
    · simp [Value.cells] at hcs
      obtain ⟨rfl, rfl, rfl⟩ := hcs
      exact rs_rows hl hm hrows
  obtain ⟨a3, rfl, rfl, rfl, w3⟩ := open_int Try.underlying3 (hval 3 3 v3 rfl rfl) h3
  obtain ⟨a4, rfl, rfl, rfl, w4⟩ := open_int Try.underlying3 (hval 4 3 v4 rfl rfl) h4
  obtain ⟨a5, rfl, rfl, rfl, w5⟩ := open_int Try.underlying5 (hval 5 5 v5 rfl rfl) h5
  clear hA0 hval0
  refine (walk a0 a1 a2 len2 cap2 z2 a3 a4 a5 W w0 w1 w2 w3 w4 w5).mono fun e W' ⟨he, bel⟩ => ?_
  subst he
  exact ⟨_, rfl, _, _, _, [], _, [], hW', trodAll_mk1 (shut_bool Try.underlying4 _), (trodAll_cons_mk (shut_int Try.underlying3 w0) (trodAll_cons_mk (shut_int Try.underlying3 w1) (trodAll_cons_mk (Below.trod laidOut (by kernel_rfl) (of_decide_eq_true (by kernel_rfl)) k2 bel lt2) (trodAll_cons_mk (shut_int Try.underlying3 w3) (trodAll_cons_mk (shut_int Try.underlying3 w4) (trodAll_cons_mk (shut_int Try.underlying5 w5) trodAll_mk0)))))), rfl, bel.frame _, fun h => by cases h⟩

theorem over : Rows.bulkSingleRow.holds Try.pinned (OpenSpec.ofChange Rows.bulkSingleSpec) :=
  OpenClaim.holds_of_wide 8 Try.f8 rfl rfl rfl rfl rfl rfl rfl ⟨rfl, rfl, rfl, rfl, rfl⟩ rfl rfl rfl rfl rfl (by kernel_rfl) Try.func8 (by kernel_rfl)
    (of_decide_eq_true (by kernel_rfl)) (by unfold Func.isWrapper; first | (rw [if_pos (by decide +kernel)]; kernel_rfl) | (rw [if_neg (by decide +kernel)]; exact ⟨rfl, rfl⟩))
    (fun os started H enc _ => lifted os started H enc)

/-- ████ THE STATEMENT ████ -/
theorem proved : Rows.BulkSingleSaid := over
end Go.Proofs.Ytehphjapahdalaa.bulkSingle
namespace Go.Proofs.Ytehphjapahdalaa
theorem bulkSingle_holds : Rows.BulkSingleSaid := bulkSingle.proved
#print axioms bulkSingle_holds
end Go.Proofs.Ytehphjapahdalaa
