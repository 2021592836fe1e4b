/- PROVED: for all k, m, all slices data of byte slices, all slices has of bools and all byte slices junk the call EraseBack(k, m, data, has, junk) returns true, and its arguments read behind it as before; no conditions. -/
import Derived.Test.YtkjolopdpihigaaRows
import Derived.Test.YtkjolopdpihigaaTome10
import Derived.WalkKit
import Derived.ProofKit
import Derived.OpenShut
import Derived.ShutString
import Derived.ChangeOld
import Derived.Below
import Derived.Deep.Grids
import Derived.Deep.Matrix
namespace Go.Proofs.Ytkjolopdpihigaa.eraseBack
open Go.ChangeShapes Go.WideShapes Go.ChangeAt Go.RowKit
open Go.ChangeMaps (open_string shut_string)
set_option linter.unusedVariables false

theorem own : ownKnob Try.prog.godebug = none := by kernel_rfl
theorem laidOut : laidOutB Try.prog = true := by kernel_rfl

/-- WHAT THE WALK IS TOLD OF A SLICE OF INTEGERS THAT CAME IN: it is nil; or it leads to a row of 'cap' cells, the numbers 'zs' (the first 'len' are its elements, the rest its spare room), each fitting its kind. -/
def IsRow (k : IntKind) (w : World) (a : Option Addr) (len cap : Nat) (zs : List Int) : Prop :=
  (a = none ∧ len = 0 ∧ cap = 0 ∧ zs = []) ∨
  ∃ x, a = some x ∧ len ≤ cap ∧ cap ≤ maxLen ∧ zs.length = cap ∧ (∀ i, i < zs.length → w.cell? (x.add i) = some (.int k (zs.getD i 0))) ∧ ∀ n ∈ zs, (Lit.int k n).wf = true

open Gf
set_option linter.unusedSimpArgs false
set_option maxRecDepth 100000 in
set_option maxHeartbeats 4000000 in
theorem walk (a0 : Int) (a1 : Int) (a2 : Option Addr) (len2 cap2 : Nat) (z2 : List (List UInt8)) (a3 : Option Addr) (len3 cap3 : Nat) (z3 : List Bool) (a4 : Option Addr) (len4 cap4 : Nat) (z4 : List Int) (w : World) (w0 : (Lit.int .i64 a0).wf = true) (w1 : (Lit.int .i64 a1).wf = true) (w2 : Rs w (.slice a2 len2 cap2) z2) (w3 : RdB w (.slice a3 len3 cap3) z3) (w4 : IsRow .u8 w a4 len4 cap4 z4) :
    Calls Try.prog 5 #[.int .i64 a0, .int .i64 a1, .slice a2 len2 cap2, .slice a3 len3 cap3, .slice a4 len4 cap4] w fun e w' => e = .returned (.bool true) ∧ Below w.heap.size w w' := by
  obtain ⟨q, rfl, w4⟩ := rd_row w4
  obtain rfl := w2.lenEq
  obtain rfl := w3.lenEq
  go_enter Try.func5, Try.ntmps5
  have B : Below w.heap.size w w := Below.refl _ _
  go_wp2_with fail
  refine (awake7_any _).mono ?_
  rintro e u1 ⟨rfl, b⟩
  have D : Below (World.heap w |>.size) w u1 := Below.next (by repeat (first | exact Below.refl _ _ | apply Below.drewN | apply Below.drew | apply Below.draws | apply below_lit)) b
  replace w2 := w2.below D
  replace w3 := w3.below D
  replace w4 := w4.below D
  replace B := Below.next B D
  clear b D
  go_wp2_with fail
  refine (new_any _).mono ?_
  rintro e u2 ⟨rfl, F, hO⟩
  have b := hO.below
  clear hO
  have D : Below (World.heap u1 |>.size) u1 u2 := Below.next (by repeat (first | exact Below.refl _ _ | apply Below.drewN | apply Below.drew | apply Below.draws | apply below_lit)) b
  replace w2 := w2.below D
  replace w3 := w3.below D
  replace w4 := w4.below D
  replace B := Below.next B D
  clear b D
  go_wp2_with fail
  refine (few_any a0 a1 (w2.below (by repeat (first | exact Below.refl _ _ | apply Below.drewN | apply Below.drew | apply Below.draws | apply below_lit)))).mono ?_
  rintro e u3 ⟨t0, rfl, hS0, b⟩
  have D : Below (World.heap u2 |>.size) u2 u3 := Below.next (by repeat (first | exact Below.refl _ _ | apply Below.drewN | apply Below.drew | apply Below.draws | apply below_lit)) b
  replace w2 := w2.below D
  replace w3 := w3.below D
  replace w4 := w4.below D
  replace F := F.below D
  replace B := Below.next B D
  clear b D
  cases t0
  · go_wp2
    go_ret
    exact ⟨rfl, Below.next B (by repeat (first | exact Below.refl _ _ | apply Below.drewN | apply Below.drew | apply Below.draws | apply below_lit))⟩
  · have S2 := hS0 rfl
    clear hS0
    by_cases hx : encX a0 a1 z2 = 0
    · obtain ⟨k, m, rfl, rfl, h1, h2, hL, hE, _⟩ := enc_zero hx
      clear hx
      have hLh : Hid _ := hL
      have hEh : Hid _ := hE
      clear hL hE
      obtain ⟨s, hs⟩ : ∃ s, Hid (s = k + m) := ⟨_, rfl⟩
      have hsl := hs.out
      have g1 : (k : Int) + (m : Int) = (s : Int) := by omega
      have gw : IntKind.i64.wrap (s : Int) = (s : Int) := by rw [IntKind.wrap_i64]; omega
      clear hsl
      go_wp2_with fail
      refine (enc_ok (F.below (by repeat (first | exact Below.refl _ _ | apply Below.drewN | apply Below.drew | apply Below.draws | apply below_lit))) h1 h2 (w2.below (by repeat (first | exact Below.refl _ _ | apply Below.drewN | apply Below.drew | apply Below.draws | apply below_lit))) hLh.out hEh.out S2 rfl rfl).mono ?_
      rintro e u4 ⟨vx, rfl, Rx, b⟩
      have D : Below (World.heap u3 |>.size) u3 u4 := Below.next (by repeat (first | exact Below.refl _ _ | apply Below.drewN | apply Below.drew | apply Below.draws | apply below_lit)) b
      replace w2 := w2.below D
      replace w3 := w3.below D
      replace w4 := w4.below D
      replace F := F.below D
      replace B := Below.next B D
      clear b D
      obtain ⟨X, hX⟩ : ∃ X, Hid (X = encL m k (parF k) z2) := ⟨_, rfl⟩
      rw [← hX.out] at Rx
      have HLx : Hid (X.length = s) := (by rw [hX.out, encL_length, hLh.out, hs.out] : X.length = s)
      have hks : k ≤ s := by rw [hs.out]; omega
      have hss : s ≤ 256 := by rw [hs.out]; exact h2
      have HSx : Small X := by rw [hX.out]; exact enc_small hEh.out (by rw [hLh.out]; omega) S2
      obtain ⟨xa, xc, ex⟩ := Rx.form
      rw [HLx.out] at ex
      subst ex
      by_cases hh : z3.length = s
      · have q1 : ((z3.length : Int) != (s : Int)) = false := by simp [hh]
        have hhh : Hid _ := hh
        have hz3 : z3.length ≤ s := by omega
        have hz4 : s ≤ z3.length := by omega
        clear hh
        by_cases h20 : (s : Int) > 20
        · skip
          go_wp2
          go_ret
          exact ⟨rfl, Below.next B (by repeat (first | exact Below.refl _ _ | apply Below.drewN | apply Below.drew | apply Below.draws | apply below_lit))⟩
        · have hlen : ¬ (s : Int) > 20 := h20
          go_wp2_with fail
          refine (rcop_any (Rx.below (by repeat (first | exact Below.refl _ _ | apply Below.drewN | apply Below.drew | apply Below.draws | apply below_lit))) HSx).mono ?_
          rintro e v9 ⟨vo, rfl, Oo, b⟩
          have D : Below (World.heap u4 |>.size) u4 v9 := Below.next (by repeat (first | exact Below.refl _ _ | apply Below.drewN | apply Below.drew | apply Below.draws | apply below_lit)) b
          clear b
          obtain ⟨G, C, eo, hG1, hG2⟩ := Oo.somewhere (by rw [HLx.out]; omega)
          rw [HLx.out] at eo
          subst eo
          have hGv : (World.heap u4 |>.size) ≤ G := by simpa using hG1
          have hC := Oo.rs.capLe
          rw [HLx.out] at hC
          have HS0 : Hid (OutS v9 G (lostP X z3 q 0)) := (by rw [lostP_zero]; exact Oo.outS : OutS v9 G (lostP X z3 q 0))
          have hap : Hid (Apart G (.slice a4 q.length cap4)) := w4.apart hGv
          have D0 : Hid _ := D
          clear D Oo hG1 q1 h20 hlen
          have hl3 : z3.length ≤ 256 := by omega
          go_wp2
          go_loopw [17] (fun i wr => ∃ r : Nat, r ≤ s ∧ i = .int .i64 (r : Int) ∧ OutS wr G (lostP X z3 q r) ∧ Below (World.heap u4 |>.size) u4 wr) (fun i _ => s - (intOf i).toNat)
          case atStart => exact ⟨0, by omega, rfl, HS0.out, D0.out⟩
          case round =>
            obtain ⟨r, hr, rfl, hO, hB⟩ := hrel
            clear HS0 D0
            by_cases hlt : r < s
            · have hlt1 : (r : Int) < (s : Int) := by omega
              have hlt2 : (r : Int) < (List.length z3 : Int) := by omega
              obtain ⟨hb1, ho1, eh, _, ch⟩ := (w3.below hB).at (i := r) (by omega)
              subst eh
              cases e : hb z3 r
              · rw [e] at ch
                obtain ⟨x0, cx, _, _⟩ := hO.cell r (by rw [lostP_length, HLx.out]; exact hlt)
                have fx := hO.free r
                have HN : Hid (OutS (World.setCell wr ⟨G, r, none⟩ (.slice a4 q.length cap4)) G (lostP X z3 q (r + 1))) := (by rw [← lostP_step e (by rw [HLx.out]; exact hlt)]; exact hO.put (by rw [lostP_length, HLx.out]; exact hlt) (w4.below hB) hap.out : OutS (World.setCell wr ⟨G, r, none⟩ (.slice a4 q.length cap4)) G (lostP X z3 q (r + 1)))
                have HBn : Hid (Below (World.heap u4 |>.size) u4 (World.setCell wr ⟨G, r, none⟩ (.slice a4 q.length cap4))) := hB.setCell (p := ⟨G, r, none⟩) hGv _
                clear hO hB e
                go_wp2
                go_roundw
                case rel => exact ⟨r + 1, by omega, by go_num, HN.out, HBn.out⟩
                case measure => simp [intOf]; omega
              · rw [e] at ch
                have HN : Hid (OutS wr G (lostP X z3 q (r + 1))) := (by rw [lostP_keep e]; exact hO : OutS wr G (lostP X z3 q (r + 1)))
                have HBn : Hid _ := hB
                clear hO hB e
                go_wp2
                go_roundw
                case rel => exact ⟨r + 1, by omega, by go_num, HN.out, HBn.out⟩
                case measure => simp [intOf]; omega
            · have hge1 : ¬ (r : Int) < (s : Int) := by omega
              have er : r = s := by omega
              subst er
              have Rl := hO.rs (C := C) (by rw [lostP_length, HLx.out]; exact hC.1) hC.2
              rw [lostP_length, HLx.out] at Rl
              replace w2 := w2.below hB
              replace w3 := w3.below hB
              replace w4 := w4.below hB
              replace F := F.below hB
              replace Rx := Rx.below hB
              replace B := Below.next B hB
              clear hO hB
              by_cases hf : (thr z3 z3.length).length < k
              · have E := decX_few (k := (k : Int)) (m := (m : Int)) (okC_mk h1 h2) (lost_ok (j := q) (i := r) hLh.out hEh.out (by rw [hhh.out, hs.out])) (by omega)
                rw [← hX.out] at E
                obtain ⟨E1, E2⟩ := E
                go_wp2_with fail
                refine (edec_any (L := lostP X z3 q r) (F.below (by repeat (first | exact Below.refl _ _ | apply Below.drewN | apply Below.drew | apply Below.draws | apply below_lit))) (w3.below (by repeat (first | exact Below.refl _ _ | apply Below.drewN | apply Below.drew | apply Below.draws | apply below_lit))) (Rl.below (by repeat (first | exact Below.refl _ _ | apply Below.drewN | apply Below.drew | apply Below.draws | apply below_lit))) (by rw [hX.out]; exact lost_small hLh.out hEh.out S2 h2 (by rw [hhh.out, hs.out]))).mono ?_
                rintro e u21 ⟨_, vy, rfl, Ry, b⟩
                rw [E1]
                rw [E2] at Ry
                have D : Below (World.heap wr |>.size) wr u21 := Below.next (by repeat (first | exact Below.refl _ _ | apply Below.drewN | apply Below.drew | apply Below.draws | apply below_lit)) b
                replace w2 := w2.below D
                replace w3 := w3.below D
                replace w4 := w4.below D
                replace F := F.below D
                replace Rx := Rx.below D
                replace Rl := Rl.below D
                replace B := Below.next B D
                clear b D
                obtain ⟨ya, yc, rfl⟩ := Ry.form
                clear Ry E1 E2
                go_wp2_with fail
                refine (count_b (w3.below (by repeat (first | exact Below.refl _ _ | apply Below.drewN | apply Below.drew | apply Below.draws | apply below_lit)))).mono ?_
                rintro e u22 ⟨rfl, b⟩
                have D : Below (World.heap u21 |>.size) u21 u22 := Below.next (by repeat (first | exact Below.refl _ _ | apply Below.drewN | apply Below.drew | apply Below.draws | apply below_lit)) b
                replace w2 := w2.below D
                replace w3 := w3.below D
                replace w4 := w4.below D
                replace F := F.below D
                replace Rx := Rx.below D
                replace Rl := Rl.below D
                replace B := Below.next B D
                clear b D
                have hf1 : (((thr z3 z3.length).length : Nat) : Int) < (k : Int) := by omega
                go_wp2
                go_ret
                exact ⟨rfl, Below.next B (by repeat (first | exact Below.refl _ _ | apply Below.drewN | apply Below.drew | apply Below.draws | apply below_lit))⟩
              · have E := decX_ok (k := k) (m := m) (okC_mk h1 h2) (lost_ok (j := q) (i := r) hLh.out hEh.out (by rw [hhh.out, hs.out])) (by omega)
                rw [← hX.out] at E
                have E1 := E.1
                clear E
                go_wp2_with fail
                refine (edec_any (L := lostP X z3 q r) (F.below (by repeat (first | exact Below.refl _ _ | apply Below.drewN | apply Below.drew | apply Below.draws | apply below_lit))) (w3.below (by repeat (first | exact Below.refl _ _ | apply Below.drewN | apply Below.drew | apply Below.draws | apply below_lit))) (Rl.below (by repeat (first | exact Below.refl _ _ | apply Below.drewN | apply Below.drew | apply Below.draws | apply below_lit))) (by rw [hX.out]; exact lost_small hLh.out hEh.out S2 h2 (by rw [hhh.out, hs.out]))).mono ?_
                rintro e u21 ⟨hV, vy, rfl, Ry, b⟩
                have hV1 := hV E1 k rfl
                clear hV
                have E2 := lost_back (j := q) (i := r) h1 h2 hLh.out hEh.out (by rw [hhh.out, hs.out]) (by omega) hV1
                rw [← hX.out] at E2
                rw [E1]
                rw [E2] at Ry
                have D : Below (World.heap wr |>.size) wr u21 := Below.next (by repeat (first | exact Below.refl _ _ | apply Below.drewN | apply Below.drew | apply Below.draws | apply below_lit)) b
                replace w2 := w2.below D
                replace w3 := w3.below D
                replace w4 := w4.below D
                replace F := F.below D
                replace Rx := Rx.below D
                replace Rl := Rl.below D
                replace B := Below.next B D
                clear b D
                obtain ⟨ya, yc, ey⟩ := Ry.form
                rw [HLx.out] at ey
                subst ey
                clear E1 E2 hV1
                go_wp2_with fail
                refine (count_b (w3.below (by repeat (first | exact Below.refl _ _ | apply Below.drewN | apply Below.drew | apply Below.draws | apply below_lit)))).mono ?_
                rintro e u22 ⟨rfl, b⟩
                have D : Below (World.heap u21 |>.size) u21 u22 := Below.next (by repeat (first | exact Below.refl _ _ | apply Below.drewN | apply Below.drew | apply Below.draws | apply below_lit)) b
                replace w2 := w2.below D
                replace w3 := w3.below D
                replace w4 := w4.below D
                replace F := F.below D
                replace Rx := Rx.below D
                replace Rl := Rl.below D
                replace Ry := Ry.below D
                replace B := Below.next B D
                clear b D
                have hf1 : ¬ (((thr z3 z3.length).length : Nat) : Int) < (k : Int) := by omega
                go_wp2_with fail
                refine (same6_t (Rx.below (by repeat (first | exact Below.refl _ _ | apply Below.drewN | apply Below.drew | apply Below.draws | apply below_lit))) (Ry.below (by repeat (first | exact Below.refl _ _ | apply Below.drewN | apply Below.drew | apply Below.draws | apply below_lit))) rfl).mono ?_
                rintro e u23 ⟨rfl, b⟩
                have D : Below (World.heap u22 |>.size) u22 u23 := Below.next (by repeat (first | exact Below.refl _ _ | apply Below.drewN | apply Below.drew | apply Below.draws | apply below_lit)) b
                replace w2 := w2.below D
                replace w3 := w3.below D
                replace w4 := w4.below D
                replace F := F.below D
                replace Rx := Rx.below D
                replace Rl := Rl.below D
                replace Ry := Ry.below D
                replace B := Below.next B D
                clear b D
                go_wp2
                go_ret
                exact ⟨rfl, Below.next B (by repeat (first | exact Below.refl _ _ | apply Below.drewN | apply Below.drew | apply Below.draws | apply below_lit))⟩
      · have q1 : ((z3.length : Int) != (s : Int)) = true := by simp; omega
        clear hh
        go_wp2
        go_ret
        exact ⟨rfl, Below.next B (by repeat (first | exact Below.refl _ _ | apply Below.drewN | apply Below.drew | apply Below.draws | apply below_lit))⟩
    · have hb0 : (encX a0 a1 z2 != 0) = true := by simp [hx]
      go_wp2_with fail
      refine (enc_any (F.below (by repeat (first | exact Below.refl _ _ | apply Below.drewN | apply Below.drew | apply Below.draws | apply below_lit))) (w2.below (by repeat (first | exact Below.refl _ _ | apply Below.drewN | apply Below.drew | apply Below.draws | apply below_lit))) S2).mono ?_
      rintro e u4 ⟨vx, rfl, Rx, b⟩
      have D : Below (World.heap u3 |>.size) u3 u4 := Below.next (by repeat (first | exact Below.refl _ _ | apply Below.drewN | apply Below.drew | apply Below.draws | apply below_lit)) b
      replace w2 := w2.below D
      replace w3 := w3.below D
      replace w4 := w4.below D
      replace F := F.below D
      replace B := Below.next B D
      clear b D
      obtain ⟨xa, xc, rfl⟩ := Rx.form
      clear Rx
      generalize encX a0 a1 z2 = ex at *
      generalize (encR a0 a1 z2).length = nx at *
      clear hx
      go_wp2
      go_ret
      exact ⟨rfl, Below.next B (by repeat (first | exact Below.refl _ _ | apply Below.drewN | apply Below.drew | apply Below.draws | apply below_lit))⟩

/-! ### THE ROW's STEP: WRITTEN OUT: LEAVE IT -/
set_option maxRecDepth 100000 in
theorem lifted (os : Os) (started : os.Started) (H : Type) (enc : TypeId × Value → H) :
    ReturnsInHanded {} Try.checked os 5 .any (Rows.eraseBackSpec.pre6 enc Try.prog Try.f5 Rows.eraseBackRow.domain false) (Rows.eraseBackSpec.post enc Try.prog Try.f5 false true false false) := by
  refine returnsInHanded_of_change (C := Try.checked) own started (by kernel_rfl) Try.func5
    (ChangeSpec.witness6 (enc := enc) (C := Try.checked) false ⟨#[], #[.int .i64 0, .int .i64 0, .slice none 0 0, .slice none 0 0, .slice none 0 0], []⟩ 8 (by kernel_rfl) (by kernel_rfl) (by kernel_rfl) (by kernel_rfl)) ?_
  intro W base args ds gs before hval0 hW hcnd _
  have hval : ∀ (j : Nat) t v, Try.f5.params[j]? = some t → args[j]? = some v → Value.okWide Try.prog W .any base t v := hval0
  have hW' := hW
  obtain ⟨p, q, hA0, hV, rfl, hfz, hnd⟩ := hW
  have hA : DataW.TrodAll enc Try.prog W 0 (fun _ => true) true Try.f5.params.toList args.toList ds p := hA0
  rw [Try.params5] at hA hval
  obtain ⟨v0, vs0, d0, ds0, p0, q0, hargs, rfl, rfl, h0, r0⟩ := trodAll_cons hA
  obtain ⟨v1, vs1, d1, ds1, p1, q1, rfl, rfl, rfl, h1, r1⟩ := trodAll_cons r0
  obtain ⟨v2, vs2, d2, ds2, p2, q2, rfl, rfl, rfl, h2, r2⟩ := trodAll_cons r1
  obtain ⟨v3, vs3, d3, ds3, p3, q3, rfl, rfl, rfl, h3, r3⟩ := trodAll_cons r2
  obtain ⟨v4, vs4, d4, ds4, p4, q4, rfl, rfl, rfl, h4, r4⟩ := trodAll_cons r3
  obtain ⟨rfl, rfl, rfl⟩ := trodAll_nil r4
  obtain rfl : args = #[v0, v1, v2, v3, v4] := by cases args; simp_all
  obtain ⟨rfl, rfl⟩ := trodVars_none hV
  obtain ⟨a0, rfl, rfl, rfl, w0⟩ := open_int Try.underlying3 (hval 0 3 v0 rfl rfl) h0
  obtain ⟨a1, rfl, rfl, rfl, w1⟩ := open_int Try.underlying3 (hval 1 3 v1 rfl rfl) h1
  obtain ⟨a2, len2, cap2, rfl⟩ := okWide_slice Try.underlying24 (hval 2 24 v2 rfl rfl)
  have k2 := h2
  have lt2 : ∀ x ∈ p2, x.block < W.heap.size := by obtain ⟨m, hm⟩ := k2; exact DataW.trod_lt m _ _ _ hm
  obtain ⟨z2, w2⟩ : ∃ zs, Rs W (.slice a2 len2 cap2) zs := by
    obtain ⟨fuel, hf⟩ := h2
    rcases Go.Deep.open_int_rows Try.underlying24 Try.underlying34 Try.underlying5 (by kernel_rfl) (by kernel_rfl) hf with ⟨hcs, _⟩ | ⟨x, l, c, A, N, C, Z, hcs, _, hl, hm, _, hrows⟩
    · simp [Value.cells] at hcs
      obtain ⟨rfl, rfl, rfl⟩ := hcs
      exact ⟨[], rs_none⟩
    · simp [Value.cells] at hcs
      obtain ⟨rfl, rfl, rfl⟩ := hcs
      exact rs_rows hl hm hrows
  obtain ⟨a3, len3, cap3, rfl⟩ := okWide_slice Try.underlying23 (hval 3 23 v3 rfl rfl)
  have k3 := h3
  have lt3 : ∀ x ∈ p3, x.block < W.heap.size := by obtain ⟨m, hm⟩ := k3; exact DataW.trod_lt m _ _ _ hm
  obtain ⟨z3, w3⟩ : ∃ zs, RdB W (.slice a3 len3 cap3) zs := by
    obtain ⟨fuel, hf⟩ := h3
    rcases Go.Deep.open_bools Try.underlying23 Try.underlying4 (by kernel_rfl) hf with ⟨hcs, _⟩ | ⟨x, l, c, B, hcs, _, hl, hm, _, hcell⟩
    · simp [Value.cells] at hcs
      obtain ⟨rfl, rfl, rfl⟩ := hcs
      exact ⟨[], rdB_none⟩
    · simp [Value.cells] at hcs
      obtain ⟨rfl, rfl, rfl⟩ := hcs
      exact rdB_row hl hm hcell
  obtain ⟨a4, len4, cap4, rfl⟩ := okWide_slice Try.underlying34 (hval 4 34 v4 rfl rfl)
  have k4 := h4
  have lt4 : ∀ x ∈ p4, x.block < W.heap.size := by obtain ⟨m, hm⟩ := k4; exact DataW.trod_lt m _ _ _ hm
  obtain ⟨z4, w4⟩ : ∃ zs, IsRow .u8 W a4 len4 cap4 zs := by
    obtain ⟨fuel, hf⟩ := h4
    rcases open_ints Try.underlying34 Try.underlying5 (by kernel_rfl) hf with ⟨hcs, _⟩ | ⟨x, l, c, zs, hcs, _, hl, hm, hz, _, hcell, hwz⟩
    · simp [Value.cells] at hcs
      obtain ⟨rfl, rfl, rfl⟩ := hcs
      exact ⟨[], .inl ⟨rfl, rfl, rfl, rfl⟩⟩
    · simp [Value.cells] at hcs
      obtain ⟨rfl, rfl, rfl⟩ := hcs
      exact ⟨zs, .inr ⟨_, rfl, hl, hm, by simpa using hz, hcell, hwz⟩⟩
  clear hA0 hval0
  refine (walk a0 a1 a2 len2 cap2 z2 a3 len3 cap3 z3 a4 len4 cap4 z4 W w0 w1 w2 w3 w4).mono fun e W' ⟨he, bel⟩ => ?_
  subst he
  exact ⟨_, rfl, _, _, _, [], _, [], hW', trodAll_mk1 (shut_bool Try.underlying4 _), (trodAll_cons_mk (shut_int Try.underlying3 w0) (trodAll_cons_mk (shut_int Try.underlying3 w1) (trodAll_cons_mk (Below.trod laidOut (by kernel_rfl) (of_decide_eq_true (by kernel_rfl)) k2 bel lt2) (trodAll_cons_mk (Below.trod laidOut (by kernel_rfl) (of_decide_eq_true (by kernel_rfl)) k3 bel lt3) (trodAll_cons_mk (Below.trod laidOut (by kernel_rfl) (of_decide_eq_true (by kernel_rfl)) k4 bel lt4) trodAll_mk0))))), rfl, bel.frame _, fun h => by cases h⟩

theorem over : Rows.eraseBackRow.holds Try.pinned (OpenSpec.ofChange Rows.eraseBackSpec) :=
  OpenClaim.holds_of_wide 5 Try.f5 rfl rfl rfl rfl rfl rfl rfl ⟨rfl, rfl, rfl, rfl, rfl⟩ rfl rfl rfl rfl rfl (by kernel_rfl) Try.func5 (by kernel_rfl)
    (of_decide_eq_true (by kernel_rfl)) (by unfold Func.isWrapper; first | (rw [if_pos (by decide +kernel)]; kernel_rfl) | (rw [if_neg (by decide +kernel)]; exact ⟨rfl, rfl⟩))
    (fun os started H enc _ => lifted os started H enc)

/-- ████ THE STATEMENT ████ -/
theorem proved : Rows.EraseBackSaid := over
end Go.Proofs.Ytkjolopdpihigaa.eraseBack
namespace Go.Proofs.Ytkjolopdpihigaa
theorem eraseBack_holds : Rows.EraseBackSaid := eraseBack.proved
#print axioms eraseBack_holds
end Go.Proofs.Ytkjolopdpihigaa
