/- PROVED: for all k, m, j, all slices data of byte slices and all byte slices next the call BulkChanges(k, m, data, j, next) returns true, and its arguments read behind it as before; no conditions. -/
import Derived.Test.YtehphjapahdalaaRows
import Derived.Test.YtehphjapahdalaaBkLaw
import Derived.WalkKit
import Derived.ProofKit
import Derived.OpenShut
import Derived.ShutString
import Derived.ChangeOld
import Derived.Below
import Derived.Deep.Matrix
namespace Go.Proofs.Ytehphjapahdalaa.bulkChanges
open Go.ChangeShapes Go.WideShapes Go.ChangeAt Go.RowKit
open Go.ChangeMaps (open_string shut_string)
set_option linter.unusedVariables false

theorem own : ownKnob Try.prog.godebug = none := by kernel_rfl
theorem laidOut : laidOutB Try.prog = true := by kernel_rfl

/-- WHAT THE WALK IS TOLD OF A SLICE OF INTEGERS THAT CAME IN: it is nil; or it leads to a row of 'cap' cells, the numbers 'zs' (the first 'len' are its elements, the rest its spare room), each fitting its kind. -/
def IsRow (k : IntKind) (w : World) (a : Option Addr) (len cap : Nat) (zs : List Int) : Prop :=
  (a = none ∧ len = 0 ∧ cap = 0 ∧ zs = []) ∨
  ∃ x, a = some x ∧ len ≤ cap ∧ cap ≤ maxLen ∧ zs.length = cap ∧ (∀ i, i < zs.length → w.cell? (x.add i) = some (.int k (zs.getD i 0))) ∧ ∀ n ∈ zs, (Lit.int k n).wf = true

open Gf
set_option linter.unusedSimpArgs false
set_option maxRecDepth 100000 in
set_option maxHeartbeats 2000000 in
theorem walk (a0 : Int) (a1 : Int) (a2 : Option Addr) (len2 cap2 : Nat) (z2 : List (List UInt8)) (a3 : Int) (a4 : Option Addr) (len4 cap4 : Nat) (z4 : List Int) (w : World) (w0 : (Lit.int .i64 a0).wf = true) (w1 : (Lit.int .i64 a1).wf = true) (w2 : Rs w (.slice a2 len2 cap2) z2) (w3 : (Lit.int .i64 a3).wf = true) (w4 : IsRow .u8 w a4 len4 cap4 z4) :
    Calls Try.prog 7 #[.int .i64 a0, .int .i64 a1, .slice a2 len2 cap2, .int .i64 a3, .slice a4 len4 cap4] w fun e w' => e = .returned (.bool true) ∧ Below w.heap.size w w' := by
  obtain ⟨q, rfl, w4⟩ := rd_row w4
  obtain rfl := w2.lenEq
  go_enter Try.func7, Try.ntmps7
  have B : Below w.heap.size w w := Below.refl _ _
  go_wp2_with fail
  refine (awake6_any _).mono ?_
  rintro e u1 ⟨rfl, b⟩
  have D : Below (World.heap w |>.size) w u1 := Below.next (by repeat (first | exact Below.refl _ _ | apply Below.drewN | apply Below.drew | apply Below.draws | apply below_lit)) b
  replace w2 := w2.below D
  replace w4 := w4.below D
  replace B := Below.next B D
  clear b D
  go_wp2_with fail
  refine (new_any _).mono ?_
  rintro e u2 ⟨rfl, F, hO⟩
  have b := hO.below
  clear hO
  have D : Below (World.heap u1 |>.size) u1 u2 := Below.next (by repeat (first | exact Below.refl _ _ | apply Below.drewN | apply Below.drew | apply Below.draws | apply below_lit)) b
  replace w2 := w2.below D
  replace w4 := w4.below D
  replace B := Below.next B D
  clear b D
  go_wp2_with fail
  refine (few_any a0 a1 (w2.below (by repeat (first | exact Below.refl _ _ | apply Below.drewN | apply Below.drew | apply Below.draws | apply below_lit)))).mono ?_
  rintro e u3 ⟨t0, rfl, hS0, b⟩
  have D : Below (World.heap u2 |>.size) u2 u3 := Below.next (by repeat (first | exact Below.refl _ _ | apply Below.drewN | apply Below.drew | apply Below.draws | apply below_lit)) b
  replace w2 := w2.below D
  replace w4 := w4.below D
  replace F := F.below D
  replace B := Below.next B D
  clear b D
  cases t0
  · go_wp2
    go_ret
    exact ⟨rfl, Below.next B (by repeat (first | exact Below.refl _ _ | apply Below.drewN | apply Below.drew | apply Below.draws | apply below_lit))⟩
  · have S2 := hS0 rfl
    clear hS0
    by_cases hj0 : a3 < 0
    · go_wp2
      go_ret
      exact ⟨rfl, Below.next B (by repeat (first | exact Below.refl _ _ | apply Below.drewN | apply Below.drew | apply Below.draws | apply below_lit))⟩
    · by_cases hj1 : a3 ≥ (z2.length : Int)
      · go_wp2
        go_ret
        exact ⟨rfl, Below.next B (by repeat (first | exact Below.refl _ _ | apply Below.drewN | apply Below.drew | apply Below.draws | apply below_lit))⟩
      · obtain ⟨j, rfl⟩ := Int.eq_ofNat_of_zero_le (show 0 ≤ a3 by omega)
        have hjl : j < z2.length := by omega
        obtain ⟨ab, ao, aa, ac, ea, hab, ca, ra⟩ := w2.at (i := 0) (by omega)
        subst ea
        rw [Nat.add_zero] at ca
        clear ra
        have i0 : (0 : Int) < (List.length z2 : Int) := by omega
        by_cases hl : q.length = (ro z2 0).length
        · have hn : ((q.length : Int) != ((ro z2 0).length : Int)) = false := by simp [hl]
          have hlh : Hid _ := hl
          clear hl
          by_cases hx : encX a0 a1 z2 = 0
          · obtain ⟨k, m, rfl, rfl, h1, h2, hL, hE, _⟩ := enc_zero hx
            clear hx
            have hLh : Hid _ := hL
            have hjk : j < k := by omega
            clear hL
            go_wp2_with fail
            refine (enc_ok (F.below (by repeat (first | exact Below.refl _ _ | apply Below.drewN | apply Below.drew | apply Below.draws | apply below_lit))) h1 h2 (w2.below (by repeat (first | exact Below.refl _ _ | apply Below.drewN | apply Below.drew | apply Below.draws | apply below_lit))) hLh.out hE S2 rfl rfl).mono ?_
            rintro e u4 ⟨vx, rfl, Rx, b⟩
            have D : Below (World.heap u3 |>.size) u3 u4 := Below.next (by repeat (first | exact Below.refl _ _ | apply Below.drewN | apply Below.drew | apply Below.draws | apply below_lit)) b
            replace w2 := w2.below D
            replace w4 := w4.below D
            replace F := F.below D
            replace B := Below.next B D
            clear b D
            obtain ⟨xb, xo, xc, ex, hxb, hxc, hxm⟩ := Rx.somewhere (by rw [encL_length, hLh.out]; omega)
            rw [encL_length, hLh.out] at ex hxc
            subst ex
            unfold maxLen at hxm
            clear hn ca
            have gw : IntKind.i64.wrap ((k : Int) + (m : Int)) = (k : Int) + (m : Int) := by rw [IntKind.wrap_i64]; omega
            have gk : IntKind.i64.wrap (k : Int) = (k : Int) := by rw [IntKind.wrap_i64]; omega
            have hkc : (k : Int) ≤ ((k + m : Nat) : Int) := by omega
            have hkc2 : k ≤ k + m := by omega
            have hsub : k + m - k = m := by omega
            have hkc3 : (k : Int) ≤ (k : Int) + (m : Int) := by omega
            have hk0 : (0 : Int) ≤ (k : Int) := by omega
            obtain ⟨ja, jc, cj, rj⟩ := w2.get hjl
            have ij : (j : Int) < (List.length z2 : Int) := by omega
            have U2 := updX_ok (okC_mk h1 h2) (upd_ok_of (m := m) (F := parF k) hLh.out hjk hE hlh.out)
            have hU1 : Hid _ := U2.1
            have hU2 : Hid (updY (k : Int) (m : Int) (j : Int) (ro z2 j) q (mkL m (parR k (parF k) z2)) = mkL m (parR k (parF k) (z2.set j q))) := U2.2.trans (upd_enc hLh.out hjk hE hlh.out)
            clear U2
            by_cases hck : xc = k
            · have hm0 : Hid (m = 0) := (by omega : m = 0)
              replace hck := hck.symm
              subst hck
              have Rk : Rs u4 (.slice (some ⟨xb, xo, none⟩) m 0) (mkL m (parR k (parF k) z2)) := by rw [hm0.out]; exact ⟨_, 0, rfl, Nat.le_refl _, Nat.zero_le _, nofun, fun i hi => by rw [mkL_length] at hi; omega⟩
              have hab4 : ab < (World.heap u4 |>.size) := World.block_lt_of_cell? _ _ cj
              have hcall : ∀ W, Below (World.heap u4 |>.size) u4 W → Calls Try.prog 17 #[.pointer (some ⟨World.heap u1 |>.size, 0, none⟩), .int .i64 (k : Int), .int .i64 (m : Int), .int .i64 (j : Int), .slice ja (ro z2 j).length jc, .slice a4 q.length cap4, .slice (some ⟨xb, xo, none⟩) m 0] W (fun e w' => ∃ ua uc, e = .returned (.tuple #[.slice ua (mkL m (parR k (parF k) (z2.set j q))).length uc, .int .i64 0]) ∧ Rs w' (.slice ua (mkL m (parR k (parF k) (z2.set j q))).length uc) (mkL m (parR k (parF k) (z2.set j q))) ∧ Below (World.heap u4 |>.size) u4 w') := fun W hW =>
                (upd_any (F.below hW) (rj.below hW) (w4.below hW) (Rk.below hW) (mk_small (by omega) S2) (S2.2 j)).mono fun e w' ⟨vu, he, hr, hb⟩ => by
                  rw [hU1.out] at he
                  rw [hU2.out] at hr
                  obtain ⟨ua, uc, rfl⟩ := hr.form
                  exact ⟨ua, uc, he, hr, Below.next hW hb⟩
              have P1 := cj
              have Q1 := cj
              clear cj
              go_wp2
              go_region_held3 (fun wx => wx.cell? ⟨ab, ao + j, none⟩ = some (.slice ja (ro z2 j).length jc)) (exact P1) ((go_at_call 17; go_loud (refine (hcall _ (by first | assumption | exact Below.refl _ _ | exact (Below.refl _ _).drew)).mono ?_); rintro e v9 ⟨ua, uc, rfl, Ru, b⟩; replace P1 := (b.cell (p := ⟨ab, ao + j, none⟩) hab4).trans Q1))
              have D : Below (World.heap u4 |>.size) u4 v9 := b
              clear Rk rj hU1 hU2 Rx hcall P1 Q1
              replace w2 := w2.below D
              replace w4 := w4.below D
              replace F := F.below D
              replace B := Below.next B D
              clear b D
              have hap := fun g (hg : (World.heap v9 |>.size) ≤ g) => w4.apart hg
              go_wp2_with fail
              refine (rcop_any (w2.below (by repeat (first | exact Below.refl _ _ | apply Below.drewN | apply Below.drew | apply Below.draws | apply below_lit))) S2).mono ?_
              rintro e v10 ⟨vo, rfl, Oo, b⟩
              have D : Below (World.heap v9 |>.size) v9 v10 := Below.next (by repeat (first | exact Below.refl _ _ | apply Below.drewN | apply Below.drew | apply Below.draws | apply below_lit)) b
              clear b
              obtain ⟨G, C, eo, hG1, hG2⟩ := Oo.somewhere (by omega)
              subst eo
              obtain ⟨y, cy, fy, _⟩ := Oo.spot (Below.refl _ _) hjl
              have hGv : (World.heap v9 |>.size) ≤ G := by simpa using hG1
              have Rst := Oo.setRd hjl (w4.below D) (hap G hGv)
              replace D := D.setCell (p := ⟨G, j, none⟩) hGv (.slice a4 q.length cap4)
              replace w2 := w2.below D
              replace w4 := w4.below D
              replace F := F.below D
              replace Ru := Ru.below D
              replace B := Below.next B D
              clear D Oo hap hG1
              go_wp2_with fail
              refine (enc_ok (F.below (by repeat (first | exact Below.refl _ _ | apply Below.drewN | apply Below.drew | apply Below.draws | apply below_lit))) h1 h2 (Rst.below (by repeat (first | exact Below.refl _ _ | apply Below.drewN | apply Below.drew | apply Below.draws | apply below_lit))) (by rw [List.length_set]; exact hLh.out) (set_even hjl hE hlh.out) (set_small S2 hjl (by rw [hlh.out]; exact S2.2 0)) rfl rfl).mono ?_
              rintro e u12 ⟨vy, rfl, Ry, b⟩
              have D : Below (World.heap (World.setCell v10 ⟨G, j, none⟩ (.slice a4 q.length cap4)) |>.size) (World.setCell v10 ⟨G, j, none⟩ (.slice a4 q.length cap4)) u12 := Below.next (by repeat (first | exact Below.refl _ _ | apply Below.drewN | apply Below.drew | apply Below.draws | apply below_lit)) b
              replace w2 := w2.below D
              replace w4 := w4.below D
              replace F := F.below D
              replace Ru := Ru.below D
              replace Rst := Rst.below D
              replace B := Below.next B D
              clear b D
              obtain ⟨yb, yo, yc, ey, hyb, hyc, hym⟩ := Ry.somewhere (by rw [encL_length, List.length_set, hLh.out]; omega)
              rw [encL_length, List.length_set, hLh.out] at ey hyc
              subst ey
              unfold maxLen at hym
              clear cy fy
              by_cases hcy : yc = k
              · have hm1 : Hid (m = 0) := (by omega : m = 0)
                replace hcy := hcy.symm
                subst hcy
                have Rq : Rs u12 (.slice (some ⟨yb, yo, none⟩) m 0) (mkL m (parR k (parF k) (z2.set j q))) := by rw [hm1.out]; exact ⟨_, 0, rfl, Nat.le_refl _, Nat.zero_le _, nofun, fun i hi => by rw [mkL_length] at hi; omega⟩
                go_wp2_with fail
                refine (same6_t (Ru.below (by repeat (first | exact Below.refl _ _ | apply Below.drewN | apply Below.drew | apply Below.draws | apply below_lit))) (Rq.below (by repeat (first | exact Below.refl _ _ | apply Below.drewN | apply Below.drew | apply Below.draws | apply below_lit))) rfl).mono ?_
                rintro e u13 ⟨rfl, b⟩
                have D : Below (World.heap u12 |>.size) u12 u13 := Below.next (by repeat (first | exact Below.refl _ _ | apply Below.drewN | apply Below.drew | apply Below.draws | apply below_lit)) b
                replace w2 := w2.below D
                replace w4 := w4.below D
                replace F := F.below D
                replace Ru := Ru.below D
                replace Rst := Rst.below D
                replace Ry := Ry.below D
                replace Rq := Rq.below D
                replace B := Below.next B D
                clear b D
                go_wp2
                go_ret
                exact ⟨rfl, Below.next B (by repeat (first | exact Below.refl _ _ | apply Below.drewN | apply Below.drew | apply Below.draws | apply below_lit))⟩
              · have Rq := Ry.rest (k := k) (by rw [encL_length, List.length_set, hLh.out]; omega) m (by rw [encL_length, List.length_set, hLh.out]; omega)
                rw [enc_drop (by rw [List.length_set]; exact hLh.out)] at Rq
                go_wp2_with fail
                refine (same6_t (Ru.below (by repeat (first | exact Below.refl _ _ | apply Below.drewN | apply Below.drew | apply Below.draws | apply below_lit))) (Rq.below (by repeat (first | exact Below.refl _ _ | apply Below.drewN | apply Below.drew | apply Below.draws | apply below_lit))) rfl).mono ?_
                rintro e u13 ⟨rfl, b⟩
                have D : Below (World.heap u12 |>.size) u12 u13 := Below.next (by repeat (first | exact Below.refl _ _ | apply Below.drewN | apply Below.drew | apply Below.draws | apply below_lit)) b
                replace w2 := w2.below D
                replace w4 := w4.below D
                replace F := F.below D
                replace Ru := Ru.below D
                replace Rst := Rst.below D
                replace Ry := Ry.below D
                replace Rq := Rq.below D
                replace B := Below.next B D
                clear b D
                go_wp2
                go_ret
                exact ⟨rfl, Below.next B (by repeat (first | exact Below.refl _ _ | apply Below.drewN | apply Below.drew | apply Below.draws | apply below_lit))⟩
            · have Rk := Rx.rest (k := k) (by rw [encL_length, hLh.out]; omega) m (by rw [encL_length, hLh.out]; omega)
              rw [enc_drop hLh.out] at Rk
              have hab4 : ab < (World.heap u4 |>.size) := World.block_lt_of_cell? _ _ cj
              have hcall : ∀ W, Below (World.heap u4 |>.size) u4 W → Calls Try.prog 17 #[.pointer (some ⟨World.heap u1 |>.size, 0, none⟩), .int .i64 (k : Int), .int .i64 (m : Int), .int .i64 (j : Int), .slice ja (ro z2 j).length jc, .slice a4 q.length cap4, .slice (some ⟨xb, xo + k, none⟩) m (xc - k)] W (fun e w' => ∃ ua uc, e = .returned (.tuple #[.slice ua (mkL m (parR k (parF k) (z2.set j q))).length uc, .int .i64 0]) ∧ Rs w' (.slice ua (mkL m (parR k (parF k) (z2.set j q))).length uc) (mkL m (parR k (parF k) (z2.set j q))) ∧ Below (World.heap u4 |>.size) u4 w') := fun W hW =>
                (upd_any (F.below hW) (rj.below hW) (w4.below hW) (Rk.below hW) (mk_small (by omega) S2) (S2.2 j)).mono fun e w' ⟨vu, he, hr, hb⟩ => by
                  rw [hU1.out] at he
                  rw [hU2.out] at hr
                  obtain ⟨ua, uc, rfl⟩ := hr.form
                  exact ⟨ua, uc, he, hr, Below.next hW hb⟩
              have P1 := cj
              have Q1 := cj
              clear cj
              go_wp2
              go_region_held3 (fun wx => wx.cell? ⟨ab, ao + j, none⟩ = some (.slice ja (ro z2 j).length jc)) (exact P1) ((go_at_call 17; go_loud (refine (hcall _ (by first | assumption | exact Below.refl _ _ | exact (Below.refl _ _).drew)).mono ?_); rintro e v9 ⟨ua, uc, rfl, Ru, b⟩; replace P1 := (b.cell (p := ⟨ab, ao + j, none⟩) hab4).trans Q1))
              have D : Below (World.heap u4 |>.size) u4 v9 := b
              clear Rk rj hU1 hU2 Rx hcall P1 Q1
              replace w2 := w2.below D
              replace w4 := w4.below D
              replace F := F.below D
              replace B := Below.next B D
              clear b D
              have hap := fun g (hg : (World.heap v9 |>.size) ≤ g) => w4.apart hg
              go_wp2_with fail
              refine (rcop_any (w2.below (by repeat (first | exact Below.refl _ _ | apply Below.drewN | apply Below.drew | apply Below.draws | apply below_lit))) S2).mono ?_
              rintro e v10 ⟨vo, rfl, Oo, b⟩
              have D : Below (World.heap v9 |>.size) v9 v10 := Below.next (by repeat (first | exact Below.refl _ _ | apply Below.drewN | apply Below.drew | apply Below.draws | apply below_lit)) b
              clear b
              obtain ⟨G, C, eo, hG1, hG2⟩ := Oo.somewhere (by omega)
              subst eo
              obtain ⟨y, cy, fy, _⟩ := Oo.spot (Below.refl _ _) hjl
              have hGv : (World.heap v9 |>.size) ≤ G := by simpa using hG1
              have Rst := Oo.setRd hjl (w4.below D) (hap G hGv)
              replace D := D.setCell (p := ⟨G, j, none⟩) hGv (.slice a4 q.length cap4)
              replace w2 := w2.below D
              replace w4 := w4.below D
              replace F := F.below D
              replace Ru := Ru.below D
              replace B := Below.next B D
              clear D Oo hap hG1
              go_wp2_with fail
              refine (enc_ok (F.below (by repeat (first | exact Below.refl _ _ | apply Below.drewN | apply Below.drew | apply Below.draws | apply below_lit))) h1 h2 (Rst.below (by repeat (first | exact Below.refl _ _ | apply Below.drewN | apply Below.drew | apply Below.draws | apply below_lit))) (by rw [List.length_set]; exact hLh.out) (set_even hjl hE hlh.out) (set_small S2 hjl (by rw [hlh.out]; exact S2.2 0)) rfl rfl).mono ?_
              rintro e u12 ⟨vy, rfl, Ry, b⟩
              have D : Below (World.heap (World.setCell v10 ⟨G, j, none⟩ (.slice a4 q.length cap4)) |>.size) (World.setCell v10 ⟨G, j, none⟩ (.slice a4 q.length cap4)) u12 := Below.next (by repeat (first | exact Below.refl _ _ | apply Below.drewN | apply Below.drew | apply Below.draws | apply below_lit)) b
              replace w2 := w2.below D
              replace w4 := w4.below D
              replace F := F.below D
              replace Ru := Ru.below D
              replace Rst := Rst.below D
              replace B := Below.next B D
              clear b D
              obtain ⟨yb, yo, yc, ey, hyb, hyc, hym⟩ := Ry.somewhere (by rw [encL_length, List.length_set, hLh.out]; omega)
              rw [encL_length, List.length_set, hLh.out] at ey hyc
              subst ey
              unfold maxLen at hym
              clear cy fy
              by_cases hcy : yc = k
              · have hm1 : Hid (m = 0) := (by omega : m = 0)
                replace hcy := hcy.symm
                subst hcy
                have Rq : Rs u12 (.slice (some ⟨yb, yo, none⟩) m 0) (mkL m (parR k (parF k) (z2.set j q))) := by rw [hm1.out]; exact ⟨_, 0, rfl, Nat.le_refl _, Nat.zero_le _, nofun, fun i hi => by rw [mkL_length] at hi; omega⟩
                go_wp2_with fail
                refine (same6_t (Ru.below (by repeat (first | exact Below.refl _ _ | apply Below.drewN | apply Below.drew | apply Below.draws | apply below_lit))) (Rq.below (by repeat (first | exact Below.refl _ _ | apply Below.drewN | apply Below.drew | apply Below.draws | apply below_lit))) rfl).mono ?_
                rintro e u13 ⟨rfl, b⟩
                have D : Below (World.heap u12 |>.size) u12 u13 := Below.next (by repeat (first | exact Below.refl _ _ | apply Below.drewN | apply Below.drew | apply Below.draws | apply below_lit)) b
                replace w2 := w2.below D
                replace w4 := w4.below D
                replace F := F.below D
                replace Ru := Ru.below D
                replace Rst := Rst.below D
                replace Ry := Ry.below D
                replace Rq := Rq.below D
                replace B := Below.next B D
                clear b D
                go_wp2
                go_ret
                exact ⟨rfl, Below.next B (by repeat (first | exact Below.refl _ _ | apply Below.drewN | apply Below.drew | apply Below.draws | apply below_lit))⟩
              · have Rq := Ry.rest (k := k) (by rw [encL_length, List.length_set, hLh.out]; omega) m (by rw [encL_length, List.length_set, hLh.out]; omega)
                rw [enc_drop (by rw [List.length_set]; exact hLh.out)] at Rq
                go_wp2_with fail
                refine (same6_t (Ru.below (by repeat (first | exact Below.refl _ _ | apply Below.drewN | apply Below.drew | apply Below.draws | apply below_lit))) (Rq.below (by repeat (first | exact Below.refl _ _ | apply Below.drewN | apply Below.drew | apply Below.draws | apply below_lit))) rfl).mono ?_
                rintro e u13 ⟨rfl, b⟩
                have D : Below (World.heap u12 |>.size) u12 u13 := Below.next (by repeat (first | exact Below.refl _ _ | apply Below.drewN | apply Below.drew | apply Below.draws | apply below_lit)) b
                replace w2 := w2.below D
                replace w4 := w4.below D
                replace F := F.below D
                replace Ru := Ru.below D
                replace Rst := Rst.below D
                replace Ry := Ry.below D
                replace Rq := Rq.below D
                replace B := Below.next B D
                clear b D
                go_wp2
                go_ret
                exact ⟨rfl, Below.next B (by repeat (first | exact Below.refl _ _ | apply Below.drewN | apply Below.drew | apply Below.draws | apply below_lit))⟩
          · have hb : (encX a0 a1 z2 != 0) = true := by simp [hx]
            go_wp2_with fail
            refine (enc_any (F.below (by repeat (first | exact Below.refl _ _ | apply Below.drewN | apply Below.drew | apply Below.draws | apply below_lit))) (w2.below (by repeat (first | exact Below.refl _ _ | apply Below.drewN | apply Below.drew | apply Below.draws | apply below_lit))) S2).mono ?_
            rintro e u4 ⟨vx, rfl, Rx, b⟩
            have D : Below (World.heap u3 |>.size) u3 u4 := Below.next (by repeat (first | exact Below.refl _ _ | apply Below.drewN | apply Below.drew | apply Below.draws | apply below_lit)) b
            replace w2 := w2.below D
            replace w4 := w4.below D
            replace F := F.below D
            replace B := Below.next B D
            clear b D
            obtain ⟨xa, xc, rfl⟩ := Rx.form
            clear Rx
            generalize encX a0 a1 z2 = ex at *
            generalize (encR a0 a1 z2).length = nx at *
            clear hx
            go_wp2
            go_ret
            exact ⟨rfl, Below.next B (by repeat (first | exact Below.refl _ _ | apply Below.drewN | apply Below.drew | apply Below.draws | apply below_lit))⟩
        · have hn : ((q.length : Int) != ((ro z2 0).length : Int)) = true := by simp; omega
          clear hl
          go_wp2
          go_ret
          exact ⟨rfl, Below.next B (by repeat (first | exact Below.refl _ _ | apply Below.drewN | apply Below.drew | apply Below.draws | apply below_lit))⟩

/-! ### THE ROW's STEP: WRITTEN OUT: LEAVE IT -/
set_option maxRecDepth 100000 in
theorem lifted (os : Os) (started : os.Started) (H : Type) (enc : TypeId × Value → H) :
    ReturnsInHanded {} Try.checked os 7 .any (Rows.bulkChangesSpec.pre6 enc Try.prog Try.f7 Rows.bulkChangesRow.domain false) (Rows.bulkChangesSpec.post enc Try.prog Try.f7 false true false false) := by
  refine returnsInHanded_of_change (C := Try.checked) own started (by kernel_rfl) Try.func7
    (ChangeSpec.witness6 (enc := enc) (C := Try.checked) false ⟨#[], #[.int .i64 0, .int .i64 0, .slice none 0 0, .int .i64 0, .slice none 0 0], []⟩ 8 (by kernel_rfl) (by kernel_rfl) (by kernel_rfl) (by kernel_rfl)) ?_
  intro W base args ds gs before hval0 hW hcnd _
  have hval : ∀ (j : Nat) t v, Try.f7.params[j]? = some t → args[j]? = some v → Value.okWide Try.prog W .any base t v := hval0
  have hW' := hW
  obtain ⟨p, q, hA0, hV, rfl, hfz, hnd⟩ := hW
  have hA : DataW.TrodAll enc Try.prog W 0 (fun _ => true) true Try.f7.params.toList args.toList ds p := hA0
  rw [Try.params7] at hA hval
  obtain ⟨v0, vs0, d0, ds0, p0, q0, hargs, rfl, rfl, h0, r0⟩ := trodAll_cons hA
  obtain ⟨v1, vs1, d1, ds1, p1, q1, rfl, rfl, rfl, h1, r1⟩ := trodAll_cons r0
  obtain ⟨v2, vs2, d2, ds2, p2, q2, rfl, rfl, rfl, h2, r2⟩ := trodAll_cons r1
  obtain ⟨v3, vs3, d3, ds3, p3, q3, rfl, rfl, rfl, h3, r3⟩ := trodAll_cons r2
  obtain ⟨v4, vs4, d4, ds4, p4, q4, rfl, rfl, rfl, h4, r4⟩ := trodAll_cons r3
  obtain ⟨rfl, rfl, rfl⟩ := trodAll_nil r4
  obtain rfl : args = #[v0, v1, v2, v3, v4] := by cases args; simp_all
  obtain ⟨rfl, rfl⟩ := trodVars_none hV
  obtain ⟨a0, rfl, rfl, rfl, w0⟩ := open_int Try.underlying3 (hval 0 3 v0 rfl rfl) h0
  obtain ⟨a1, rfl, rfl, rfl, w1⟩ := open_int Try.underlying3 (hval 1 3 v1 rfl rfl) h1
  obtain ⟨a2, len2, cap2, rfl⟩ := okWide_slice Try.underlying23 (hval 2 23 v2 rfl rfl)
  have k2 := h2
  have lt2 : ∀ x ∈ p2, x.block < W.heap.size := by obtain ⟨m, hm⟩ := k2; exact DataW.trod_lt m _ _ _ hm
  obtain ⟨z2, w2⟩ : ∃ zs, Rs W (.slice a2 len2 cap2) zs := by
    obtain ⟨fuel, hf⟩ := h2
    rcases Go.Deep.open_int_rows Try.underlying23 Try.underlying35 Try.underlying5 (by kernel_rfl) (by kernel_rfl) hf with ⟨hcs, _⟩ | ⟨x, l, c, A, N, C, Z, hcs, _, hl, hm, _, hrows⟩
    · simp [Value.cells] at hcs
      obtain ⟨rfl, rfl, rfl⟩ := hcs
      exact ⟨[], rs_none⟩
    · simp [Value.cells] at hcs
      obtain ⟨rfl, rfl, rfl⟩ := hcs
      exact rs_rows hl hm hrows
  obtain ⟨a3, rfl, rfl, rfl, w3⟩ := open_int Try.underlying3 (hval 3 3 v3 rfl rfl) h3
  obtain ⟨a4, len4, cap4, rfl⟩ := okWide_slice Try.underlying35 (hval 4 35 v4 rfl rfl)
  have k4 := h4
  have lt4 : ∀ x ∈ p4, x.block < W.heap.size := by obtain ⟨m, hm⟩ := k4; exact DataW.trod_lt m _ _ _ hm
  obtain ⟨z4, w4⟩ : ∃ zs, IsRow .u8 W a4 len4 cap4 zs := by
    obtain ⟨fuel, hf⟩ := h4
    rcases open_ints Try.underlying35 Try.underlying5 (by kernel_rfl) hf with ⟨hcs, _⟩ | ⟨x, l, c, zs, hcs, _, hl, hm, hz, _, hcell, hwz⟩
    · simp [Value.cells] at hcs
      obtain ⟨rfl, rfl, rfl⟩ := hcs
      exact ⟨[], .inl ⟨rfl, rfl, rfl, rfl⟩⟩
    · simp [Value.cells] at hcs
      obtain ⟨rfl, rfl, rfl⟩ := hcs
      exact ⟨zs, .inr ⟨_, rfl, hl, hm, by simpa using hz, hcell, hwz⟩⟩
  clear hA0 hval0
  refine (walk a0 a1 a2 len2 cap2 z2 a3 a4 len4 cap4 z4 W w0 w1 w2 w3 w4).mono fun e W' ⟨he, bel⟩ => ?_
  subst he
  exact ⟨_, rfl, _, _, _, [], _, [], hW', trodAll_mk1 (shut_bool Try.underlying4 _), (trodAll_cons_mk (shut_int Try.underlying3 w0) (trodAll_cons_mk (shut_int Try.underlying3 w1) (trodAll_cons_mk (Below.trod laidOut (by kernel_rfl) (of_decide_eq_true (by kernel_rfl)) k2 bel lt2) (trodAll_cons_mk (shut_int Try.underlying3 w3) (trodAll_cons_mk (Below.trod laidOut (by kernel_rfl) (of_decide_eq_true (by kernel_rfl)) k4 bel lt4) trodAll_mk0))))), rfl, bel.frame _, fun h => by cases h⟩

theorem over : Rows.bulkChangesRow.holds Try.pinned (OpenSpec.ofChange Rows.bulkChangesSpec) :=
  OpenClaim.holds_of_wide 7 Try.f7 rfl rfl rfl rfl rfl rfl rfl ⟨rfl, rfl, rfl, rfl, rfl⟩ rfl rfl rfl rfl rfl (by kernel_rfl) Try.func7 (by kernel_rfl)
    (of_decide_eq_true (by kernel_rfl)) (by unfold Func.isWrapper; first | (rw [if_pos (by decide +kernel)]; kernel_rfl) | (rw [if_neg (by decide +kernel)]; exact ⟨rfl, rfl⟩))
    (fun os started H enc _ => lifted os started H enc)

/-- ████ THE STATEMENT ████ -/
theorem proved : Rows.BulkChangesSaid := over
end Go.Proofs.Ytehphjapahdalaa.bulkChanges
namespace Go.Proofs.Ytehphjapahdalaa
theorem bulkChanges_holds : Rows.BulkChangesSaid := bulkChanges.proved
#print axioms bulkChanges_holds
end Go.Proofs.Ytehphjapahdalaa
