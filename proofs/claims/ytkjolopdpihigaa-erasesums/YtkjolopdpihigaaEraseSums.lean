/- PROVED: for all k, m, all slices has of bools and all slices a, b of byte slices the call EraseSums(k, m, has, a, b) returns true, and its arguments read behind it as before; no conditions. -/
import Derived.Test.YtkjolopdpihigaaRows
import Derived.Test.YtkjolopdpihigaaTome10
import Derived.WalkKit
import Derived.ProofKit
import Derived.OpenShut
import Derived.ShutString
import Derived.ChangeOld
import Derived.Below
import Derived.Deep.Grids
import Derived.Deep.Matrix
namespace Go.Proofs.Ytkjolopdpihigaa.eraseSums
open Go.ChangeShapes Go.WideShapes Go.ChangeAt Go.RowKit
open Go.ChangeMaps (open_string shut_string)
set_option linter.unusedVariables false

theorem own : ownKnob Try.prog.godebug = none := by kernel_rfl
theorem laidOut : laidOutB Try.prog = true := by kernel_rfl

/-- WHAT THE WALK IS TOLD OF A SLICE OF INTEGERS THAT CAME IN: it is nil; or it leads to a row of 'cap' cells, the numbers 'zs' (the first 'len' are its elements, the rest its spare room), each fitting its kind. -/
def IsRow (k : IntKind) (w : World) (a : Option Addr) (len cap : Nat) (zs : List Int) : Prop :=
  (a = none ∧ len = 0 ∧ cap = 0 ∧ zs = []) ∨
  ∃ x, a = some x ∧ len ≤ cap ∧ cap ≤ maxLen ∧ zs.length = cap ∧ (∀ i, i < zs.length → w.cell? (x.add i) = some (.int k (zs.getD i 0))) ∧ ∀ n ∈ zs, (Lit.int k n).wf = true

open Gf
set_option linter.unusedSimpArgs false
set_option maxRecDepth 100000 in
set_option maxHeartbeats 4000000 in
theorem walk (a0 : Int) (a1 : Int) (a2 : Option Addr) (len2 cap2 : Nat) (z2 : List Bool) (a3 : Option Addr) (len3 cap3 : Nat) (z3 : List (List UInt8)) (a4 : Option Addr) (len4 cap4 : Nat) (z4 : List (List UInt8)) (w : World) (w0 : (Lit.int .i64 a0).wf = true) (w1 : (Lit.int .i64 a1).wf = true) (w2 : RdB w (.slice a2 len2 cap2) z2) (w3 : Rs w (.slice a3 len3 cap3) z3) (w4 : Rs w (.slice a4 len4 cap4) z4) :
    Calls Try.prog 8 #[.int .i64 a0, .int .i64 a1, .slice a2 len2 cap2, .slice a3 len3 cap3, .slice a4 len4 cap4] w fun e w' => e = .returned (.bool true) ∧ Below w.heap.size w w' := by
  obtain rfl := w2.lenEq
  obtain rfl := w3.lenEq
  obtain rfl := w4.lenEq
  go_enter Try.func8, Try.ntmps8
  have B : Below w.heap.size w w := Below.refl _ _
  go_wp2_with fail
  refine (awake7_any _).mono ?_
  rintro e u1 ⟨rfl, b⟩
  have D : Below (World.heap w |>.size) w u1 := Below.next (by repeat (first | exact Below.refl _ _ | apply Below.drewN | apply Below.drew | apply Below.draws | apply below_lit)) b
  replace w2 := w2.below D
  replace w3 := w3.below D
  replace w4 := w4.below D
  replace B := Below.next B D
  clear b D
  go_wp2_with fail
  refine (new_any _).mono ?_
  rintro e u2 ⟨rfl, F, hO⟩
  have b := hO.below
  clear hO
  have D : Below (World.heap u1 |>.size) u1 u2 := Below.next (by repeat (first | exact Below.refl _ _ | apply Below.drewN | apply Below.drew | apply Below.draws | apply below_lit)) b
  replace w2 := w2.below D
  replace w3 := w3.below D
  replace w4 := w4.below D
  replace B := Below.next B D
  clear b D
  go_wp2_with fail
  refine (few_any a0 a1 (w3.below (by repeat (first | exact Below.refl _ _ | apply Below.drewN | apply Below.drew | apply Below.draws | apply below_lit)))).mono ?_
  rintro e u3 ⟨t0, rfl, hS0, b⟩
  have D : Below (World.heap u2 |>.size) u2 u3 := Below.next (by repeat (first | exact Below.refl _ _ | apply Below.drewN | apply Below.drew | apply Below.draws | apply below_lit)) b
  replace w2 := w2.below D
  replace w3 := w3.below D
  replace w4 := w4.below D
  replace F := F.below D
  replace B := Below.next B D
  clear b D
  go_wp2_with fail
  refine (few_any a0 a1 (w4.below (by repeat (first | exact Below.refl _ _ | apply Below.drewN | apply Below.drew | apply Below.draws | apply below_lit)))).mono ?_
  rintro e u4 ⟨t1, rfl, hS1, b⟩
  have D : Below (World.heap u3 |>.size) u3 u4 := Below.next (by repeat (first | exact Below.refl _ _ | apply Below.drewN | apply Below.drew | apply Below.draws | apply below_lit)) b
  replace w2 := w2.below D
  replace w3 := w3.below D
  replace w4 := w4.below D
  replace F := F.below D
  replace B := Below.next B D
  clear b D
  cases t0
  · go_wp2
    go_ret
    exact ⟨rfl, Below.next B (by repeat (first | exact Below.refl _ _ | apply Below.drewN | apply Below.drew | apply Below.draws | apply below_lit))⟩
  · have S3 := hS0 rfl
    clear hS0
    cases t1
    · go_wp2
      go_ret
      exact ⟨rfl, Below.next B (by repeat (first | exact Below.refl _ _ | apply Below.drewN | apply Below.drew | apply Below.draws | apply below_lit))⟩
    · have S4 := hS1 rfl
      clear hS1
      by_cases h20 : (z3.length : Int) > 20
      · skip
        go_wp2
        go_ret
        exact ⟨rfl, Below.next B (by repeat (first | exact Below.refl _ _ | apply Below.drewN | apply Below.drew | apply Below.draws | apply below_lit))⟩
      · have hlen : ¬ (z3.length : Int) > 20 := h20
        by_cases hab : z3.length = z4.length
        · have q1 : ((z3.length : Int) != (z4.length : Int)) = false := by simp [hab]
          have hab1 : Hid _ := hab
          have hS1 := S3.1
          clear hab
          have hSr : Hid (∀ i, (ro z3 i).length ≤ 300) := S3.2
          have hSs : Hid (∀ i, (ro z4 i).length ≤ 300) := S4.2
          go_wp2_with fail
          refine (rcop_any (w3.below (by repeat (first | exact Below.refl _ _ | apply Below.drewN | apply Below.drew | apply Below.draws | apply below_lit))) S3).mono ?_
          rintro e v9 ⟨vo, rfl, Oo, b⟩
          have D : Below (World.heap u4 |>.size) u4 v9 := Below.next (by repeat (first | exact Below.refl _ _ | apply Below.drewN | apply Below.drew | apply Below.draws | apply below_lit)) b
          clear b
          obtain ⟨oa, oc, rfl⟩ := Oo.form
          obtain ⟨B0, hB0⟩ : ∃ B0, Hid (B0 = (World.heap u4 |>.size)) := ⟨_, rfl⟩
          have HO1 : Hid (Gf.Os v9 B0 34 5 (.slice oa z3.length oc) (adP z3 z4 0 0)) := (by rw [adP_zero, hB0.out]; exact Oo.base (by simp) : Gf.Os v9 B0 34 5 (.slice oa z3.length oc) (adP z3 z4 0 0))
          have HB1 : Hid (Below B0 u4 v9) := (by rw [hB0.out]; exact D : Below B0 u4 v9)
          clear D Oo h20 hlen q1
          have wd3 : Hid (∀ W, Below B0 u4 W → Rs W (.slice a3 z3.length cap3) z3) := fun W hW => w3.below (by rw [← hB0.out]; exact hW)
          have wd4 : Hid (∀ W, Below B0 u4 W → Rs W (.slice a4 z4.length cap4) z4) := fun W hW => w4.below (by rw [← hB0.out]; exact hW)
          go_wp2
          go_loopw [16] (fun i wr => ∃ r : Nat, r ≤ z3.length ∧ i = .int .i64 (r : Int) ∧ Hid (∀ i, i < r → (ro z3 i).length = (ro z4 i).length) ∧ Gf.Os wr B0 34 5 (.slice oa z3.length oc) (adP z3 z4 r 0) ∧ Below B0 u4 wr) (fun i _ => z3.length - (intOf i).toNat)
          case atStart => exact ⟨0, by omega, rfl, fun i hi => by omega, HO1.out, HB1.out⟩
          case round =>
            obtain ⟨r, hr, rfl, hEq, hO, hB⟩ := hrel
            clear HO1 HB1
            by_cases hlt : r < z3.length
            · have hltA1 : (r : Int) < (List.length z3 : Int) := by omega
              have hltB : r < z4.length := by have := hab1.out; omega
              have hltB1 : (r : Int) < (List.length z4 : Int) := by omega
              obtain ⟨pa, po, xa, xc, e3, _, c3, _⟩ := (wd3.out _ hB).at hlt
              subst e3
              obtain ⟨qa, qo, ya, yc, e4, _, c4, _⟩ := (wd4.out _ hB).at hltB
              subst e4
              by_cases hl : (ro z3 r).length = (ro z4 r).length
              · have hn : (((ro z3 r).length : Int) != ((ro z4 r).length : Int)) = false := by simp [hl]
                have hlh : Hid _ := hl
                clear hl
                go_wp2
                go_quiet (fail)
                go_wp2
                clear hn c3 c4
                go_loopw [17] (fun i wr => ∃ n : Nat, n ≤ (ro z3 r).length ∧ i = .int .i64 (n : Int) ∧ Gf.Os wr B0 34 5 (.slice oa z3.length oc) (adP z3 z4 r n) ∧ Below B0 u4 wr) (fun i _ => (ro z3 r).length - (intOf i).toNat)
                case atStart => exact ⟨0, by omega, rfl, Os.drwN hO _, hB.drewN _⟩
                case round =>
                  clear hO hB
                  obtain ⟨n, hn, rfl, hO, hB⟩ := hrel
                  have hlnA := hSr.out r
                  have hlnB := hSs.out r
                  by_cases hn2 : n < (ro z3 r).length
                  · have hn2i : (n : Int) < ((ro z3 r).length : Int) := by omega
                    obtain ⟨G, C, g, c, ev, cG, cg, fg, k1, k2, k3, k4, hset⟩ := hO.byte (i := r) (n := n) (by rw [adP_length]; exact hlt) (by rw [adP_row hlt]; exact hn2)
                    simp at ev
                    obtain ⟨eo, e5, e6⟩ := ev
                    clear e5 e6
                    subst eo
                    rw [adP_row hlt] at cG
                    rw [adP_at hlt hn2] at cg
                    obtain ⟨ya, yc, c4, r4⟩ := (wd4.out _ hB).get hltB
                    have hn4 : n < (ro z4 r).length := by rw [← hlh.out]; exact hn2
                    have hn4i : (n : Int) < ((ro z4 r).length : Int) := by omega
                    obtain ⟨yb, yo, ey, hyb, d4⟩ := r4.byte hn4
                    subst ey
                    have E := xor_u8 (co (ro z3 r) n) (co (ro z4 r) n)
                    have HOn : Hid (Gf.Os (World.setCell wr ⟨g, n, none⟩ (.int .u8 (((co (ro z3 r) n).toNat ^^^ (co (ro z4 r) n).toNat : Nat) : Int))) B0 34 5 (.slice (some ⟨G, 0, none⟩) z3.length oc) (adP z3 z4 r (n + 1))) := (by rw [← UInt8.toNat_xor, ← adP_step hlt hn2]; exact hset _ : Gf.Os (World.setCell wr ⟨g, n, none⟩ (.int .u8 (((co (ro z3 r) n).toNat ^^^ (co (ro z4 r) n).toNat : Nat) : Int))) B0 34 5 (.slice (some ⟨G, 0, none⟩) z3.length oc) (adP z3 z4 r (n + 1)))
                    have HBn : Hid (Below B0 u4 (World.setCell wr ⟨g, n, none⟩ (.int .u8 (((co (ro z3 r) n).toNat ^^^ (co (ro z4 r) n).toNat : Nat) : Int)))) := hB.setCell k1 _
                    clear hset hO hB r4
                    go_wp2
                    go_region
                    all_goals
                      go_wp2
                      go_roundw
                      case rel => exact ⟨n + 1, by omega, by go_num, Os.drw HOn.out, HBn.out.drew⟩
                      case measure => simp [intOf]; omega
                  · have hn2i : ¬ (n : Int) < ((ro z3 r).length : Int) := by omega
                    obtain ⟨Ga, go, za, zc, eo, hG, cG, rG⟩ := hO.rs.at (i := r) (by rw [adP_length]; exact hlt)
                    subst eo
                    rw [adP_row hlt] at cG
                    clear rG
                    have HOn : Hid (Gf.Os wr B0 34 5 (.slice (some ⟨Ga, go, none⟩) z3.length oc) (adP z3 z4 (r + 1) 0)) := (by rw [← adP_next (c := n) hlt (Or.inl (by omega))]; exact hO : Gf.Os wr B0 34 5 (.slice (some ⟨Ga, go, none⟩) z3.length oc) (adP z3 z4 (r + 1) 0))
                    have HBn : Hid _ := hB
                    have HEn : Hid (∀ i, i < r + 1 → (ro z3 i).length = (ro z4 i).length) := fun i hi => by rcases Nat.lt_or_ge i r with q | q; exact hEq.out i q; rw [show i = r by omega]; exact hlh.out
                    clear hO hB
                    go_wp2
                    go_roundw
                    case rel => exact ⟨r + 1, by omega, by go_num, HEn, HOn.out, HBn.out⟩
                    case measure => simp [intOf]; omega
              · have hn : (((ro z3 r).length : Int) != ((ro z4 r).length : Int)) = true := by simp; omega
                have hD : Below (World.heap u4 |>.size) u4 wr := by rw [← hB0.out]; exact hB
                clear hl hO hB
                replace w2 := w2.below hD
                replace w3 := w3.below hD
                replace w4 := w4.below hD
                replace F := F.below hD
                replace B := Below.next B hD
                go_wp2
                go_quiet (fail)
                go_wp2
                go_ret
                exact ⟨rfl, Below.next B (by repeat (first | exact Below.refl _ _ | apply Below.drewN | apply Below.drew | apply Below.draws | apply below_lit))⟩
            · have hge : ¬ (r : Int) < (List.length z3 : Int) := by omega
              have er : r = z3.length := by omega
              subst er
              rw [adP_all (Or.inl (Nat.le_refl _))] at hO
              have Rl := hO.rs
              have hD : Below (World.heap u4 |>.size) u4 wr := by rw [← hB0.out]; exact hB
              have E1 : decX a0 a1 z2 z4 = decX a0 a1 z2 z3 := decX_len hab1.out.symm (fun i => by rcases Nat.lt_or_ge i z3.length with q | q; exact (hEq.out i q).symm; rw [ro_ge (by rw [← hab1.out]; exact q), ro_ge q])
              have E2 : decX a0 a1 z2 (addL z3 z4) = decX a0 a1 z2 z3 := decX_len (addL_length _ _) (fun i => addL_len i)
              replace w2 := w2.below hD
              replace w3 := w3.below hD
              replace w4 := w4.below hD
              replace F := F.below hD
              replace B := Below.next B hD
              clear hO hB hD wd3 wd4 hSr hSs
              by_cases hx : decX a0 a1 z2 z3 = 0
              · obtain ⟨k, m, rfl, rfl, h1, h2, h3, h4, h5, h6, h7⟩ := dec_zero hx
                obtain ⟨k2, m2, f1, f2, j1, j2, j3, j4, j5, j6, h8⟩ := dec_zero (E1.trans hx)
                clear j1 j2 j3 j4 j5 j6
                obtain rfl : k = k2 := by omega
                obtain rfl : m = m2 := by omega
                obtain ⟨k3, m3, f3, f4, j1, j2, j3, j4, j5, j6, h9⟩ := dec_zero (E2.trans hx)
                clear j1 j2 j3 j4 j5 j6
                obtain rfl : k = k3 := by omega
                obtain rfl : m = m3 := by omega
                clear f1 f2 f3 f4
                have h10 := sum_dec (m := m) h1 h2 h4 (by rw [← hab1.out]; exact h4) hEq.out h3 h5 h6
                rw [← h7, ← h8, ← h9] at h10
                have lX : Hid (∀ T, T < k + m → (ro (decR (k : Int) (m : Int) z2 z3) T).length = (ro z3 (pl7 z2 0)).length) := fun T hT => by rw [h7, enc_len (decD_even h1) (by rw [decD_length]; exact hT), decD_row (by omega)]
                have lY : Hid (∀ T, T < k + m → (ro (decR (k : Int) (m : Int) z2 z4) T).length = (ro z3 (pl7 z2 0)).length) := fun T hT => by rw [h8, enc_len (decD_even h1) (by rw [decD_length]; exact hT), decD_row (by omega)]; exact (hEq.out _ (by rw [h4]; exact pl7_bound h3 h6 0 (by omega))).symm
                have nX : Hid ((decR (k : Int) (m : Int) z2 z3).length = k + m) := (by rw [h7, encL_length, decD_length] : (decR (k : Int) (m : Int) z2 z3).length = k + m)
                have nY : Hid ((decR (k : Int) (m : Int) z2 z4).length = k + m) := (by rw [h8, encL_length, decD_length] : (decR (k : Int) (m : Int) z2 z4).length = k + m)
                have hl0 : (ro z3 (pl7 z2 0)).length ≤ 300 := S3.2 _
                rw [hx] at E1 E2
                generalize (ro z3 (pl7 z2 0)).length = l0 at *
                clear h7 h8 h9
                obtain ⟨X, hX⟩ : ∃ X, Hid (X = decR (k : Int) (m : Int) z2 z3) := ⟨_, rfl⟩
                obtain ⟨Y, hY⟩ : ∃ Y, Hid (Y = decR (k : Int) (m : Int) z2 z4) := ⟨_, rfl⟩
                rw [← hX.out, ← hY.out] at h10
                rw [← hX.out] at lX nX
                rw [← hY.out] at lY nY
                obtain ⟨s, hs⟩ : ∃ s, Hid (s = k + m) := ⟨_, rfl⟩
                rw [← hs.out] at lX lY nX nY
                have lZ : Hid (∀ T, T < s → (ro (addL X Y) T).length = l0) := fun T hT => by rw [addL_len]; exact lX.out T hT
                have nZ : Hid ((addL X Y).length = s) := (by rw [addL_length, nX.out] : (addL X Y).length = s)
                have hs1 : 0 < s := by rw [hs.out]; omega
                have hs2 : s ≤ 256 := by rw [hs.out]; exact h2
                have h10h : Hid _ := h10
                clear h10 h3 h4 h5 h6
                go_wp2_with fail
                refine (edec_any (k := (k : Int)) (m := (m : Int)) (L := z3) (F.below (by repeat (first | exact Below.refl _ _ | apply Below.drewN | apply Below.drew | apply Below.draws | apply below_lit))) (w2.below (by repeat (first | exact Below.refl _ _ | apply Below.drewN | apply Below.drew | apply Below.draws | apply below_lit))) (w3.below (by repeat (first | exact Below.refl _ _ | apply Below.drewN | apply Below.drew | apply Below.draws | apply below_lit))) (S3.h z2)).mono ?_
                rintro e u21 ⟨_, vx, rfl, Rx, b⟩
                rw [hx]
                rw [← hX.out] at Rx
                have D : Below (World.heap wr |>.size) wr u21 := Below.next (by repeat (first | exact Below.refl _ _ | apply Below.drewN | apply Below.drew | apply Below.draws | apply below_lit)) b
                replace w2 := w2.below D
                replace w3 := w3.below D
                replace w4 := w4.below D
                replace F := F.below D
                replace Rl := Rl.below D
                replace B := Below.next B D
                clear b D
                obtain ⟨xb, xo, xc, ex, _, _, _⟩ := Rx.somewhere (by rw [nX.out]; exact hs1)
                rw [nX.out] at ex
                subst ex
                go_wp2_with fail
                refine (edec_any (k := (k : Int)) (m := (m : Int)) (L := z4) (F.below (by repeat (first | exact Below.refl _ _ | apply Below.drewN | apply Below.drew | apply Below.draws | apply below_lit))) (w2.below (by repeat (first | exact Below.refl _ _ | apply Below.drewN | apply Below.drew | apply Below.draws | apply below_lit))) (w4.below (by repeat (first | exact Below.refl _ _ | apply Below.drewN | apply Below.drew | apply Below.draws | apply below_lit))) (S4.h z2)).mono ?_
                rintro e u22 ⟨_, vy, rfl, Ry, b⟩
                rw [E1]
                rw [← hY.out] at Ry
                have D : Below (World.heap u21 |>.size) u21 u22 := Below.next (by repeat (first | exact Below.refl _ _ | apply Below.drewN | apply Below.drew | apply Below.draws | apply below_lit)) b
                replace w2 := w2.below D
                replace w3 := w3.below D
                replace w4 := w4.below D
                replace F := F.below D
                replace Rl := Rl.below D
                replace Rx := Rx.below D
                replace B := Below.next B D
                clear b D
                obtain ⟨yb, yo, yc, ey, _, _, _⟩ := Ry.somewhere (by rw [nY.out]; exact hs1)
                rw [nY.out] at ey
                subst ey
                go_wp2_with fail
                refine (edec_any (k := (k : Int)) (m := (m : Int)) (L := addL z3 z4) (F.below (by repeat (first | exact Below.refl _ _ | apply Below.drewN | apply Below.drew | apply Below.draws | apply below_lit))) (w2.below (by repeat (first | exact Below.refl _ _ | apply Below.drewN | apply Below.drew | apply Below.draws | apply below_lit))) (Rl.below (by repeat (first | exact Below.refl _ _ | apply Below.drewN | apply Below.drew | apply Below.draws | apply below_lit))) ((addL_small S3).h z2)).mono ?_
                rintro e u23 ⟨_, vz, rfl, Rz, b⟩
                rw [E2]
                rw [h10h.out] at Rz
                have D : Below (World.heap u22 |>.size) u22 u23 := Below.next (by repeat (first | exact Below.refl _ _ | apply Below.drewN | apply Below.drew | apply Below.draws | apply below_lit)) b
                replace w2 := w2.below D
                replace w3 := w3.below D
                replace w4 := w4.below D
                replace F := F.below D
                replace Rl := Rl.below D
                replace Rx := Rx.below D
                replace Ry := Ry.below D
                replace B := Below.next B D
                clear b D
                obtain ⟨zb, zo, zc, ez, _, _, _⟩ := Rz.somewhere (by rw [nZ.out]; exact hs1)
                rw [nZ.out] at ez
                subst ez
                have q0 : ((s : Int) != (s : Int)) = false := by simp
                have q9 : ((l0 : Int) != (l0 : Int)) = false := by simp
                have Rx2 : Hid _ := Rx
                have Ry2 : Hid _ := Ry
                have Rz2 : Hid _ := Rz
                have B2 : Hid _ := B
                clear Rx Ry Rz B Rl F w2 w3 w4 E1 E2 hx h10h
                go_wp2
                go_loopw [24] (fun i wr => ∃ T : Nat, T ≤ s ∧ i = .int .i64 (T : Int) ∧ ∃ nd, wr = World.drewN u23 nd) (fun i _ => s - (intOf i).toNat)
                case atStart => exact ⟨0, by omega, rfl, 0, rfl⟩
                case round =>
                  obtain ⟨T, hT, rfl, nd, rfl⟩ := hrel
                  clear q0
                  by_cases hTs : T < s
                  · have hTi : (T : Int) < (s : Int) := by omega
                    obtain ⟨xa, xc1, cx, rx⟩ := Rs.get Rx2.out (i := T) (by rw [nX.out]; exact hTs)
                    obtain ⟨ya, yc1, cy, ry⟩ := Rs.get Ry2.out (i := T) (by rw [nY.out]; exact hTs)
                    obtain ⟨za, zc1, cz, rz⟩ := Rs.get Rz2.out (i := T) (by rw [nZ.out]; exact hTs)
                    rw [lX.out T hTs] at cx
                    rw [lY.out T hTs] at cy
                    rw [lZ.out T hTs] at cz
                    go_wp2
                    go_quiet (fail)
                    go_wp2
                    go_loopw [25] (fun i wr => ∃ n : Nat, n ≤ l0 ∧ i = .int .i64 (n : Int) ∧ ∃ nd, wr = World.drewN u23 nd) (fun i _ => l0 - (intOf i).toNat)
                    case atStart => exact ⟨0, by omega, rfl, _, by first | rfl | rw [World.drewN_drewN]⟩
                    case round =>
                      obtain ⟨n, hn, rfl, nd2, rfl⟩ := hrel
                      by_cases hn2 : n < l0
                      · have hni : (n : Int) < (l0 : Int) := by omega
                        obtain ⟨xb1, xo1, ex, _, dx⟩ := rx.byte (i := n) (by rw [lX.out T hTs]; exact hn2)
                        subst ex
                        obtain ⟨yb1, yo1, ey, _, dy⟩ := ry.byte (i := n) (by rw [lY.out T hTs]; exact hn2)
                        subst ey
                        obtain ⟨zb1, zo1, ez, _, dz⟩ := rz.byte (i := n) (by rw [lZ.out T hTs]; exact hn2)
                        subst ez
                        rw [addL_co (by rw [nX.out]; exact hTs) (by rw [lX.out T hTs]; exact hn2)] at dz
                        have E := xor_u8 (co (ro X T) n) (co (ro Y T) n)
                        generalize (((co (ro X T) n ^^^ co (ro Y T) n).toNat : Nat) : Int) = zz at *
                        generalize (((co (ro X T) n).toNat : Nat) : Int) = xx at *
                        generalize (((co (ro Y T) n).toNat : Nat) : Int) = yy at *
                        have hq : (zz != zz) = false := by simp
                        clear q9 rx ry rz
                        go_wp2
                        go_quiet (fail)
                        go_wp2
                        go_roundw
                        case rel => exact ⟨n + 1, by omega, by go_num, _, by first | rfl | rw [World.drewN_drewN]⟩
                        case measure => simp [intOf]; omega
                      · have hni : ¬ (n : Int) < (l0 : Int) := by omega
                        clear q9 rx ry rz
                        go_wp2
                        go_roundw
                        case rel => exact ⟨T + 1, by omega, by go_num, _, by first | rfl | rw [World.drewN_drewN]⟩
                        case measure => simp [intOf]; omega
                  · have hTi : ¬ (T : Int) < (s : Int) := by omega
                    go_wp2
                    go_ret
                    exact ⟨rfl, Below.next B2.out ((Below.refl _ _).drewN _)⟩
              · have hb0 : (decX a0 a1 z2 z3 != 0) = true := by simp [hx]
                go_wp2_with fail
                refine (edec_any (k := a0) (m := a1) (F.below (by repeat (first | exact Below.refl _ _ | apply Below.drewN | apply Below.drew | apply Below.draws | apply below_lit))) (w2.below (by repeat (first | exact Below.refl _ _ | apply Below.drewN | apply Below.drew | apply Below.draws | apply below_lit))) (w3.below (by repeat (first | exact Below.refl _ _ | apply Below.drewN | apply Below.drew | apply Below.draws | apply below_lit))) (S3.h z2)).mono ?_
                rintro e u21 ⟨_, vx, rfl, Rx, b⟩
                have D : Below (World.heap wr |>.size) wr u21 := Below.next (by repeat (first | exact Below.refl _ _ | apply Below.drewN | apply Below.drew | apply Below.draws | apply below_lit)) b
                replace w2 := w2.below D
                replace w3 := w3.below D
                replace w4 := w4.below D
                replace F := F.below D
                replace Rl := Rl.below D
                replace B := Below.next B D
                clear b D
                obtain ⟨xa, xc, rfl⟩ := Rx.form
                clear Rx
                go_wp2_with fail
                refine (edec_any (k := a0) (m := a1) (F.below (by repeat (first | exact Below.refl _ _ | apply Below.drewN | apply Below.drew | apply Below.draws | apply below_lit))) (w2.below (by repeat (first | exact Below.refl _ _ | apply Below.drewN | apply Below.drew | apply Below.draws | apply below_lit))) (w4.below (by repeat (first | exact Below.refl _ _ | apply Below.drewN | apply Below.drew | apply Below.draws | apply below_lit))) (S4.h z2)).mono ?_
                rintro e u22 ⟨_, vy, rfl, Ry, b⟩
                rw [E1]
                have D : Below (World.heap u21 |>.size) u21 u22 := Below.next (by repeat (first | exact Below.refl _ _ | apply Below.drewN | apply Below.drew | apply Below.draws | apply below_lit)) b
                replace w2 := w2.below D
                replace w3 := w3.below D
                replace w4 := w4.below D
                replace F := F.below D
                replace Rl := Rl.below D
                replace B := Below.next B D
                clear b D
                obtain ⟨ya, yc, rfl⟩ := Ry.form
                clear Ry
                go_wp2_with fail
                refine (edec_any (k := a0) (m := a1) (F.below (by repeat (first | exact Below.refl _ _ | apply Below.drewN | apply Below.drew | apply Below.draws | apply below_lit))) (w2.below (by repeat (first | exact Below.refl _ _ | apply Below.drewN | apply Below.drew | apply Below.draws | apply below_lit))) (Rl.below (by repeat (first | exact Below.refl _ _ | apply Below.drewN | apply Below.drew | apply Below.draws | apply below_lit))) ((addL_small S3).h z2)).mono ?_
                rintro e u23 ⟨_, vz, rfl, Rz, b⟩
                rw [E2]
                have D : Below (World.heap u22 |>.size) u22 u23 := Below.next (by repeat (first | exact Below.refl _ _ | apply Below.drewN | apply Below.drew | apply Below.draws | apply below_lit)) b
                replace w2 := w2.below D
                replace w3 := w3.below D
                replace w4 := w4.below D
                replace F := F.below D
                replace Rl := Rl.below D
                replace B := Below.next B D
                clear b D
                obtain ⟨za, zc, rfl⟩ := Rz.form
                clear Rz
                clear E1 E2 hx
                generalize decX a0 a1 z2 z3 = eX at *
                generalize (decR a0 a1 z2 z3).length = nx at *
                generalize (decR a0 a1 z2 z4).length = ny at *
                generalize (decR a0 a1 z2 (addL z3 z4)).length = nz at *
                have q1 : (eX == eX) = true := by simp
                go_wp2
                go_ret
                exact ⟨rfl, Below.next B (by repeat (first | exact Below.refl _ _ | apply Below.drewN | apply Below.drew | apply Below.draws | apply below_lit))⟩
        · have q1 : ((z3.length : Int) != (z4.length : Int)) = true := by simp; omega
          clear hab
          go_wp2
          go_ret
          exact ⟨rfl, Below.next B (by repeat (first | exact Below.refl _ _ | apply Below.drewN | apply Below.drew | apply Below.draws | apply below_lit))⟩

/-! ### THE ROW's STEP: WRITTEN OUT: LEAVE IT -/
set_option maxRecDepth 100000 in
theorem lifted (os : Os) (started : os.Started) (H : Type) (enc : TypeId × Value → H) :
    ReturnsInHanded {} Try.checked os 8 .any (Rows.eraseSumsSpec.pre6 enc Try.prog Try.f8 Rows.eraseSumsRow.domain false) (Rows.eraseSumsSpec.post enc Try.prog Try.f8 false true false false) := by
  refine returnsInHanded_of_change (C := Try.checked) own started (by kernel_rfl) Try.func8
    (ChangeSpec.witness6 (enc := enc) (C := Try.checked) false ⟨#[], #[.int .i64 0, .int .i64 0, .slice none 0 0, .slice none 0 0, .slice none 0 0], []⟩ 8 (by kernel_rfl) (by kernel_rfl) (by kernel_rfl) (by kernel_rfl)) ?_
  intro W base args ds gs before hval0 hW hcnd _
  have hval : ∀ (j : Nat) t v, Try.f8.params[j]? = some t → args[j]? = some v → Value.okWide Try.prog W .any base t v := hval0
  have hW' := hW
  obtain ⟨p, q, hA0, hV, rfl, hfz, hnd⟩ := hW
  have hA : DataW.TrodAll enc Try.prog W 0 (fun _ => true) true Try.f8.params.toList args.toList ds p := hA0
  rw [Try.params8] at hA hval
  obtain ⟨v0, vs0, d0, ds0, p0, q0, hargs, rfl, rfl, h0, r0⟩ := trodAll_cons hA
  obtain ⟨v1, vs1, d1, ds1, p1, q1, rfl, rfl, rfl, h1, r1⟩ := trodAll_cons r0
  obtain ⟨v2, vs2, d2, ds2, p2, q2, rfl, rfl, rfl, h2, r2⟩ := trodAll_cons r1
  obtain ⟨v3, vs3, d3, ds3, p3, q3, rfl, rfl, rfl, h3, r3⟩ := trodAll_cons r2
  obtain ⟨v4, vs4, d4, ds4, p4, q4, rfl, rfl, rfl, h4, r4⟩ := trodAll_cons r3
  obtain ⟨rfl, rfl, rfl⟩ := trodAll_nil r4
  obtain rfl : args = #[v0, v1, v2, v3, v4] := by cases args; simp_all
  obtain ⟨rfl, rfl⟩ := trodVars_none hV
  obtain ⟨a0, rfl, rfl, rfl, w0⟩ := open_int Try.underlying3 (hval 0 3 v0 rfl rfl) h0
  obtain ⟨a1, rfl, rfl, rfl, w1⟩ := open_int Try.underlying3 (hval 1 3 v1 rfl rfl) h1
  obtain ⟨a2, len2, cap2, rfl⟩ := okWide_slice Try.underlying23 (hval 2 23 v2 rfl rfl)
  have k2 := h2
  have lt2 : ∀ x ∈ p2, x.block < W.heap.size := by obtain ⟨m, hm⟩ := k2; exact DataW.trod_lt m _ _ _ hm
  obtain ⟨z2, w2⟩ : ∃ zs, RdB W (.slice a2 len2 cap2) zs := by
    obtain ⟨fuel, hf⟩ := h2
    rcases Go.Deep.open_bools Try.underlying23 Try.underlying4 (by kernel_rfl) hf with ⟨hcs, _⟩ | ⟨x, l, c, B, hcs, _, hl, hm, _, hcell⟩
    · simp [Value.cells] at hcs
      obtain ⟨rfl, rfl, rfl⟩ := hcs
      exact ⟨[], rdB_none⟩
    · simp [Value.cells] at hcs
      obtain ⟨rfl, rfl, rfl⟩ := hcs
      exact rdB_row hl hm hcell
  obtain ⟨a3, len3, cap3, rfl⟩ := okWide_slice Try.underlying24 (hval 3 24 v3 rfl rfl)
  have k3 := h3
  have lt3 : ∀ x ∈ p3, x.block < W.heap.size := by obtain ⟨m, hm⟩ := k3; exact DataW.trod_lt m _ _ _ hm
  obtain ⟨z3, w3⟩ : ∃ zs, Rs W (.slice a3 len3 cap3) zs := by
    obtain ⟨fuel, hf⟩ := h3
    rcases Go.Deep.open_int_rows Try.underlying24 Try.underlying34 Try.underlying5 (by kernel_rfl) (by kernel_rfl) hf with ⟨hcs, _⟩ | ⟨x, l, c, A, N, C, Z, hcs, _, hl, hm, _, hrows⟩
    · simp [Value.cells] at hcs
      obtain ⟨rfl, rfl, rfl⟩ := hcs
      exact ⟨[], rs_none⟩
    · simp [Value.cells] at hcs
      obtain ⟨rfl, rfl, rfl⟩ := hcs
      exact rs_rows hl hm hrows
  obtain ⟨a4, len4, cap4, rfl⟩ := okWide_slice Try.underlying24 (hval 4 24 v4 rfl rfl)
  have k4 := h4
  have lt4 : ∀ x ∈ p4, x.block < W.heap.size := by obtain ⟨m, hm⟩ := k4; exact DataW.trod_lt m _ _ _ hm
  obtain ⟨z4, w4⟩ : ∃ zs, Rs W (.slice a4 len4 cap4) zs := by
    obtain ⟨fuel, hf⟩ := h4
    rcases Go.Deep.open_int_rows Try.underlying24 Try.underlying34 Try.underlying5 (by kernel_rfl) (by kernel_rfl) hf with ⟨hcs, _⟩ | ⟨x, l, c, A, N, C, Z, hcs, _, hl, hm, _, hrows⟩
    · simp [Value.cells] at hcs
      obtain ⟨rfl, rfl, rfl⟩ := hcs
      exact ⟨[], rs_none⟩
    · simp [Value.cells] at hcs
      obtain ⟨rfl, rfl, rfl⟩ := hcs
      exact rs_rows hl hm hrows
  clear hA0 hval0
  refine (walk a0 a1 a2 len2 cap2 z2 a3 len3 cap3 z3 a4 len4 cap4 z4 W w0 w1 w2 w3 w4).mono fun e W' ⟨he, bel⟩ => ?_
  subst he
  exact ⟨_, rfl, _, _, _, [], _, [], hW', trodAll_mk1 (shut_bool Try.underlying4 _), (trodAll_cons_mk (shut_int Try.underlying3 w0) (trodAll_cons_mk (shut_int Try.underlying3 w1) (trodAll_cons_mk (Below.trod laidOut (by kernel_rfl) (of_decide_eq_true (by kernel_rfl)) k2 bel lt2) (trodAll_cons_mk (Below.trod laidOut (by kernel_rfl) (of_decide_eq_true (by kernel_rfl)) k3 bel lt3) (trodAll_cons_mk (Below.trod laidOut (by kernel_rfl) (of_decide_eq_true (by kernel_rfl)) k4 bel lt4) trodAll_mk0))))), rfl, bel.frame _, fun h => by cases h⟩

theorem over : Rows.eraseSumsRow.holds Try.pinned (OpenSpec.ofChange Rows.eraseSumsSpec) :=
  OpenClaim.holds_of_wide 8 Try.f8 rfl rfl rfl rfl rfl rfl rfl ⟨rfl, rfl, rfl, rfl, rfl⟩ rfl rfl rfl rfl rfl (by kernel_rfl) Try.func8 (by kernel_rfl)
    (of_decide_eq_true (by kernel_rfl)) (by unfold Func.isWrapper; first | (rw [if_pos (by decide +kernel)]; kernel_rfl) | (rw [if_neg (by decide +kernel)]; exact ⟨rfl, rfl⟩))
    (fun os started H enc _ => lifted os started H enc)

/-- ████ THE STATEMENT ████ -/
theorem proved : Rows.EraseSumsSaid := over
end Go.Proofs.Ytkjolopdpihigaa.eraseSums
namespace Go.Proofs.Ytkjolopdpihigaa
theorem eraseSums_holds : Rows.EraseSumsSaid := eraseSums.proved
#print axioms eraseSums_holds
end Go.Proofs.Ytkjolopdpihigaa
