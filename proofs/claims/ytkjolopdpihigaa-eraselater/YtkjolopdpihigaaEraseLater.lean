/- PROVED: for all k, m, all slices has of bools, all slices shards of byte slices and all bytes by the call EraseLater(k, m, has, shards, by) returns true, and its arguments read behind it as before; no conditions. -/
import Derived.Test.YtkjolopdpihigaaRows
import Derived.Test.YtkjolopdpihigaaTome10
import Derived.WalkKit
import Derived.ProofKit
import Derived.OpenShut
import Derived.ShutString
import Derived.ChangeOld
import Derived.Below
import Derived.Deep.Grids
import Derived.Deep.Matrix
namespace Go.Proofs.Ytkjolopdpihigaa.eraseLater
open Go.ChangeShapes Go.WideShapes Go.ChangeAt Go.RowKit
open Go.ChangeMaps (open_string shut_string)
set_option linter.unusedVariables false

theorem own : ownKnob Try.prog.godebug = none := by kernel_rfl
theorem laidOut : laidOutB Try.prog = true := by kernel_rfl

/-- WHAT THE WALK IS TOLD OF A SLICE OF INTEGERS THAT CAME IN: it is nil; or it leads to a row of 'cap' cells, the numbers 'zs' (the first 'len' are its elements, the rest its spare room), each fitting its kind. -/
def IsRow (k : IntKind) (w : World) (a : Option Addr) (len cap : Nat) (zs : List Int) : Prop :=
  (a = none ∧ len = 0 ∧ cap = 0 ∧ zs = []) ∨
  ∃ x, a = some x ∧ len ≤ cap ∧ cap ≤ maxLen ∧ zs.length = cap ∧ (∀ i, i < zs.length → w.cell? (x.add i) = some (.int k (zs.getD i 0))) ∧ ∀ n ∈ zs, (Lit.int k n).wf = true

open Gf
set_option linter.unusedSimpArgs false
set_option maxRecDepth 100000 in
set_option maxHeartbeats 4000000 in
theorem walk (a0 : Int) (a1 : Int) (a2 : Option Addr) (len2 cap2 : Nat) (z2 : List Bool) (a3 : Option Addr) (len3 cap3 : Nat) (z3 : List (List UInt8)) (a4 : Int) (w : World) (w0 : (Lit.int .i64 a0).wf = true) (w1 : (Lit.int .i64 a1).wf = true) (w2 : RdB w (.slice a2 len2 cap2) z2) (w3 : Rs w (.slice a3 len3 cap3) z3) (w4 : (Lit.int .u8 a4).wf = true) :
    Calls Try.prog 7 #[.int .i64 a0, .int .i64 a1, .slice a2 len2 cap2, .slice a3 len3 cap3, .int .u8 a4] w fun e w' => e = .returned (.bool true) ∧ Below w.heap.size w w' := by
  obtain ⟨by1, rfl⟩ : ∃ y : UInt8, a4 = ((y.toNat : Nat) : Int) := ⟨UInt8.ofNat a4.toNat, by have := bounds_u8 w4; rw [ofNat_u8 (by omega)]; omega⟩
  obtain rfl := w2.lenEq
  obtain rfl := w3.lenEq
  go_enter Try.func7, Try.ntmps7
  have B : Below w.heap.size w w := Below.refl _ _
  go_wp2_with fail
  refine (awake7_any _).mono ?_
  rintro e u1 ⟨rfl, b⟩
  have D : Below (World.heap w |>.size) w u1 := Below.next (by repeat (first | exact Below.refl _ _ | apply Below.drewN | apply Below.drew | apply Below.draws | apply below_lit)) b
  replace w2 := w2.below D
  replace w3 := w3.below D
  replace B := Below.next B D
  clear b D
  go_wp2_with fail
  refine (new_any _).mono ?_
  rintro e u2 ⟨rfl, F, hO⟩
  have b := hO.below
  clear hO
  have D : Below (World.heap u1 |>.size) u1 u2 := Below.next (by repeat (first | exact Below.refl _ _ | apply Below.drewN | apply Below.drew | apply Below.draws | apply below_lit)) b
  replace w2 := w2.below D
  replace w3 := w3.below D
  replace B := Below.next B D
  clear b D
  go_wp2_with fail
  refine (few_any a0 a1 (w3.below (by repeat (first | exact Below.refl _ _ | apply Below.drewN | apply Below.drew | apply Below.draws | apply below_lit)))).mono ?_
  rintro e u3 ⟨t0, rfl, hS0, b⟩
  have D : Below (World.heap u2 |>.size) u2 u3 := Below.next (by repeat (first | exact Below.refl _ _ | apply Below.drewN | apply Below.drew | apply Below.draws | apply below_lit)) b
  replace w2 := w2.below D
  replace w3 := w3.below D
  replace F := F.below D
  replace B := Below.next B D
  clear b D
  cases t0
  · go_wp2
    go_ret
    exact ⟨rfl, Below.next B (by repeat (first | exact Below.refl _ _ | apply Below.drewN | apply Below.drew | apply Below.draws | apply below_lit))⟩
  · have S3 := hS0 rfl
    clear hS0
    by_cases h20 : (z3.length : Int) > 20
    · skip
      go_wp2
      go_ret
      exact ⟨rfl, Below.next B (by repeat (first | exact Below.refl _ _ | apply Below.drewN | apply Below.drew | apply Below.draws | apply below_lit))⟩
    · have hlen : ¬ (z3.length : Int) > 20 := h20
      go_wp2_with fail
      refine (edec_any (k := a0) (m := a1) (F.below (by repeat (first | exact Below.refl _ _ | apply Below.drewN | apply Below.drew | apply Below.draws | apply below_lit))) (w2.below (by repeat (first | exact Below.refl _ _ | apply Below.drewN | apply Below.drew | apply Below.draws | apply below_lit))) (w3.below (by repeat (first | exact Below.refl _ _ | apply Below.drewN | apply Below.drew | apply Below.draws | apply below_lit))) (S3.h z2)).mono ?_
      rintro e u4 ⟨_, va, rfl, Ra, b⟩
      have D : Below (World.heap u3 |>.size) u3 u4 := Below.next (by repeat (first | exact Below.refl _ _ | apply Below.drewN | apply Below.drew | apply Below.draws | apply below_lit)) b
      replace w2 := w2.below D
      replace w3 := w3.below D
      replace F := F.below D
      replace B := Below.next B D
      clear b D
      obtain ⟨xa, xc, rfl⟩ := Ra.form
      have hSr : Hid (∀ i, (ro z3 i).length ≤ 300) := S3.2
      have hzl := w2.len
      unfold maxLen at hzl
      go_wp2_with fail
      refine (rcop_any (w3.below (by repeat (first | exact Below.refl _ _ | apply Below.drewN | apply Below.drew | apply Below.draws | apply below_lit))) S3).mono ?_
      rintro e v9 ⟨vo, rfl, Oo, b⟩
      have D : Below (World.heap u4 |>.size) u4 v9 := Below.next (by repeat (first | exact Below.refl _ _ | apply Below.drewN | apply Below.drew | apply Below.draws | apply below_lit)) b
      clear b
      obtain ⟨oa, oc, rfl⟩ := Oo.form
      have hbase := D.size
      obtain ⟨B0, hB0⟩ : ∃ B0, Hid (B0 = (World.heap u4 |>.size)) := ⟨_, rfl⟩
      have HO1 : Hid (Gf.Os v9 B0 34 5 (.slice oa z3.length oc) (latP z3 z2 a0 by1 0 0)) := (by rw [latP_zero, hB0.out]; exact Oo.base (by simp) : Gf.Os v9 B0 34 5 (.slice oa z3.length oc) (latP z3 z2 a0 by1 0 0))
      have HB1 : Hid (Below B0 u4 v9) := (by rw [hB0.out]; exact D : Below B0 u4 v9)
      clear D Oo h20 hlen hbase
      have wb : Hid (∀ W, Below B0 u4 W → RdB W (.slice a2 z2.length cap2) z2) := fun W hW => w2.below (by rw [← hB0.out]; exact hW)
      generalize hxX : decX a0 a1 z2 z3 = eX at *
      generalize hxR : decR a0 a1 z2 z3 = eR at *
      have hxX1 : Hid _ := hxX
      have hxR1 : Hid _ := hxR
      clear hxX hxR
      go_wp2
      go_loopw [17, 18] (fun c i wr => ∃ r : Nat, r ≤ z3.length ∧ r ≤ z2.length ∧ i = .int .i64 (r : Int) ∧ c = .int .i64 (((thr z2 r).length : Nat) : Int) ∧ Gf.Os wr B0 34 5 (.slice oa z3.length oc) (latP z3 z2 a0 by1 r 0) ∧ Below B0 u4 wr) (fun _ i _ => z3.length - (intOf i).toNat)
      case atStart => exact ⟨0, by omega, by omega, rfl, rfl, HO1.out, HB1.out⟩
      case round =>
        obtain ⟨r, hr, hr2, rfl, rfl, hO, hB⟩ := hrel
        clear HO1 HB1
        have hq := thr_len z2 r
        have hS1 := S3.1
        by_cases hlt : r < z2.length ∧ r < z3.length
        · obtain ⟨hltA, hltB⟩ := hlt
          have hltA1 : (r : Int) < (List.length z2 : Int) := by omega
          have hltB1 : (r : Int) < (List.length z3 : Int) := by omega
          obtain ⟨hb1, ho1, eh, hb1l, ch⟩ := (wb.out _ hB).at (i := r) hltA
          subst eh
          obtain ⟨T, hT⟩ : ∃ T, Hid (T = (thr z2 (r + 1)).length) := ⟨_, rfl⟩
          have hT5 : T ≤ 301 := by rw [hT.out]; have := thr_len z2 (r + 1); omega
          cases e : hb z2 r
          · rw [e] at ch
            have hTe : Hid (T = (thr z2 r).length) := (by rw [hT.out, thr_no e] : T = (thr z2 r).length)
            go_wp2
            go_loopw [19] (fun i wr => ∃ n : Nat, n ≤ (ro z3 r).length ∧ i = .int .i64 (n : Int) ∧ Gf.Os wr B0 34 5 (.slice oa z3.length oc) (latP z3 z2 a0 by1 r n) ∧ Below B0 u4 wr) (fun i _ => (ro z3 r).length - (intOf i).toNat)
            case atStart => exact ⟨0, by omega, rfl, hO, hB⟩
            case round =>
              clear hO hB ch
              obtain ⟨n, hn, rfl, hO, hB⟩ := hrel
              have hlnA := hSr.out r
              have ch : World.cell? wr ⟨hb1, ho1 + r, none⟩ = some (.bool false) := by have := (wb.out _ hB).get hltA; rwa [e] at this
              by_cases hn2 : n < (ro z3 r).length
              · have hn2i : (n : Int) < ((ro z3 r).length : Int) := by omega
                obtain ⟨G, C, g, c, ev, cG, cg, fg, k1, k2, k3, k4, hset⟩ := hO.byte (i := r) (n := n) (by rw [latP_length]; exact hltB) (by rw [latP_row hltB]; exact hn2)
                simp at ev
                obtain ⟨eo, e5, e6⟩ := ev
                clear e5 e6
                subst eo
                rw [latP_row hltB] at cG
                rw [latP_at hltB hn2] at cg
                have hl : ltr z2 a0 r := Or.inr e
                by_cases hgt : (T : Int) > a0
                · have hgt1 : (((thr z2 r).length : Nat) : Int) > a0 := by rw [← hTe.out]; exact hgt
                  clear hgt
                  have E := xor_u8 (co (ro z3 r) n) by1
                  have HOn : Hid (Gf.Os (World.setCell wr ⟨g, n, none⟩ (.int .u8 (((co (ro z3 r) n).toNat ^^^ by1.toNat : Nat) : Int))) B0 34 5 (.slice (some ⟨G, 0, none⟩) z3.length oc) (latP z3 z2 a0 by1 r (n + 1))) := (by rw [← UInt8.toNat_xor, ← latP_step hl hltB hn2]; exact hset _ : Gf.Os (World.setCell wr ⟨g, n, none⟩ (.int .u8 (((co (ro z3 r) n).toNat ^^^ by1.toNat : Nat) : Int))) B0 34 5 (.slice (some ⟨G, 0, none⟩) z3.length oc) (latP z3 z2 a0 by1 r (n + 1)))
                  have HBn : Hid (Below B0 u4 (World.setCell wr ⟨g, n, none⟩ (.int .u8 (((co (ro z3 r) n).toNat ^^^ by1.toNat : Nat) : Int)))) := hB.setCell k1 _
                  clear hset hO hB hl
                  go_wp2
                  go_region
                  all_goals
                    go_wp2
                    go_roundw
                    case rel => exact ⟨n + 1, by omega, by go_num, Os.drw HOn.out, HBn.out.drew⟩
                    case measure => simp [intOf]; omega
                · have hgt1 : ¬ (((thr z2 r).length : Nat) : Int) > a0 := by rw [← hTe.out]; exact hgt
                  have hgt2 : decide ((((thr z2 r).length : Nat) : Int) > a0) = false := decide_eq_false hgt1
                  have hgt3 : decide (a0 < (((thr z2 r).length : Nat) : Int)) = false := decide_eq_false hgt1
                  clear hgt
                  have E := xor_u8 (co (ro z3 r) n) by1
                  have HOn : Hid (Gf.Os (World.setCell wr ⟨g, n, none⟩ (.int .u8 (((co (ro z3 r) n).toNat ^^^ by1.toNat : Nat) : Int))) B0 34 5 (.slice (some ⟨G, 0, none⟩) z3.length oc) (latP z3 z2 a0 by1 r (n + 1))) := (by rw [← UInt8.toNat_xor, ← latP_step hl hltB hn2]; exact hset _ : Gf.Os (World.setCell wr ⟨g, n, none⟩ (.int .u8 (((co (ro z3 r) n).toNat ^^^ by1.toNat : Nat) : Int))) B0 34 5 (.slice (some ⟨G, 0, none⟩) z3.length oc) (latP z3 z2 a0 by1 r (n + 1)))
                  have HBn : Hid (Below B0 u4 (World.setCell wr ⟨g, n, none⟩ (.int .u8 (((co (ro z3 r) n).toNat ^^^ by1.toNat : Nat) : Int)))) := hB.setCell k1 _
                  clear hset hO hB hl
                  go_wp2
                  go_region
                  all_goals
                    go_wp2
                    go_roundw
                    case rel => exact ⟨n + 1, by omega, by go_num, Os.drw HOn.out, HBn.out.drew⟩
                    case measure => simp [intOf]; omega
              · have hn2i : ¬ (n : Int) < ((ro z3 r).length : Int) := by omega
                obtain ⟨Ga, go, za, zc, eo, hG, cG, rG⟩ := hO.rs.at (i := r) (by rw [latP_length]; exact hltB)
                subst eo
                rw [latP_row hltB] at cG
                clear rG
                have HOn : Hid (Gf.Os wr B0 34 5 (.slice (some ⟨Ga, go, none⟩) z3.length oc) (latP z3 z2 a0 by1 (r + 1) 0)) := (by rw [← latP_next (c := n) hltB (Or.inr (by omega))]; exact hO : Gf.Os wr B0 34 5 (.slice (some ⟨Ga, go, none⟩) z3.length oc) (latP z3 z2 a0 by1 (r + 1) 0))
                have HBn : Hid _ := hB
                clear hO hB
                go_wp2
                go_roundw
                case rel => exact ⟨r + 1, by omega, by omega, by go_num, by rw [← hT.out, hTe.out], HOn.out, HBn.out⟩
                case measure => simp [intOf]; omega
          · rw [e] at ch
            have hTe : Hid (T = (thr z2 r).length + 1) := (by rw [hT.out, thr_yes e, List.length_append]; rfl : T = (thr z2 r).length + 1)
            have gwT : IntKind.i64.wrap ((((thr z2 r).length : Nat) : Int) + 1) = (((thr z2 r).length : Nat) : Int) + 1 := by rw [IntKind.wrap_i64]; omega
            go_wp2
            go_loopw [19] (fun i wr => ∃ n : Nat, n ≤ (ro z3 r).length ∧ i = .int .i64 (n : Int) ∧ Gf.Os wr B0 34 5 (.slice oa z3.length oc) (latP z3 z2 a0 by1 r n) ∧ Below B0 u4 wr) (fun i _ => (ro z3 r).length - (intOf i).toNat)
            case atStart => exact ⟨0, by omega, rfl, hO, hB⟩
            case round =>
              clear hO hB ch
              obtain ⟨n, hn, rfl, hO, hB⟩ := hrel
              have hlnA := hSr.out r
              have ch : World.cell? wr ⟨hb1, ho1 + r, none⟩ = some (.bool true) := by have := (wb.out _ hB).get hltA; rwa [e] at this
              by_cases hn2 : n < (ro z3 r).length
              · have hn2i : (n : Int) < ((ro z3 r).length : Int) := by omega
                obtain ⟨G, C, g, c, ev, cG, cg, fg, k1, k2, k3, k4, hset⟩ := hO.byte (i := r) (n := n) (by rw [latP_length]; exact hltB) (by rw [latP_row hltB]; exact hn2)
                simp at ev
                obtain ⟨eo, e5, e6⟩ := ev
                clear e5 e6
                subst eo
                rw [latP_row hltB] at cG
                rw [latP_at hltB hn2] at cg
                by_cases hgt : (T : Int) > a0
                · have hl : ltr z2 a0 r := Or.inl (by rw [← hT.out]; exact hgt)
                  have hgt1 : (((thr z2 r).length : Nat) : Int) + 1 > a0 := by have := hTe.out; omega
                  clear hgt
                  have E := xor_u8 (co (ro z3 r) n) by1
                  have HOn : Hid (Gf.Os (World.setCell wr ⟨g, n, none⟩ (.int .u8 (((co (ro z3 r) n).toNat ^^^ by1.toNat : Nat) : Int))) B0 34 5 (.slice (some ⟨G, 0, none⟩) z3.length oc) (latP z3 z2 a0 by1 r (n + 1))) := (by rw [← UInt8.toNat_xor, ← latP_step hl hltB hn2]; exact hset _ : Gf.Os (World.setCell wr ⟨g, n, none⟩ (.int .u8 (((co (ro z3 r) n).toNat ^^^ by1.toNat : Nat) : Int))) B0 34 5 (.slice (some ⟨G, 0, none⟩) z3.length oc) (latP z3 z2 a0 by1 r (n + 1)))
                  have HBn : Hid (Below B0 u4 (World.setCell wr ⟨g, n, none⟩ (.int .u8 (((co (ro z3 r) n).toNat ^^^ by1.toNat : Nat) : Int)))) := hB.setCell k1 _
                  clear hset hO hB hl
                  go_wp2
                  go_region
                  all_goals
                    go_wp2
                    go_roundw
                    case rel => exact ⟨n + 1, by omega, by go_num, Os.drw HOn.out, HBn.out.drew⟩
                    case measure => simp [intOf]; omega
                · have hl : ¬ ltr z2 a0 r := fun q => q.elim (fun q => hgt (by rw [hT.out]; exact q)) (fun q => by rw [e] at q; cases q)
                  have hgt1 : ¬ (((thr z2 r).length : Nat) : Int) + 1 > a0 := by have := hTe.out; omega
                  have hgt2 : decide ((((thr z2 r).length : Nat) : Int) + 1 > a0) = false := decide_eq_false hgt1
                  have hgt3 : decide (a0 < (((thr z2 r).length : Nat) : Int) + 1) = false := decide_eq_false hgt1
                  clear hgt hset
                  have HOn : Hid (Gf.Os wr B0 34 5 (.slice (some ⟨G, 0, none⟩) z3.length oc) (latP z3 z2 a0 by1 (r + 1) 0)) := (by rw [← latP_next (c := n) hltB (Or.inl hl)]; exact hO : Gf.Os wr B0 34 5 (.slice (some ⟨G, 0, none⟩) z3.length oc) (latP z3 z2 a0 by1 (r + 1) 0))
                  have HBn : Hid _ := hB
                  clear hO hB
                  go_wp2
                  go_roundw
                  case rel => exact ⟨r + 1, by omega, by omega, by go_num, by rw [← hT.out, hTe.out]; go_num, HOn.out, HBn.out⟩
                  case measure => simp [intOf]; omega
              · have hn2i : ¬ (n : Int) < ((ro z3 r).length : Int) := by omega
                obtain ⟨Ga, go, za, zc, eo, hG, cG, rG⟩ := hO.rs.at (i := r) (by rw [latP_length]; exact hltB)
                subst eo
                rw [latP_row hltB] at cG
                clear rG
                have HOn : Hid (Gf.Os wr B0 34 5 (.slice (some ⟨Ga, go, none⟩) z3.length oc) (latP z3 z2 a0 by1 (r + 1) 0)) := (by rw [← latP_next (c := n) hltB (Or.inr (by omega))]; exact hO : Gf.Os wr B0 34 5 (.slice (some ⟨Ga, go, none⟩) z3.length oc) (latP z3 z2 a0 by1 (r + 1) 0))
                have HBn : Hid _ := hB
                clear hO hB
                go_wp2
                go_roundw
                case rel => exact ⟨r + 1, by omega, by omega, by go_num, by rw [← hT.out, hTe.out]; go_num, HOn.out, HBn.out⟩
                case measure => simp [intOf]; omega
        · obtain ⟨E1, E2⟩ := lat_dec (L := z3) (h := z2) (k := a0) (m := a1) (y := by1) (i := r) (c := 0)
          rw [hxX1.out] at E1
          rw [hxR1.out] at E2
          have Rl := hO.rs
          have hD : Below (World.heap u4 |>.size) u4 wr := by rw [← hB0.out]; exact hB
          replace w2 := w2.below hD
          replace w3 := w3.below hD
          replace F := F.below hD
          replace Ra := Ra.below hD
          replace B := Below.next B hD
          clear hO hB hD wb hSr
          by_cases hlA : r < z2.length
          · have hltA1 : (r : Int) < (List.length z2 : Int) := by omega
            have hltB1 : ¬ (r : Int) < (List.length z3 : Int) := by omega
            clear hlt hlA
            go_wp2_with fail
            refine (edec_any (k := a0) (m := a1) (L := latP z3 z2 a0 by1 r 0) (F.below (by repeat (first | exact Below.refl _ _ | apply Below.drewN | apply Below.drew | apply Below.draws | apply below_lit))) (w2.below (by repeat (first | exact Below.refl _ _ | apply Below.drewN | apply Below.drew | apply Below.draws | apply below_lit))) (Rl.below (by repeat (first | exact Below.refl _ _ | apply Below.drewN | apply Below.drew | apply Below.draws | apply below_lit))) ((lat_small S3).h z2)).mono ?_
            rintro e u21 ⟨_, vy, rfl, Ry, b⟩
            rw [E1]
            rw [E2] at Ry
            have D : Below (World.heap wr |>.size) wr u21 := Below.next (by repeat (first | exact Below.refl _ _ | apply Below.drewN | apply Below.drew | apply Below.draws | apply below_lit)) b
            replace w2 := w2.below D
            replace w3 := w3.below D
            replace F := F.below D
            replace Ra := Ra.below D
            replace Rl := Rl.below D
            replace B := Below.next B D
            clear b D
            obtain ⟨ya, yc, rfl⟩ := Ry.form
            clear E1 E2
            go_wp2_with fail
            refine (same6_t (Ra.below (by repeat (first | exact Below.refl _ _ | apply Below.drewN | apply Below.drew | apply Below.draws | apply below_lit))) (Ry.below (by repeat (first | exact Below.refl _ _ | apply Below.drewN | apply Below.drew | apply Below.draws | apply below_lit))) rfl).mono ?_
            rintro e u22 ⟨rfl, b⟩
            have D : Below (World.heap u21 |>.size) u21 u22 := Below.next (by repeat (first | exact Below.refl _ _ | apply Below.drewN | apply Below.drew | apply Below.draws | apply below_lit)) b
            replace w2 := w2.below D
            replace w3 := w3.below D
            replace F := F.below D
            replace Ra := Ra.below D
            replace Rl := Rl.below D
            replace Ry := Ry.below D
            replace B := Below.next B D
            clear b D
            have q1 : (eX == eX) = true := by simp
            go_wp2
            go_ret
            exact ⟨rfl, Below.next B (by repeat (first | exact Below.refl _ _ | apply Below.drewN | apply Below.drew | apply Below.draws | apply below_lit))⟩
          · have hltA1 : ¬ (r : Int) < (List.length z2 : Int) := by omega
            have hltA2 : decide ((r : Int) < (List.length z2 : Int)) = false := decide_eq_false hltA1
            clear hlt hlA
            go_wp2_with fail
            refine (edec_any (k := a0) (m := a1) (L := latP z3 z2 a0 by1 r 0) (F.below (by repeat (first | exact Below.refl _ _ | apply Below.drewN | apply Below.drew | apply Below.draws | apply below_lit))) (w2.below (by repeat (first | exact Below.refl _ _ | apply Below.drewN | apply Below.drew | apply Below.draws | apply below_lit))) (Rl.below (by repeat (first | exact Below.refl _ _ | apply Below.drewN | apply Below.drew | apply Below.draws | apply below_lit))) ((lat_small S3).h z2)).mono ?_
            rintro e u21 ⟨_, vy, rfl, Ry, b⟩
            rw [E1]
            rw [E2] at Ry
            have D : Below (World.heap wr |>.size) wr u21 := Below.next (by repeat (first | exact Below.refl _ _ | apply Below.drewN | apply Below.drew | apply Below.draws | apply below_lit)) b
            replace w2 := w2.below D
            replace w3 := w3.below D
            replace F := F.below D
            replace Ra := Ra.below D
            replace Rl := Rl.below D
            replace B := Below.next B D
            clear b D
            obtain ⟨ya, yc, rfl⟩ := Ry.form
            clear E1 E2
            go_wp2_with fail
            refine (same6_t (Ra.below (by repeat (first | exact Below.refl _ _ | apply Below.drewN | apply Below.drew | apply Below.draws | apply below_lit))) (Ry.below (by repeat (first | exact Below.refl _ _ | apply Below.drewN | apply Below.drew | apply Below.draws | apply below_lit))) rfl).mono ?_
            rintro e u22 ⟨rfl, b⟩
            have D : Below (World.heap u21 |>.size) u21 u22 := Below.next (by repeat (first | exact Below.refl _ _ | apply Below.drewN | apply Below.drew | apply Below.draws | apply below_lit)) b
            replace w2 := w2.below D
            replace w3 := w3.below D
            replace F := F.below D
            replace Ra := Ra.below D
            replace Rl := Rl.below D
            replace Ry := Ry.below D
            replace B := Below.next B D
            clear b D
            have q1 : (eX == eX) = true := by simp
            go_wp2
            go_ret
            exact ⟨rfl, Below.next B (by repeat (first | exact Below.refl _ _ | apply Below.drewN | apply Below.drew | apply Below.draws | apply below_lit))⟩

/-! ### THE ROW's STEP: WRITTEN OUT: LEAVE IT -/
set_option maxRecDepth 100000 in
theorem lifted (os : Os) (started : os.Started) (H : Type) (enc : TypeId × Value → H) :
    ReturnsInHanded {} Try.checked os 7 .any (Rows.eraseLaterSpec.pre6 enc Try.prog Try.f7 Rows.eraseLaterRow.domain false) (Rows.eraseLaterSpec.post enc Try.prog Try.f7 false true false false) := by
  refine returnsInHanded_of_change (C := Try.checked) own started (by kernel_rfl) Try.func7
    (ChangeSpec.witness6 (enc := enc) (C := Try.checked) false ⟨#[], #[.int .i64 0, .int .i64 0, .slice none 0 0, .slice none 0 0, .int .u8 0], []⟩ 8 (by kernel_rfl) (by kernel_rfl) (by kernel_rfl) (by kernel_rfl)) ?_
  intro W base args ds gs before hval0 hW hcnd _
  have hval : ∀ (j : Nat) t v, Try.f7.params[j]? = some t → args[j]? = some v → Value.okWide Try.prog W .any base t v := hval0
  have hW' := hW
  obtain ⟨p, q, hA0, hV, rfl, hfz, hnd⟩ := hW
  have hA : DataW.TrodAll enc Try.prog W 0 (fun _ => true) true Try.f7.params.toList args.toList ds p := hA0
  rw [Try.params7] at hA hval
  obtain ⟨v0, vs0, d0, ds0, p0, q0, hargs, rfl, rfl, h0, r0⟩ := trodAll_cons hA
  obtain ⟨v1, vs1, d1, ds1, p1, q1, rfl, rfl, rfl, h1, r1⟩ := trodAll_cons r0
  obtain ⟨v2, vs2, d2, ds2, p2, q2, rfl, rfl, rfl, h2, r2⟩ := trodAll_cons r1
  obtain ⟨v3, vs3, d3, ds3, p3, q3, rfl, rfl, rfl, h3, r3⟩ := trodAll_cons r2
  obtain ⟨v4, vs4, d4, ds4, p4, q4, rfl, rfl, rfl, h4, r4⟩ := trodAll_cons r3
  obtain ⟨rfl, rfl, rfl⟩ := trodAll_nil r4
  obtain rfl : args = #[v0, v1, v2, v3, v4] := by cases args; simp_all
  obtain ⟨rfl, rfl⟩ := trodVars_none hV
  obtain ⟨a0, rfl, rfl, rfl, w0⟩ := open_int Try.underlying3 (hval 0 3 v0 rfl rfl) h0
  obtain ⟨a1, rfl, rfl, rfl, w1⟩ := open_int Try.underlying3 (hval 1 3 v1 rfl rfl) h1
  obtain ⟨a2, len2, cap2, rfl⟩ := okWide_slice Try.underlying23 (hval 2 23 v2 rfl rfl)
  have k2 := h2
  have lt2 : ∀ x ∈ p2, x.block < W.heap.size := by obtain ⟨m, hm⟩ := k2; exact DataW.trod_lt m _ _ _ hm
  obtain ⟨z2, w2⟩ : ∃ zs, RdB W (.slice a2 len2 cap2) zs := by
    obtain ⟨fuel, hf⟩ := h2
    rcases Go.Deep.open_bools Try.underlying23 Try.underlying4 (by kernel_rfl) hf with ⟨hcs, _⟩ | ⟨x, l, c, B, hcs, _, hl, hm, _, hcell⟩
    · simp [Value.cells] at hcs
      obtain ⟨rfl, rfl, rfl⟩ := hcs
      exact ⟨[], rdB_none⟩
    · simp [Value.cells] at hcs
      obtain ⟨rfl, rfl, rfl⟩ := hcs
      exact rdB_row hl hm hcell
  obtain ⟨a3, len3, cap3, rfl⟩ := okWide_slice Try.underlying24 (hval 3 24 v3 rfl rfl)
  have k3 := h3
  have lt3 : ∀ x ∈ p3, x.block < W.heap.size := by obtain ⟨m, hm⟩ := k3; exact DataW.trod_lt m _ _ _ hm
  obtain ⟨z3, w3⟩ : ∃ zs, Rs W (.slice a3 len3 cap3) zs := by
    obtain ⟨fuel, hf⟩ := h3
    rcases Go.Deep.open_int_rows Try.underlying24 Try.underlying34 Try.underlying5 (by kernel_rfl) (by kernel_rfl) hf with ⟨hcs, _⟩ | ⟨x, l, c, A, N, C, Z, hcs, _, hl, hm, _, hrows⟩
    · simp [Value.cells] at hcs
      obtain ⟨rfl, rfl, rfl⟩ := hcs
      exact ⟨[], rs_none⟩
    · simp [Value.cells] at hcs
      obtain ⟨rfl, rfl, rfl⟩ := hcs
      exact rs_rows hl hm hrows
  obtain ⟨a4, rfl, rfl, rfl, w4⟩ := open_int Try.underlying5 (hval 4 5 v4 rfl rfl) h4
  clear hA0 hval0
  refine (walk a0 a1 a2 len2 cap2 z2 a3 len3 cap3 z3 a4 W w0 w1 w2 w3 w4).mono fun e W' ⟨he, bel⟩ => ?_
  subst he
  exact ⟨_, rfl, _, _, _, [], _, [], hW', trodAll_mk1 (shut_bool Try.underlying4 _), (trodAll_cons_mk (shut_int Try.underlying3 w0) (trodAll_cons_mk (shut_int Try.underlying3 w1) (trodAll_cons_mk (Below.trod laidOut (by kernel_rfl) (of_decide_eq_true (by kernel_rfl)) k2 bel lt2) (trodAll_cons_mk (Below.trod laidOut (by kernel_rfl) (of_decide_eq_true (by kernel_rfl)) k3 bel lt3) (trodAll_cons_mk (shut_int Try.underlying5 w4) trodAll_mk0))))), rfl, bel.frame _, fun h => by cases h⟩

theorem over : Rows.eraseLaterRow.holds Try.pinned (OpenSpec.ofChange Rows.eraseLaterSpec) :=
  OpenClaim.holds_of_wide 7 Try.f7 rfl rfl rfl rfl rfl rfl rfl ⟨rfl, rfl, rfl, rfl, rfl⟩ rfl rfl rfl rfl rfl (by kernel_rfl) Try.func7 (by kernel_rfl)
    (of_decide_eq_true (by kernel_rfl)) (by unfold Func.isWrapper; first | (rw [if_pos (by decide +kernel)]; kernel_rfl) | (rw [if_neg (by decide +kernel)]; exact ⟨rfl, rfl⟩))
    (fun os started H enc _ => lifted os started H enc)

/-- ████ THE STATEMENT ████ -/
theorem proved : Rows.EraseLaterSaid := over
end Go.Proofs.Ytkjolopdpihigaa.eraseLater
namespace Go.Proofs.Ytkjolopdpihigaa
theorem eraseLater_holds : Rows.EraseLaterSaid := eraseLater.proved
#print axioms eraseLater_holds
end Go.Proofs.Ytkjolopdpihigaa
