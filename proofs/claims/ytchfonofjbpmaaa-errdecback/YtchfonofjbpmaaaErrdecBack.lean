/- PROVED: for all k, m, all lists data and by and all slices missing of bools the call ErrdecBack(k, m, data, missing, by) returns true, and its arguments read behind it as before; no conditions. -/
import Derived.Test.YtchfonofjbpmaaaRows
import Derived.Test.YtchfonofjbpmaaaTome14
import Derived.Test.YtchfonofjbpmaaaTome21
import Derived.Test.YtchfonofjbpmaaaTome5
import Derived.WalkKit
import Derived.ProofKit
import Derived.OpenShut
import Derived.ShutString
import Derived.ChangeOld
import Derived.Below
import Derived.Deep.Grids
namespace Go.Proofs.Ytchfonofjbpmaaa.errdecBack
open Go.ChangeShapes Go.WideShapes Go.ChangeAt Go.RowKit
open Go.ChangeMaps (open_string shut_string)
set_option linter.unusedVariables false

theorem own : ownKnob Try.prog.godebug = none := by kernel_rfl
theorem laidOut : laidOutB Try.prog = true := by kernel_rfl

/-- WHAT THE WALK IS TOLD OF A SLICE OF INTEGERS THAT CAME IN: it is nil; or it leads to a row of 'cap' cells, the numbers 'zs' (the first 'len' are its elements, the rest its spare room), each fitting its kind. -/
def IsRow (k : IntKind) (w : World) (a : Option Addr) (len cap : Nat) (zs : List Int) : Prop :=
  (a = none ∧ len = 0 ∧ cap = 0 ∧ zs = []) ∨
  ∃ x, a = some x ∧ len ≤ cap ∧ cap ≤ maxLen ∧ zs.length = cap ∧ (∀ i, i < zs.length → w.cell? (x.add i) = some (.int k (zs.getD i 0))) ∧ ∀ n ∈ zs, (Lit.int k n).wf = true

open Gf
set_option linter.unusedSimpArgs false
set_option maxRecDepth 100000 in
set_option maxHeartbeats 4000000 in
theorem walk (a0 : Int) (a1 : Int) (a2 : Option Addr) (len2 cap2 : Nat) (z2 : List Int) (a3 : Option Addr) (len3 cap3 : Nat) (z3 : List Bool) (a4 : Option Addr) (len4 cap4 : Nat) (z4 : List Int) (w : World) (w0 : (Lit.int .i64 a0).wf = true) (w1 : (Lit.int .i64 a1).wf = true) (w2 : IsRow .u8 w a2 len2 cap2 z2) (w3 : RdB w (.slice a3 len3 cap3) z3) (w4 : IsRow .u8 w a4 len4 cap4 z4) :
    Calls Try.prog 5 #[.int .i64 a0, .int .i64 a1, .slice a2 len2 cap2, .slice a3 len3 cap3, .slice a4 len4 cap4] w fun e w' => e = .returned (.bool true) ∧ Below w.heap.size w w' := by
  obtain ⟨z2, rfl, w2⟩ := rd_row w2
  obtain rfl := w3.lenEq
  obtain ⟨z4, rfl, w4⟩ := rd_row w4
  obtain ⟨i0, hi, hz0, hz1, hz2⟩ := info_parts info_int10
  obtain ⟨j0, hj, hy0, hy1, hy2⟩ := info_parts info_u8
  go_enter Try.func5, Try.ntmps5
  have B : Below w.heap.size w w := Below.refl _ _
  go_wp2_with fail
  refine (awake10_any _).mono ?_
  rintro e u1 ⟨rfl, b⟩
  have D : Below (World.heap w |>.size) w u1 := Below.next (by repeat (first | exact Below.refl _ _ | apply Below.drewN | apply Below.drew | apply Below.draws | apply below_lit)) b
  replace w2 := w2.below D
  replace w3 := w3.below D
  replace w4 := w4.below D
  replace B := Below.next B D
  clear b D
  go_wp2_with fail
  refine (new_any _).mono ?_
  rintro e u2 ⟨rfl, F, hO⟩
  have b := hO.below
  clear hO
  have D : Below (World.heap u1 |>.size) u1 u2 := Below.next (by repeat (first | exact Below.refl _ _ | apply Below.drewN | apply Below.drew | apply Below.draws | apply below_lit)) b
  replace w2 := w2.below D
  replace w3 := w3.below D
  replace w4 := w4.below D
  replace B := Below.next B D
  clear b D
  by_cases ok : OkC a0 a1
  · obtain ⟨k, m, rfl, rfl, h1, h2⟩ := ok.nat
    obtain ⟨s, hs⟩ : ∃ s, Hid (s = k + m) := ⟨_, rfl⟩
    have hs2 : s ≤ 256 := by have := hs.out; omega
    have hs1 : 1 ≤ s := by have := hs.out; omega
    have g1 : (k : Int) + (m : Int) = (s : Int) := by have := hs.out; omega
    have gw : IntKind.i64.wrap (s : Int) = (s : Int) := by rw [IntKind.wrap_i64]; omega
    by_cases h60 : (s : Int) > 60
    · skip
      go_wp2_with fail
      refine (ccheck_ok _ ok).mono ?_
      rintro e u3 ⟨rfl, b⟩
      have D : Below (World.heap u2 |>.size) u2 u3 := Below.next (by repeat (first | exact Below.refl _ _ | apply Below.drewN | apply Below.drew | apply Below.draws | apply below_lit)) b
      replace w2 := w2.below D
      replace w3 := w3.below D
      replace w4 := w4.below D
      replace F := F.below D
      replace B := Below.next B D
      clear b D
      clear ok
      go_wp2
      go_ret
      exact ⟨rfl, Below.next B (by repeat (first | exact Below.refl _ _ | apply Below.drewN | apply Below.drew | apply Below.draws | apply below_lit))⟩
    · skip
      by_cases lz2 : z2.length = k
      · have qz2 : ((z2.length : Int) != (k : Int)) = false := by simp [lz2]
        have Lz2 : Hid _ := lz2
        clear lz2
        by_cases lz3 : z3.length = s
        · have qz3 : ((z3.length : Int) != (s : Int)) = false := by simp [lz3]
          have Lz3 : Hid _ := lz3
          clear lz3
          by_cases lz4 : z4.length = s
          · have qz4 : ((z4.length : Int) != (s : Int)) = false := by simp [lz4]
            have Lz4 : Hid _ := lz4
            clear lz4
            go_wp2_with fail
            refine (ccheck_ok _ ok).mono ?_
            rintro e u3 ⟨rfl, b⟩
            have D : Below (World.heap u2 |>.size) u2 u3 := Below.next (by repeat (first | exact Below.refl _ _ | apply Below.drewN | apply Below.drew | apply Below.draws | apply below_lit)) b
            replace w2 := w2.below D
            replace w3 := w3.below D
            replace w4 := w4.below D
            replace F := F.below D
            replace B := Below.next B D
            clear b D
            have h2' : Hid _ := h2
            clear ok h2
            obtain ⟨W, hW⟩ : ∃ W, Hid (W = lnW k m z2) := ⟨_, rfl⟩
            have hWl : Hid (W.length = s) := (by rw [hW.out, lnW_length Lz2.out, hs.out] : W.length = s)
            have hWc : Hid (CodeW k m (co W)) := (by rw [hW.out]; exact lnW_code h1 h2'.out Lz2.out : CodeW k m (co W))
            go_wp2_with fail
            refine (col_any (w2.below (by repeat (first | exact Below.refl _ _ | apply Below.drewN | apply Below.drew | apply Below.draws | apply below_lit))) (by rw [Lz2.out]; omega)).mono ?_
            rintro e u4 ⟨vc, rfl, Rc, b⟩
            have D : Below (World.heap u3 |>.size) u3 u4 := Below.next (by repeat (first | exact Below.refl _ _ | apply Below.drewN | apply Below.drew | apply Below.draws | apply below_lit)) b
            replace w2 := w2.below D
            replace w3 := w3.below D
            replace w4 := w4.below D
            replace F := F.below D
            replace B := Below.next B D
            clear b D
            obtain ⟨ca, cc, rfl⟩ := Rc.form
            go_wp2_with fail
            refine (enc_ok (F.below (by repeat (first | exact Below.refl _ _ | apply Below.drewN | apply Below.drew | apply Below.draws | apply below_lit))) h1 h2'.out (Rc.below (by repeat (first | exact Below.refl _ _ | apply Below.drewN | apply Below.drew | apply Below.draws | apply below_lit))) (by rw [colL_length]; exact Lz2.out) (colL_even _) (colL_small (by rw [Lz2.out]; omega)) rfl rfl).mono ?_
            rintro e u5 ⟨ve, rfl, Re, b⟩
            have D : Below (World.heap u4 |>.size) u4 u5 := Below.next (by repeat (first | exact Below.refl _ _ | apply Below.drewN | apply Below.drew | apply Below.draws | apply below_lit)) b
            replace w2 := w2.below D
            replace w3 := w3.below D
            replace w4 := w4.below D
            replace F := F.below D
            replace Rc := Rc.below D
            replace B := Below.next B D
            clear b D
            obtain ⟨ea, ec, ee⟩ := Re.form
            rw [encL_length, colL_length, Lz2.out, ← hs.out] at ee
            subst ee
            clear Rc
            go_wp2_with fail
            refine (line_any (Re.below (by repeat (first | exact Below.refl _ _ | apply Below.drewN | apply Below.drew | apply Below.draws | apply below_lit))) (by rw [encL_length, colL_length, Lz2.out, ← hs.out]; omega) (fun i hi => encC_len Lz2.out h1 (by rw [encL_length, colL_length, Lz2.out] at hi; exact hi))).mono ?_
            rintro e u6 ⟨vl, rfl, Rl, b⟩
            rw [show lineL (encL m k (parF k) (colL z2)) = W from hW.out.symm] at Rl
            have D : Below (World.heap u5 |>.size) u5 u6 := Below.next (by repeat (first | exact Below.refl _ _ | apply Below.drewN | apply Below.drew | apply Below.draws | apply below_lit)) b
            replace w2 := w2.below D
            replace w3 := w3.below D
            replace w4 := w4.below D
            replace F := F.below D
            replace Re := Re.below D
            replace B := Below.next B D
            clear b D
            obtain ⟨la, lc, el⟩ := Rl.form
            rw [hWl.out] at el
            subst el
            clear Re
            clear w2
            have A1 : Below (World.heap u6 |>.size) u6 (World.alloc u6 (.cells #[] 5)) := (Below.refl _ _).alloc (Nat.le_refl _) _
            have O1 : (World.alloc u6 (.cells #[] 5)).ownsRow (World.heap u6 |>.size) 5 1 (.slice (some ⟨(World.heap u6 |>.size), 0, none⟩) 0 0) 0 [] := ⟨rfl, .inr ⟨(World.heap u6 |>.size), 0, #[], rfl, Nat.le_refl _, heap_alloc_new u6 _, Nat.le_refl _, Nat.zero_le _, rfl, rfl⟩⟩
            have Rl1 := Rl.below A1
            have hsz1 : (World.heap u6 |>.size) ≤ (World.alloc u6 (.cells #[] 5)).heap.size := A1.size
            go_wp2_with (at_builtin; go_loud (refine wpList_append_rd _ rfl (.tmp 85) (.tmp 86) 22 rfl (World.heap u6 |>.size) 5 j0 Try.underlying22 hj hy0 hy1 hy2 (.slice (some ⟨(World.heap u6 |>.size), 0, none⟩) 0 0) 0 [] rfl O1 (.slice la s lc) W rfl Rl1 (by rw [hWl.out]; omega) hsz1 ?_); intro v9 w9 hv9 hg9)
            have B9 : Below (World.heap u6 |>.size) u6 w9 := A1.grown hg9 hsz1 (fun q hq => by cases hq; exact Nat.le_refl _)
            rw [Nat.zero_add] at hv9
            obtain ⟨g, gc, eg, R9⟩ := RowF.of (p := W) hv9 (by rw [hWl.out]; omega)
            rw [hWl.out] at eg R9
            subst eg
            have hgb := R9.lt
            obtain ⟨bw, hbw⟩ : ∃ bw, Hid (bw = w9.heap.size) := ⟨_, rfl⟩
            have hgw : g < bw := by rw [hbw.out]; exact hgb.2
            have H9 : Hid (bw ≤ w9.heap.size) := Nat.le_of_eq hbw.out
            clear hv9 hg9 A1 O1 Rl1 hsz1
            go_wp2
            go_loopw [17, 18] (fun o i wr => ∃ r : Nat, r ≤ s ∧ i = .int .i64 (r : Int) ∧ RowF wr (World.heap u6 |>.size) 5 g s gc (bkF (co W) (co z4) r) ∧ OwnI wr bw 3 o (plc (wrB z4 z3) r) ∧ Below (World.heap u6 |>.size) u6 wr ∧ Hid (bw ≤ wr.heap.size)) (fun _ i _ => s - (intOf i).toNat)
            case atStart => exact ⟨0, by omega, rfl, by rw [bkF_zero]; exact R9, OwnI.nil _ _ _, B9, H9⟩
            case round =>
              obtain ⟨r, hr, rfl, hR, hO, hB, hsz⟩ := hrel
              clear R9 B9 H9
              have hn : Hid ((plc (wrB z4 z3) r).length ≤ 300) := (by rw [plc_length]; have := cnt_le (wrB z4 z3) r; omega : (plc (wrB z4 z3) r).length ≤ 300)
              obtain ⟨av, cv, rfl⟩ := hO.form
              by_cases hlt : r < s
              · have hlt' : (r : Int) < (s : Int) := by omega
                have hlt3 : (r : Int) < (z3.length : Int) := by rw [Lz3.out]; omega
                have hlt4 : (r : Int) < (z4.length : Int) := by rw [Lz4.out]; omega
                have c1 := hR.cell hlt
                rw [bkF_old] at c1
                have f1 := hR.unfrozen r
                obtain ⟨b4, o4, e4, l4, k4⟩ := w4.byte (show r < z4.length by rw [Lz4.out]; exact hlt)
                obtain ⟨b3, o3, e3, l3, k3⟩ := w3.at (show r < z3.length by rw [Lz3.out]; exact hlt)
                subst e4 e3
                have k4r := (hB.cell (p := ⟨b4, o4 + r, none⟩) l4).trans k4
                have X := xor_u8 (co W r) (co z4 r)
                obtain ⟨wq, hwq⟩ : ∃ wq, wq = wr.setCell ⟨g, r, none⟩ (.int .u8 (((co W r).toNat ^^^ (co z4 r).toNat : Nat) : Int)) := ⟨_, rfl⟩
                have HN : Hid (RowF wq (World.heap u6 |>.size) 5 g s gc (bkF (co W) (co z4) (r + 1))) := (by
                  rw [hwq, ← UInt8.toNat_xor]
                  exact hR.store hlt _ fun t => bkF_step _ _ _ _ : RowF wq (World.heap u6 |>.size) 5 g s gc (bkF (co W) (co z4) (r + 1)))
                have HO1 : OwnI wq bw 3 (.slice av (plc (wrB z4 z3) r).length cv) (plc (wrB z4 z3) r) := by
                  rw [hwq]
                  exact World.ownsRow.kept hO (grown_set wr g r _) (block_apart' (s := bw) (fun q hq => (World.ownsRow.lt hO q hq).1) (fun q e => by cases e; exact hgw))
                have hB1 : Below (World.heap u6 |>.size) u6 wq := by rw [hwq]; exact hB.setCell (p := ⟨g, r, none⟩) hgb.1 _
                have hsz1 : bw ≤ wq.heap.size := by rw [hwq, ((Only.refl g wr).setCell r _).size]; exact hsz.out
                have k4q := (hB1.cell (p := ⟨b4, o4 + r, none⟩) l4).trans k4
                have k3q := (hB1.cell (p := ⟨b3, o3 + r, none⟩) l3).trans k3
                have E := plc_succ (wrB z4 z3) r
                clear hR hO hB hsz k4 k3 Rl
                go_wp2_with fail
                go_region
                all_goals rw [← hwq]
                all_goals clear hwq c1 f1 k4r X
                obtain ⟨wd, hwd⟩ : ∃ wd, wd = wq.drew := ⟨_, rfl⟩
                have HNd : Hid (RowF wd (World.heap u6 |>.size) 5 g s gc (bkF (co W) (co z4) (r + 1))) := (by rw [hwd]; exact HN.out.drew : RowF wd (World.heap u6 |>.size) 5 g s gc (bkF (co W) (co z4) (r + 1)))
                have HOd : OwnI wd bw 3 (.slice av (plc (wrB z4 z3) r).length cv) (plc (wrB z4 z3) r) := by rw [hwd]; exact HO1
                have hBd : Below (World.heap u6 |>.size) u6 wd := by rw [hwd]; exact hB1.drew
                have hszd : bw ≤ wd.heap.size := by rw [hwd]; exact hsz1
                have k4d : wd.cell? ⟨b4, o4 + r, none⟩ = some (.int .u8 ((co z4 r).toNat : Nat)) := by rw [hwd]; exact k4q
                have k3d : wd.cell? ⟨b3, o3 + r, none⟩ = some (.bool (hb z3 r)) := by rw [hwd]; exact k3q
                rw [← hwd]
                clear hwd HN HO1 hB1 hsz1 k4q k3q
                cases e : wrB z4 z3 r with
                | false =>
                  rw [e] at E
                  have E' : Hid (plc (wrB z4 z3) (r + 1) = plc (wrB z4 z3) r) := (by rw [E]; simp : plc (wrB z4 z3) (r + 1) = plc (wrB z4 z3) r)
                  have hw : co z4 r = 0 ∨ (co z4 r ≠ 0 ∧ hb z3 r = true) := by
                    unfold wrB at e
                    by_cases q : co z4 r = 0
                    · exact Or.inl q
                    · right
                      refine ⟨q, ?_⟩
                      cases q3 : hb z3 r
                      · rw [q3] at e; simp [q] at e
                      · rfl
                  have HO : Hid (OwnI wd bw 3 (.slice av (plc (wrB z4 z3) r).length cv) (plc (wrB z4 z3) (r + 1))) := (by rw [E'.out]; exact HOd : OwnI wd bw 3 (.slice av (plc (wrB z4 z3) r).length cv) (plc (wrB z4 z3) (r + 1)))
                  have HB : Hid _ := hBd
                  have HS : Hid _ := hszd
                  clear E e HOd hBd hszd
                  rcases hw with hw | ⟨hw, hw2⟩
                  · have q4 : ((((co z4 r).toNat : Nat) : Int) != 0) = false := by rw [hw]; rfl
                    clear hw
                    go_wp2
                    go_roundw
                    case rel => exact ⟨r + 1, by omega, by go_num, HNd.out, HO.out, HB.out, HS⟩
                    case measure => simp [intOf]; omega
                  · have q4 : ((((co z4 r).toNat : Nat) : Int) != 0) = true := by rw [bne_iff_ne]; intro h; exact hw (UInt8.toNat_inj.1 (by exact_mod_cast h))
                    rw [hw2] at k3d
                    clear hw hw2
                    go_wp2
                    go_roundw
                    case rel => exact ⟨r + 1, by omega, by go_num, HNd.out, HO.out, HB.out, HS⟩
                    case measure => simp [intOf]; omega
                | true =>
                  rw [e] at E
                  have E' : Hid (plc (wrB z4 z3) (r + 1) = plc (wrB z4 z3) r ++ [r]) := E
                  have hw : co z4 r ≠ 0 ∧ hb z3 r = false := by
                    unfold wrB at e
                    simpa using e
                  have q4 : ((((co z4 r).toNat : Nat) : Int) != 0) = true := by rw [bne_iff_ne]; intro h; exact hw.1 (UInt8.toNat_inj.1 (by exact_mod_cast h))
                  rw [hw.2] at k3d
                  clear E e hw
                  go_wp2_with (at_builtin; go_loud (refine wpList_append_int rfl (.tmp 119) (.tmp 121) 28 rfl bw 3 i0 Try.underlying28 hi hz0 hz1 hz2 (.slice av (plc (wrB z4 z3) r).length cv) (plc (wrB z4 z3) r) rfl HOd r _ 1 rfl (by have := hn.out; omega) hszd ?_); intro v' w8 hv2 hb2)
                  have HO : Hid (OwnI w8 bw 3 v' (plc (wrB z4 z3) (r + 1))) := (by rw [E'.out]; exact hv2 : OwnI w8 bw 3 v' (plc (wrB z4 z3) (r + 1)))
                  have HB : Hid (Below (World.heap u6 |>.size) u6 w8) := hBd.trans (hb2.mono (by omega))
                  have HS : Hid (bw ≤ w8.heap.size) := Nat.le_trans hszd hb2.size
                  have HR : Hid (RowF w8 (World.heap u6 |>.size) 5 g s gc (bkF (co W) (co z4) (r + 1))) := rowF_under HNd.out hb2 hgw
                  clear hv2 hb2 HOd hBd hszd k4d k3d q4
                  go_wp2
                  go_roundw
                  case rel => exact ⟨r + 1, by omega, by go_num, HR.out, HO.out, HB.out, HS⟩
                  case measure => simp [intOf]; omega
              · have hge : ¬ (r : Int) < (s : Int) := by omega
                have er : r = s := by omega
                rw [er] at hR hO ⊢
                obtain ⟨P, hP⟩ : ∃ P, Hid (P = plc (wrB z4 z3) s) := ⟨_, rfl⟩
                have hpl : Hid (P.length = cnt (wrB z4 z3) s) := (by rw [hP.out, plc_length] : P.length = cnt (wrB z4 z3) s)
                have hpn : P.length ≤ s := by rw [hpl.out]; exact cnt_le _ _
                rw [← hP.out] at hO ⊢
                have Rp := hO.rd (by omega)
                obtain ⟨Z, hZ⟩ : ∃ Z, Hid (Z = upto (bkF (co W) (co z4) s) s) := ⟨_, rfl⟩
                have Rz := hR.rd
                rw [← hZ.out] at Rz
                have hZl : Hid (Z.length = k + m) := (by rw [hZ.out, upto_length, hs.out] : Z.length = k + m)
                have hZc : Hid (∀ i, i < k + m → co Z i = co W i ^^^ co z4 i) := fun i hi9 => by rw [hZ.out, co_upto_in (by rw [hs.out]; exact hi9)]; exact if_pos (by rw [hs.out]; exact hi9)
                have hcl : Hid (cnt (hb z3) z3.length = cnt (hb z3) s) := (by rw [Lz3.out] : cnt (hb z3) z3.length = cnt (hb z3) s)
                obtain ⟨e0, he0⟩ : ∃ e0, Hid (e0 = cnt (hb z3) s) := ⟨_, rfl⟩
                have he1 : e0 ≤ s := by rw [he0.out]; exact cnt_le _ _
                rw [← he0.out] at hcl
                have hg1 : IntKind.i64.wrap (2 * (P.length : Int)) = 2 * (P.length : Int) := by rw [IntKind.wrap_i64]; omega
                have hg2 : IntKind.i64.wrap (2 * (P.length : Int) + (e0 : Int)) = 2 * (P.length : Int) + (e0 : Int) := by rw [IntKind.wrap_i64]; omega
                have q0 : ¬ (s : Int) < (s : Int) := by omega
                replace F := F.below hB
                replace w3 := w3.below hB
                replace Rl := Rl.below hB
                replace B := Below.next B hB
                clear hR hO er hge hlt hB hr hn hsz w4 hgb hgw
                go_wp2_with fail
                refine (lcnt_b (w3.below (by repeat (first | exact Below.refl _ _ | apply Below.drewN | apply Below.drew | apply Below.draws | apply below_lit)))).mono ?_
                rintro e u7 ⟨rfl, b⟩
                rw [hcl.out]
                have D : Below (World.heap wr |>.size) wr u7 := Below.next (by repeat (first | exact Below.refl _ _ | apply Below.drewN | apply Below.drew | apply Below.draws | apply below_lit)) b
                replace F := F.below D
                replace w3 := w3.below D
                replace Rl := Rl.below D
                replace Rp := Rp.below D
                replace Rz := Rz.below D
                replace B := Below.next B D
                clear b D
                by_cases hf : 2 * P.length + e0 ≤ m
                · have hq : ¬ 2 * (P.length : Int) + (e0 : Int) > (m : Int) := by omega
                  obtain ⟨e1, e2, e3⟩ := back10 (y := z4) h1 h2'.out hWc.out (by rw [hWl.out, hs.out]) hZl.out (by rw [Lz3.out, hs.out]) hZc.out (by rw [← hs.out, ← hpl.out, ← he0.out]; exact hf)
                  rw [← hs.out, ← hP.out] at e3
                  clear hf
                  go_wp2_with fail
                  refine (eword_any (k := (k : Int)) (m := (m : Int)) (F.below (by repeat (first | exact Below.refl _ _ | apply Below.drewN | apply Below.drew | apply Below.draws | apply below_lit))) (Rz.below (by repeat (first | exact Below.refl _ _ | apply Below.drewN | apply Below.drew | apply Below.draws | apply below_lit))) (w3.below (by repeat (first | exact Below.refl _ _ | apply Below.drewN | apply Below.drew | apply Below.draws | apply below_lit)))).mono ?_
                  rintro e u8 ⟨va, vd, rfl, Ra, Oa, b, fa⟩
                  rw [e1]
                  rw [e2] at Ra
                  rw [e3] at Oa
                  have Wa := Oa.rd (by omega)
                  clear fa Oa e1 e2 e3
                  have D : Below (World.heap u7 |>.size) u7 u8 := Below.next (by repeat (first | exact Below.refl _ _ | apply Below.drewN | apply Below.drew | apply Below.draws | apply below_lit)) b
                  replace F := F.below D
                  replace w3 := w3.below D
                  replace Rl := Rl.below D
                  replace Rp := Rp.below D
                  replace Rz := Rz.below D
                  replace B := Below.next B D
                  clear b D
                  obtain ⟨aa, ac, ea9⟩ := Ra.form
                  rw [hWl.out] at ea9
                  subst ea9
                  obtain ⟨da, dc, rfl⟩ := Wa.form
                  rw [toI_length] at Wa ⊢
                  go_wp2_with fail
                  refine (same10_t (Ra.below (by repeat (first | exact Below.refl _ _ | apply Below.drewN | apply Below.drew | apply Below.draws | apply below_lit))) (Rl.below (by repeat (first | exact Below.refl _ _ | apply Below.drewN | apply Below.drew | apply Below.draws | apply below_lit))) rfl).mono ?_
                  rintro e u9 ⟨rfl, b⟩
                  have D : Below (World.heap u8 |>.size) u8 u9 := Below.next (by repeat (first | exact Below.refl _ _ | apply Below.drewN | apply Below.drew | apply Below.draws | apply below_lit)) b
                  replace F := F.below D
                  replace w3 := w3.below D
                  replace Rl := Rl.below D
                  replace Rp := Rp.below D
                  replace Rz := Rz.below D
                  replace Ra := Ra.below D
                  replace Wa := Wa.below D
                  replace B := Below.next B D
                  clear b D
                  go_wp2_with fail
                  refine (ints_t (Wa.below (by repeat (first | exact Below.refl _ _ | apply Below.drewN | apply Below.drew | apply Below.draws | apply below_lit))) (Rp.below (by repeat (first | exact Below.refl _ _ | apply Below.drewN | apply Below.drew | apply Below.draws | apply below_lit))) (by rw [toI_length]; omega) (by rw [toI_length]; omega) rfl).mono ?_
                  rintro e u10 ⟨rfl, b⟩
                  have D : Below (World.heap u9 |>.size) u9 u10 := Below.next (by repeat (first | exact Below.refl _ _ | apply Below.drewN | apply Below.drew | apply Below.draws | apply below_lit)) b
                  replace F := F.below D
                  replace w3 := w3.below D
                  replace Rl := Rl.below D
                  replace Rp := Rp.below D
                  replace Rz := Rz.below D
                  replace Ra := Ra.below D
                  replace Wa := Wa.below D
                  replace B := Below.next B D
                  clear b D
                  go_wp2
                  go_ret
                  exact ⟨rfl, Below.next B (by repeat (first | exact Below.refl _ _ | apply Below.drewN | apply Below.drew | apply Below.draws | apply below_lit))⟩
                · have hq : 2 * (P.length : Int) + (e0 : Int) > (m : Int) := by omega
                  clear hf
                  go_wp2
                  go_ret
                  exact ⟨rfl, Below.next B (by repeat (first | exact Below.refl _ _ | apply Below.drewN | apply Below.drew | apply Below.draws | apply below_lit))⟩
          · have qz4 : ((z4.length : Int) != (s : Int)) = true := by simp; omega
            clear lz4
            go_wp2_with fail
            refine (ccheck_ok _ ok).mono ?_
            rintro e u3 ⟨rfl, b⟩
            have D : Below (World.heap u2 |>.size) u2 u3 := Below.next (by repeat (first | exact Below.refl _ _ | apply Below.drewN | apply Below.drew | apply Below.draws | apply below_lit)) b
            replace w2 := w2.below D
            replace w3 := w3.below D
            replace w4 := w4.below D
            replace F := F.below D
            replace B := Below.next B D
            clear b D
            clear ok
            go_wp2
            go_ret
            exact ⟨rfl, Below.next B (by repeat (first | exact Below.refl _ _ | apply Below.drewN | apply Below.drew | apply Below.draws | apply below_lit))⟩
        · have qz3 : ((z3.length : Int) != (s : Int)) = true := by simp; omega
          clear lz3
          go_wp2_with fail
          refine (ccheck_ok _ ok).mono ?_
          rintro e u3 ⟨rfl, b⟩
          have D : Below (World.heap u2 |>.size) u2 u3 := Below.next (by repeat (first | exact Below.refl _ _ | apply Below.drewN | apply Below.drew | apply Below.draws | apply below_lit)) b
          replace w2 := w2.below D
          replace w3 := w3.below D
          replace w4 := w4.below D
          replace F := F.below D
          replace B := Below.next B D
          clear b D
          clear ok
          go_wp2
          go_ret
          exact ⟨rfl, Below.next B (by repeat (first | exact Below.refl _ _ | apply Below.drewN | apply Below.drew | apply Below.draws | apply below_lit))⟩
      · have qz2 : ((z2.length : Int) != (k : Int)) = true := by simp; omega
        clear lz2
        go_wp2_with fail
        refine (ccheck_ok _ ok).mono ?_
        rintro e u3 ⟨rfl, b⟩
        have D : Below (World.heap u2 |>.size) u2 u3 := Below.next (by repeat (first | exact Below.refl _ _ | apply Below.drewN | apply Below.drew | apply Below.draws | apply below_lit)) b
        replace w2 := w2.below D
        replace w3 := w3.below D
        replace w4 := w4.below D
        replace F := F.below D
        replace B := Below.next B D
        clear b D
        clear ok
        go_wp2
        go_ret
        exact ⟨rfl, Below.next B (by repeat (first | exact Below.refl _ _ | apply Below.drewN | apply Below.drew | apply Below.draws | apply below_lit))⟩
  · skip
    go_wp2_with fail
    refine (ccheck_bad _ ok).mono ?_
    rintro e u3 ⟨rfl, b⟩
    have D : Below (World.heap u2 |>.size) u2 u3 := Below.next (by repeat (first | exact Below.refl _ _ | apply Below.drewN | apply Below.drew | apply Below.draws | apply below_lit)) b
    replace w2 := w2.below D
    replace w3 := w3.below D
    replace w4 := w4.below D
    replace F := F.below D
    replace B := Below.next B D
    clear b D
    clear ok
    go_wp2
    go_ret
    exact ⟨rfl, Below.next B (by repeat (first | exact Below.refl _ _ | apply Below.drewN | apply Below.drew | apply Below.draws | apply below_lit))⟩

/-! ### THE ROW's STEP: WRITTEN OUT: LEAVE IT -/
set_option maxRecDepth 100000 in
theorem lifted (os : Os) (started : os.Started) (H : Type) (enc : TypeId × Value → H) :
    ReturnsInHanded {} Try.checked os 5 .any (Rows.errdecBackSpec.pre6 enc Try.prog Try.f5 Rows.errdecBackRow.domain false) (Rows.errdecBackSpec.post enc Try.prog Try.f5 false true false false) := by
  refine returnsInHanded_of_change (C := Try.checked) own started (by kernel_rfl) Try.func5
    (ChangeSpec.witness6 (enc := enc) (C := Try.checked) false ⟨#[], #[.int .i64 0, .int .i64 0, .slice none 0 0, .slice none 0 0, .slice none 0 0], []⟩ 8 (by kernel_rfl) (by kernel_rfl) (by kernel_rfl) (by kernel_rfl)) ?_
  intro W base args ds gs before hval0 hW hcnd _
  have hval : ∀ (j : Nat) t v, Try.f5.params[j]? = some t → args[j]? = some v → Value.okWide Try.prog W .any base t v := hval0
  have hW' := hW
  obtain ⟨p, q, hA0, hV, rfl, hfz, hnd⟩ := hW
  have hA : DataW.TrodAll enc Try.prog W 0 (fun _ => true) true Try.f5.params.toList args.toList ds p := hA0
  rw [Try.params5] at hA hval
  obtain ⟨v0, vs0, d0, ds0, p0, q0, hargs, rfl, rfl, h0, r0⟩ := trodAll_cons hA
  obtain ⟨v1, vs1, d1, ds1, p1, q1, rfl, rfl, rfl, h1, r1⟩ := trodAll_cons r0
  obtain ⟨v2, vs2, d2, ds2, p2, q2, rfl, rfl, rfl, h2, r2⟩ := trodAll_cons r1
  obtain ⟨v3, vs3, d3, ds3, p3, q3, rfl, rfl, rfl, h3, r3⟩ := trodAll_cons r2
  obtain ⟨v4, vs4, d4, ds4, p4, q4, rfl, rfl, rfl, h4, r4⟩ := trodAll_cons r3
  obtain ⟨rfl, rfl, rfl⟩ := trodAll_nil r4
  obtain rfl : args = #[v0, v1, v2, v3, v4] := by cases args; simp_all
  obtain ⟨rfl, rfl⟩ := trodVars_none hV
  obtain ⟨a0, rfl, rfl, rfl, w0⟩ := open_int Try.underlying3 (hval 0 3 v0 rfl rfl) h0
  obtain ⟨a1, rfl, rfl, rfl, w1⟩ := open_int Try.underlying3 (hval 1 3 v1 rfl rfl) h1
  obtain ⟨a2, len2, cap2, rfl⟩ := okWide_slice Try.underlying22 (hval 2 22 v2 rfl rfl)
  have k2 := h2
  have lt2 : ∀ x ∈ p2, x.block < W.heap.size := by obtain ⟨m, hm⟩ := k2; exact DataW.trod_lt m _ _ _ hm
  obtain ⟨z2, w2⟩ : ∃ zs, IsRow .u8 W a2 len2 cap2 zs := by
    obtain ⟨fuel, hf⟩ := h2
    rcases open_ints Try.underlying22 Try.underlying5 (by kernel_rfl) hf with ⟨hcs, _⟩ | ⟨x, l, c, zs, hcs, _, hl, hm, hz, _, hcell, hwz⟩
    · simp [Value.cells] at hcs
      obtain ⟨rfl, rfl, rfl⟩ := hcs
      exact ⟨[], .inl ⟨rfl, rfl, rfl, rfl⟩⟩
    · simp [Value.cells] at hcs
      obtain ⟨rfl, rfl, rfl⟩ := hcs
      exact ⟨zs, .inr ⟨_, rfl, hl, hm, by simpa using hz, hcell, hwz⟩⟩
  obtain ⟨a3, len3, cap3, rfl⟩ := okWide_slice Try.underlying23 (hval 3 23 v3 rfl rfl)
  have k3 := h3
  have lt3 : ∀ x ∈ p3, x.block < W.heap.size := by obtain ⟨m, hm⟩ := k3; exact DataW.trod_lt m _ _ _ hm
  obtain ⟨z3, w3⟩ : ∃ zs, RdB W (.slice a3 len3 cap3) zs := by
    obtain ⟨fuel, hf⟩ := h3
    rcases Go.Deep.open_bools Try.underlying23 Try.underlying4 (by kernel_rfl) hf with ⟨hcs, _⟩ | ⟨x, l, c, B, hcs, _, hl, hm, _, hcell⟩
    · simp [Value.cells] at hcs
      obtain ⟨rfl, rfl, rfl⟩ := hcs
      exact ⟨[], rdB_none⟩
    · simp [Value.cells] at hcs
      obtain ⟨rfl, rfl, rfl⟩ := hcs
      exact rdB_row hl hm hcell
  obtain ⟨a4, len4, cap4, rfl⟩ := okWide_slice Try.underlying22 (hval 4 22 v4 rfl rfl)
  have k4 := h4
  have lt4 : ∀ x ∈ p4, x.block < W.heap.size := by obtain ⟨m, hm⟩ := k4; exact DataW.trod_lt m _ _ _ hm
  obtain ⟨z4, w4⟩ : ∃ zs, IsRow .u8 W a4 len4 cap4 zs := by
    obtain ⟨fuel, hf⟩ := h4
    rcases open_ints Try.underlying22 Try.underlying5 (by kernel_rfl) hf with ⟨hcs, _⟩ | ⟨x, l, c, zs, hcs, _, hl, hm, hz, _, hcell, hwz⟩
    · simp [Value.cells] at hcs
      obtain ⟨rfl, rfl, rfl⟩ := hcs
      exact ⟨[], .inl ⟨rfl, rfl, rfl, rfl⟩⟩
    · simp [Value.cells] at hcs
      obtain ⟨rfl, rfl, rfl⟩ := hcs
      exact ⟨zs, .inr ⟨_, rfl, hl, hm, by simpa using hz, hcell, hwz⟩⟩
  clear hA0 hval0
  refine (walk a0 a1 a2 len2 cap2 z2 a3 len3 cap3 z3 a4 len4 cap4 z4 W w0 w1 w2 w3 w4).mono fun e W' ⟨he, bel⟩ => ?_
  subst he
  exact ⟨_, rfl, _, _, _, [], _, [], hW', trodAll_mk1 (shut_bool Try.underlying4 _), (trodAll_cons_mk (shut_int Try.underlying3 w0) (trodAll_cons_mk (shut_int Try.underlying3 w1) (trodAll_cons_mk (Below.trod laidOut (by kernel_rfl) (of_decide_eq_true (by kernel_rfl)) k2 bel lt2) (trodAll_cons_mk (Below.trod laidOut (by kernel_rfl) (of_decide_eq_true (by kernel_rfl)) k3 bel lt3) (trodAll_cons_mk (Below.trod laidOut (by kernel_rfl) (of_decide_eq_true (by kernel_rfl)) k4 bel lt4) trodAll_mk0))))), rfl, bel.frame _, fun h => by cases h⟩

theorem over : Rows.errdecBackRow.holds Try.pinned (OpenSpec.ofChange Rows.errdecBackSpec) :=
  OpenClaim.holds_of_wide 5 Try.f5 rfl rfl rfl rfl rfl rfl rfl ⟨rfl, rfl, rfl, rfl, rfl⟩ rfl rfl rfl rfl rfl (by kernel_rfl) Try.func5 (by kernel_rfl)
    (of_decide_eq_true (by kernel_rfl)) (by unfold Func.isWrapper; first | (rw [if_pos (by decide +kernel)]; kernel_rfl) | (rw [if_neg (by decide +kernel)]; exact ⟨rfl, rfl⟩))
    (fun os started H enc _ => lifted os started H enc)

/-- ████ THE STATEMENT ████ -/
theorem proved : Rows.ErrdecBackSaid := over
end Go.Proofs.Ytchfonofjbpmaaa.errdecBack
namespace Go.Proofs.Ytchfonofjbpmaaa
theorem errdecBack_holds : Rows.ErrdecBackSaid := errdecBack.proved
#print axioms errdecBack_holds
end Go.Proofs.Ytchfonofjbpmaaa
