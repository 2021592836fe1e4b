/- PROVED: for all k, m, every list data and all slices missing of bools the call ErrdecErases(k, m, data, missing) returns true, and its arguments read behind it as before; no conditions. -/
import Derived.Test.YtchfonofjbpmaaaRows
import Derived.Test.YtchfonofjbpmaaaTome14
import Derived.Test.YtchfonofjbpmaaaTome21
import Derived.Test.YtchfonofjbpmaaaTome23
import Derived.Test.YtchfonofjbpmaaaTome5
import Derived.WalkKit
import Derived.ProofKit
import Derived.OpenShut
import Derived.ShutString
import Derived.ChangeOld
import Derived.Below
import Derived.Deep.Grids
namespace Go.Proofs.Ytchfonofjbpmaaa.errdecErases
open Go.ChangeShapes Go.WideShapes Go.ChangeAt Go.RowKit
open Go.ChangeMaps (open_string shut_string)
set_option linter.unusedVariables false

theorem own : ownKnob Try.prog.godebug = none := by kernel_rfl
theorem laidOut : laidOutB Try.prog = true := by kernel_rfl

/-- WHAT THE WALK IS TOLD OF A SLICE OF INTEGERS THAT CAME IN: it is nil; or it leads to a row of 'cap' cells, the numbers 'zs' (the first 'len' are its elements, the rest its spare room), each fitting its kind. -/
def IsRow (k : IntKind) (w : World) (a : Option Addr) (len cap : Nat) (zs : List Int) : Prop :=
  (a = none ∧ len = 0 ∧ cap = 0 ∧ zs = []) ∨
  ∃ x, a = some x ∧ len ≤ cap ∧ cap ≤ maxLen ∧ zs.length = cap ∧ (∀ i, i < zs.length → w.cell? (x.add i) = some (.int k (zs.getD i 0))) ∧ ∀ n ∈ zs, (Lit.int k n).wf = true

open Gf
set_option linter.unusedSimpArgs false
set_option maxRecDepth 100000 in
set_option maxHeartbeats 4000000 in
theorem walk (a0 : Int) (a1 : Int) (a2 : Option Addr) (len2 cap2 : Nat) (z2 : List Int) (a3 : Option Addr) (len3 cap3 : Nat) (z3 : List Bool) (w : World) (w0 : (Lit.int .i64 a0).wf = true) (w1 : (Lit.int .i64 a1).wf = true) (w2 : IsRow .u8 w a2 len2 cap2 z2) (w3 : RdB w (.slice a3 len3 cap3) z3) :
    Calls Try.prog 8 #[.int .i64 a0, .int .i64 a1, .slice a2 len2 cap2, .slice a3 len3 cap3] w fun e w' => e = .returned (.bool true) ∧ Below w.heap.size w w' := by
  obtain ⟨z2, rfl, w2⟩ := rd_row w2
  obtain rfl := w3.lenEq
  obtain ⟨i0, hi, hz0, hz1, hz2⟩ := info_parts info_bool
  go_enter Try.func8, Try.ntmps8
  have B : Below w.heap.size w w := Below.refl _ _
  go_wp2_with fail
  refine (awake10_any _).mono ?_
  rintro e u1 ⟨rfl, b⟩
  have D : Below (World.heap w |>.size) w u1 := Below.next (by repeat (first | exact Below.refl _ _ | apply Below.drewN | apply Below.drew | apply Below.draws | apply below_lit)) b
  replace w2 := w2.below D
  replace w3 := w3.below D
  replace B := Below.next B D
  clear b D
  go_wp2_with fail
  refine (new_any _).mono ?_
  rintro e u2 ⟨rfl, F, hO⟩
  have b := hO.below
  clear hO
  have D : Below (World.heap u1 |>.size) u1 u2 := Below.next (by repeat (first | exact Below.refl _ _ | apply Below.drewN | apply Below.drew | apply Below.draws | apply below_lit)) b
  replace w2 := w2.below D
  replace w3 := w3.below D
  replace B := Below.next B D
  clear b D
  by_cases ok : OkC a0 a1
  · obtain ⟨k, m, rfl, rfl, h1, h2⟩ := ok.nat
    obtain ⟨s, hs⟩ : ∃ s, Hid (s = k + m) := ⟨_, rfl⟩
    have hs2 : s ≤ 256 := by have := hs.out; omega
    have hs1 : 1 ≤ s := by have := hs.out; omega
    have g1 : (k : Int) + (m : Int) = (s : Int) := by have := hs.out; omega
    have gw : IntKind.i64.wrap (s : Int) = (s : Int) := by rw [IntKind.wrap_i64]; omega
    by_cases h60 : (s : Int) > 60
    · skip
      go_wp2_with fail
      refine (ccheck_ok _ ok).mono ?_
      rintro e u3 ⟨rfl, b⟩
      have D : Below (World.heap u2 |>.size) u2 u3 := Below.next (by repeat (first | exact Below.refl _ _ | apply Below.drewN | apply Below.drew | apply Below.draws | apply below_lit)) b
      replace w2 := w2.below D
      replace w3 := w3.below D
      replace F := F.below D
      replace B := Below.next B D
      clear b D
      clear ok
      go_wp2
      go_ret
      exact ⟨rfl, Below.next B (by repeat (first | exact Below.refl _ _ | apply Below.drewN | apply Below.drew | apply Below.draws | apply below_lit))⟩
    · skip
      by_cases lz2 : z2.length = k
      · have qz2 : ((z2.length : Int) != (k : Int)) = false := by simp [lz2]
        have Lz2 : Hid _ := lz2
        clear lz2
        by_cases lz3 : z3.length = s
        · have qz3 : ((z3.length : Int) != (s : Int)) = false := by simp [lz3]
          have Lz3 : Hid _ := lz3
          clear lz3
          go_wp2_with fail
          refine (ccheck_ok _ ok).mono ?_
          rintro e u3 ⟨rfl, b⟩
          have D : Below (World.heap u2 |>.size) u2 u3 := Below.next (by repeat (first | exact Below.refl _ _ | apply Below.drewN | apply Below.drew | apply Below.draws | apply below_lit)) b
          replace w2 := w2.below D
          replace w3 := w3.below D
          replace F := F.below D
          replace B := Below.next B D
          clear b D
          have h2' : Hid _ := h2
          clear ok h2
          obtain ⟨W, hW⟩ : ∃ W, Hid (W = lnW k m z2) := ⟨_, rfl⟩
          have hWl : Hid (W.length = s) := (by rw [hW.out, lnW_length Lz2.out, hs.out] : W.length = s)
          have hWc : Hid (CodeW k m (co W)) := (by rw [hW.out]; exact lnW_code h1 h2'.out Lz2.out : CodeW k m (co W))
          go_wp2_with fail
          refine (col_any (w2.below (by repeat (first | exact Below.refl _ _ | apply Below.drewN | apply Below.drew | apply Below.draws | apply below_lit))) (by rw [Lz2.out]; omega)).mono ?_
          rintro e u4 ⟨vc, rfl, Rc, b⟩
          have D : Below (World.heap u3 |>.size) u3 u4 := Below.next (by repeat (first | exact Below.refl _ _ | apply Below.drewN | apply Below.drew | apply Below.draws | apply below_lit)) b
          replace w2 := w2.below D
          replace w3 := w3.below D
          replace F := F.below D
          replace B := Below.next B D
          clear b D
          obtain ⟨ca, cc, rfl⟩ := Rc.form
          go_wp2_with fail
          refine (enc_ok (F.below (by repeat (first | exact Below.refl _ _ | apply Below.drewN | apply Below.drew | apply Below.draws | apply below_lit))) h1 h2'.out (Rc.below (by repeat (first | exact Below.refl _ _ | apply Below.drewN | apply Below.drew | apply Below.draws | apply below_lit))) (by rw [colL_length]; exact Lz2.out) (colL_even _) (colL_small (by rw [Lz2.out]; omega)) rfl rfl).mono ?_
          rintro e u5 ⟨ve, rfl, Re, b⟩
          have D : Below (World.heap u4 |>.size) u4 u5 := Below.next (by repeat (first | exact Below.refl _ _ | apply Below.drewN | apply Below.drew | apply Below.draws | apply below_lit)) b
          replace w2 := w2.below D
          replace w3 := w3.below D
          replace F := F.below D
          replace Rc := Rc.below D
          replace B := Below.next B D
          clear b D
          obtain ⟨ea, ec, ee⟩ := Re.form
          rw [encL_length, colL_length, Lz2.out, ← hs.out] at ee
          subst ee
          clear Rc
          go_wp2_with fail
          refine (line_any (Re.below (by repeat (first | exact Below.refl _ _ | apply Below.drewN | apply Below.drew | apply Below.draws | apply below_lit))) (by rw [encL_length, colL_length, Lz2.out, ← hs.out]; omega) (fun i hi => encC_len Lz2.out h1 (by rw [encL_length, colL_length, Lz2.out] at hi; exact hi))).mono ?_
          rintro e u6 ⟨vl, rfl, Rl, b⟩
          rw [show lineL (encL m k (parF k) (colL z2)) = W from hW.out.symm] at Rl
          have D : Below (World.heap u5 |>.size) u5 u6 := Below.next (by repeat (first | exact Below.refl _ _ | apply Below.drewN | apply Below.drew | apply Below.draws | apply below_lit)) b
          replace w2 := w2.below D
          replace w3 := w3.below D
          replace F := F.below D
          replace Re := Re.below D
          replace B := Below.next B D
          clear b D
          obtain ⟨la, lc, el⟩ := Rl.form
          rw [hWl.out] at el
          subst el
          clear Re
          clear w2
          go_wp2
          go_loopw [14, 15] (fun o i wr => ∃ r : Nat, r ≤ s ∧ i = .int .i64 (r : Int) ∧ OwnB wr (World.heap u6 |>.size) 4 o (notL z3 r) ∧ Below (World.heap u6 |>.size) u6 wr) (fun _ i _ => s - (intOf i).toNat)
          case atStart => exact ⟨0, by omega, rfl, OwnB.nil _ _ _, Below.refl _ _⟩
          case round =>
            obtain ⟨r, hr, rfl, hO, hB⟩ := hrel
            have hsz := hB.size
            have hn : Hid _ := notL_length z3 r
            obtain ⟨av, cv, ev⟩ := hO.form
            rw [hn.out] at ev
            subst ev
            by_cases hlt : r < s
            · obtain ⟨b1, o1, eb, _, k1⟩ := (w3.below hB).at (show r < z3.length by rw [Lz3.out]; exact hlt)
              subst eb
              have hlt' : (r : Int) < (s : Int) := by omega
              have hlt3 : (r : Int) < (z3.length : Int) := by rw [Lz3.out]; omega
              have E' : Hid _ := notL_succ z3 r
              clear w3 Rl
              go_wp2_with (at_builtin; go_loud (refine wpList_append_bool rfl (.tmp 87) (.tmp 93) 23 rfl (World.heap u6 |>.size) 4 i0 Try.underlying23 hi hz0 hz1 hz2 (.slice av r cv) (notL z3 r) rfl hO (!hb z3 r) _ 1 rfl (by rw [hn.out]; omega) hsz ?_); intro v' w9 hv2 hb2)
              have HO : Hid (OwnB w9 (World.heap u6 |>.size) 4 v' (notL z3 (r + 1))) := (by rw [E'.out]; exact hv2 : OwnB w9 (World.heap u6 |>.size) 4 v' (notL z3 (r + 1)))
              have HB : Hid (Below (World.heap u6 |>.size) u6 w9) := hB.trans hb2
              clear hO hv2 hb2 hB k1
              go_wp2
              go_roundw
              case rel => exact ⟨r + 1, by omega, by go_num, HO.out, HB.out⟩
              case measure => simp [intOf]; omega
            · have hge : ¬ (r : Int) < (s : Int) := by omega
              have er : r = s := by omega
              rw [er] at hO ⊢
              have Rn : RdB wr (.slice av s cv) (Gf.notM z3) := by
                have h9 := hO.rdB
                rw [← Lz3.out] at h9
                rw [← Lz3.out]
                exact h9
              replace F := F.below hB
              replace w3 := w3.below hB
              replace Rl := Rl.below hB
              replace B := Below.next B hB
              have q0 : ¬ (s : Int) < (s : Int) := by omega
              have hcl : Hid (cnt (hb z3) z3.length = cnt (hb z3) s) := (by rw [Lz3.out] : cnt (hb z3) z3.length = cnt (hb z3) s)
              have hcs : cnt (hb z3) s ≤ s := cnt_le _ _
              have hSm : Hid (SmallH (Gf.notM z3) (colL W)) := (colL_small (by rw [hWl.out]; omega)).h _
              have hml : Hid (z3.length = k + m) := (by rw [Lz3.out, hs.out] : z3.length = k + m)
              have hWk : Hid (W.length = k + m) := (by rw [hWl.out, hs.out] : W.length = k + m)
              clear hO er hge hlt hB hr hn hsz
              by_cases hf : cnt (hb z3) s ≤ m
              · have hq : ¬ ((cnt (hb z3) s : Nat) : Int) > (m : Int) := by omega
                have EW := same10 h1 h2'.out hWc.out hWk.out hml.out (by rw [← hs.out]; exact hf)
                have ED := dec10 h1 h2'.out hWc.out hWk.out hml.out (by rw [← hs.out]; exact hf)
                have EV : Hid _ := same10 (ms := (List.range s).map (fun _ => false)) h1 h2'.out hWc.out hWk.out (by simp; exact hs.out) (by rw [cnt_none fun i _ => hb_false s i]; omega)
                obtain ⟨e1, e2, e3⟩ := EW
                obtain ⟨d1, d2, d3, d4⟩ := ED
                have D3 : Hid _ := d3
                have D4 : Hid _ := d4
                clear d3 d4 hf
                go_wp2_with fail
                refine (eword_any (k := (k : Int)) (m := (m : Int)) (F.below (by repeat (first | exact Below.refl _ _ | apply Below.drewN | apply Below.drew | apply Below.draws | apply below_lit))) (Rl.below (by repeat (first | exact Below.refl _ _ | apply Below.drewN | apply Below.drew | apply Below.draws | apply below_lit))) (w3.below (by repeat (first | exact Below.refl _ _ | apply Below.drewN | apply Below.drew | apply Below.draws | apply below_lit)))).mono ?_
                rintro e u7 ⟨va, vd, rfl, Ra, Oa, b, fa⟩
                rw [e1]
                rw [e2] at Ra
                rw [e3] at Oa
                obtain ⟨da, dc, rfl⟩ := Oa.form
                clear fa Oa e1 e2 e3
                have D : Below (World.heap wr |>.size) wr u7 := Below.next (by repeat (first | exact Below.refl _ _ | apply Below.drewN | apply Below.drew | apply Below.draws | apply below_lit)) b
                replace F := F.below D
                replace w3 := w3.below D
                replace Rl := Rl.below D
                replace Rn := Rn.below D
                replace B := Below.next B D
                clear b D
                obtain ⟨aa, ac, ea9⟩ := Ra.form
                rw [hWl.out] at ea9
                subst ea9
                go_wp2_with fail
                refine (col_any (Rl.below (by repeat (first | exact Below.refl _ _ | apply Below.drewN | apply Below.drew | apply Below.draws | apply below_lit))) (by rw [hWl.out]; omega)).mono ?_
                rintro e u8 ⟨vc, rfl, Rc, b⟩
                have D : Below (World.heap u7 |>.size) u7 u8 := Below.next (by repeat (first | exact Below.refl _ _ | apply Below.drewN | apply Below.drew | apply Below.draws | apply below_lit)) b
                replace F := F.below D
                replace w3 := w3.below D
                replace Rl := Rl.below D
                replace Rn := Rn.below D
                replace Ra := Ra.below D
                replace B := Below.next B D
                clear b D
                obtain ⟨ca, cc, rfl⟩ := Rc.form
                go_wp2_with fail
                refine (edec_any (k := (k : Int)) (m := (m : Int)) (F.below (by repeat (first | exact Below.refl _ _ | apply Below.drewN | apply Below.drew | apply Below.draws | apply below_lit))) (Rn.below (by repeat (first | exact Below.refl _ _ | apply Below.drewN | apply Below.drew | apply Below.draws | apply below_lit))) (Rc.below (by repeat (first | exact Below.refl _ _ | apply Below.drewN | apply Below.drew | apply Below.draws | apply below_lit))) hSm.out).mono ?_
                rintro e u9 ⟨hV, vy, rfl, Ry, b⟩
                rw [d1]
                clear hV d1
                have D : Below (World.heap u8 |>.size) u8 u9 := Below.next (by repeat (first | exact Below.refl _ _ | apply Below.drewN | apply Below.drew | apply Below.draws | apply below_lit)) b
                replace F := F.below D
                replace w3 := w3.below D
                replace Rl := Rl.below D
                replace Rn := Rn.below D
                replace Ra := Ra.below D
                replace Rc := Rc.below D
                replace B := Below.next B D
                clear b D
                obtain ⟨ya, yc, ey⟩ := Ry.form
                rw [D3.out, ← hs.out] at ey
                subst ey
                clear Rc Rn
                go_wp2_with fail
                refine (lcnt_b (w3.below (by repeat (first | exact Below.refl _ _ | apply Below.drewN | apply Below.drew | apply Below.draws | apply below_lit)))).mono ?_
                rintro e u10 ⟨rfl, b⟩
                rw [hcl.out]
                have D : Below (World.heap u9 |>.size) u9 u10 := Below.next (by repeat (first | exact Below.refl _ _ | apply Below.drewN | apply Below.drew | apply Below.draws | apply below_lit)) b
                replace F := F.below D
                replace w3 := w3.below D
                replace Rl := Rl.below D
                replace Ra := Ra.below D
                replace Ry := Ry.below D
                replace B := Below.next B D
                clear b D
                go_wp2_with fail
                refine (same10_t (Ra.below (by repeat (first | exact Below.refl _ _ | apply Below.drewN | apply Below.drew | apply Below.draws | apply below_lit))) (Rl.below (by repeat (first | exact Below.refl _ _ | apply Below.drewN | apply Below.drew | apply Below.draws | apply below_lit))) rfl).mono ?_
                rintro e u11 ⟨rfl, b⟩
                have D : Below (World.heap u10 |>.size) u10 u11 := Below.next (by repeat (first | exact Below.refl _ _ | apply Below.drewN | apply Below.drew | apply Below.draws | apply below_lit)) b
                replace F := F.below D
                replace w3 := w3.below D
                replace Rl := Rl.below D
                replace Ra := Ra.below D
                replace Ry := Ry.below D
                replace B := Below.next B D
                clear b D
                go_wp2_with fail
                refine (line_any (Ry.below (by repeat (first | exact Below.refl _ _ | apply Below.drewN | apply Below.drew | apply Below.draws | apply below_lit))) (by rw [D3.out, ← hs.out]; omega) D4.out).mono ?_
                rintro e u12 ⟨vm, rfl, Rm, b⟩
                rw [d2] at Rm
                clear d2
                have D : Below (World.heap u11 |>.size) u11 u12 := Below.next (by repeat (first | exact Below.refl _ _ | apply Below.drewN | apply Below.drew | apply Below.draws | apply below_lit)) b
                replace F := F.below D
                replace w3 := w3.below D
                replace Rl := Rl.below D
                replace Ra := Ra.below D
                replace Ry := Ry.below D
                replace B := Below.next B D
                clear b D
                obtain ⟨ma, mc, em⟩ := Rm.form
                rw [hWl.out] at em
                subst em
                clear Ry
                go_wp2_with fail
                refine (same10_t (Rm.below (by repeat (first | exact Below.refl _ _ | apply Below.drewN | apply Below.drew | apply Below.draws | apply below_lit))) (Rl.below (by repeat (first | exact Below.refl _ _ | apply Below.drewN | apply Below.drew | apply Below.draws | apply below_lit))) rfl).mono ?_
                rintro e u13 ⟨rfl, b⟩
                have D : Below (World.heap u12 |>.size) u12 u13 := Below.next (by repeat (first | exact Below.refl _ _ | apply Below.drewN | apply Below.drew | apply Below.draws | apply below_lit)) b
                replace F := F.below D
                replace w3 := w3.below D
                replace Rl := Rl.below D
                replace Ra := Ra.below D
                replace Rm := Rm.below D
                replace B := Below.next B D
                clear b D
                obtain ⟨g, hg⟩ : ∃ g, Hid (g = (World.heap u13 |>.size)) := ⟨_, rfl⟩
                go_wp2_with (at_make; go_loud (refine wpList_make_full _ rfl (.tmp 139) (.tmp 139) 23 rfl (World.heap u13 |>.size) 4 i0 (.bool false) 1 Try.underlying23 hi hz0 hz1 _ _ _ _ s rfl rfl (by omega) (by omega) (by rw [hz2]; omega) (by unfold maxLen; omega) (Nat.le_refl _) ?_); intro w8 hown8 hgrow8; rw [← hg.out] at hown8; rw [← hg.out])
                have M8 : BoolF w8 g 4 g s (fun _ => false) := BoolF.made hown8
                have N8 := M8.rdB (by omega)
                have D : Below (World.heap u13 |>.size) u13 w8 := (Below.refl _ _).grown hgrow8 (Nat.le_refl _) (fun q hq => by cases hq)
                replace F := F.below D
                replace Ra := Ra.below D
                replace B := Below.next B D
                clear D hown8 hgrow8 M8 w3 Rl Rm
                obtain ⟨v1, v2, v3⟩ := EV.out
                go_wp2_with fail
                refine (eword_any (k := (k : Int)) (m := (m : Int)) (F.below (by repeat (first | exact Below.refl _ _ | apply Below.drewN | apply Below.drew | apply Below.draws | apply below_lit))) (Ra.below (by repeat (first | exact Below.refl _ _ | apply Below.drewN | apply Below.drew | apply Below.draws | apply below_lit))) (N8.below (by repeat (first | exact Below.refl _ _ | apply Below.drewN | apply Below.drew | apply Below.draws | apply below_lit)))).mono ?_
                rintro e u14 ⟨vz, vv, rfl, Rz, Ov, b, fz⟩
                rw [v1]
                rw [v2] at Rz
                rw [v3] at Ov
                obtain ⟨oa, oc, rfl⟩ := Ov.form
                clear fz Ov v1 v2 v3 EV
                have D : Below (World.heap w8 |>.size) w8 u14 := Below.next (by repeat (first | exact Below.refl _ _ | apply Below.drewN | apply Below.drew | apply Below.draws | apply below_lit)) b
                replace F := F.below D
                replace Ra := Ra.below D
                replace N8 := N8.below D
                replace B := Below.next B D
                clear b D
                obtain ⟨pa, pc, ep⟩ := Rz.form
                rw [hWl.out] at ep
                subst ep
                go_wp2_with fail
                refine (same10_t (Rz.below (by repeat (first | exact Below.refl _ _ | apply Below.drewN | apply Below.drew | apply Below.draws | apply below_lit))) (Ra.below (by repeat (first | exact Below.refl _ _ | apply Below.drewN | apply Below.drew | apply Below.draws | apply below_lit))) rfl).mono ?_
                rintro e u15 ⟨rfl, b⟩
                have D : Below (World.heap u14 |>.size) u14 u15 := Below.next (by repeat (first | exact Below.refl _ _ | apply Below.drewN | apply Below.drew | apply Below.draws | apply below_lit)) b
                replace F := F.below D
                replace Ra := Ra.below D
                replace N8 := N8.below D
                replace Rz := Rz.below D
                replace B := Below.next B D
                clear b D
                go_wp2
                go_ret
                exact ⟨rfl, Below.next B (by repeat (first | exact Below.refl _ _ | apply Below.drewN | apply Below.drew | apply Below.draws | apply below_lit))⟩
              · have hq : ((cnt (hb z3) s : Nat) : Int) > (m : Int) := by omega
                have EW := many10 h1 h2'.out hWk.out hml.out (by rw [← hs.out]; omega)
                have ED := dec10_few h1 h2'.out hWk.out hml.out (by rw [← hs.out]; omega)
                obtain ⟨e1, e2, e3⟩ := EW
                obtain ⟨d1, d2⟩ := ED
                clear hf
                go_wp2_with fail
                refine (eword_any (k := (k : Int)) (m := (m : Int)) (F.below (by repeat (first | exact Below.refl _ _ | apply Below.drewN | apply Below.drew | apply Below.draws | apply below_lit))) (Rl.below (by repeat (first | exact Below.refl _ _ | apply Below.drewN | apply Below.drew | apply Below.draws | apply below_lit))) (w3.below (by repeat (first | exact Below.refl _ _ | apply Below.drewN | apply Below.drew | apply Below.draws | apply below_lit)))).mono ?_
                rintro e u7 ⟨va, vd, rfl, Ra, Oa, b, fa⟩
                rw [e1]
                rw [e2] at Ra
                rw [e3] at Oa
                obtain ⟨aa, ac, rfl⟩ := Ra.form
                obtain ⟨da, dc, rfl⟩ := Oa.form
                clear fa Oa Ra e1 e2 e3
                have D : Below (World.heap wr |>.size) wr u7 := Below.next (by repeat (first | exact Below.refl _ _ | apply Below.drewN | apply Below.drew | apply Below.draws | apply below_lit)) b
                replace F := F.below D
                replace w3 := w3.below D
                replace Rl := Rl.below D
                replace Rn := Rn.below D
                replace B := Below.next B D
                clear b D
                go_wp2_with fail
                refine (col_any (Rl.below (by repeat (first | exact Below.refl _ _ | apply Below.drewN | apply Below.drew | apply Below.draws | apply below_lit))) (by rw [hWl.out]; omega)).mono ?_
                rintro e u8 ⟨vc, rfl, Rc, b⟩
                have D : Below (World.heap u7 |>.size) u7 u8 := Below.next (by repeat (first | exact Below.refl _ _ | apply Below.drewN | apply Below.drew | apply Below.draws | apply below_lit)) b
                replace F := F.below D
                replace w3 := w3.below D
                replace Rl := Rl.below D
                replace Rn := Rn.below D
                replace B := Below.next B D
                clear b D
                obtain ⟨ca, cc, rfl⟩ := Rc.form
                go_wp2_with fail
                refine (edec_any (k := (k : Int)) (m := (m : Int)) (F.below (by repeat (first | exact Below.refl _ _ | apply Below.drewN | apply Below.drew | apply Below.draws | apply below_lit))) (Rn.below (by repeat (first | exact Below.refl _ _ | apply Below.drewN | apply Below.drew | apply Below.draws | apply below_lit))) (Rc.below (by repeat (first | exact Below.refl _ _ | apply Below.drewN | apply Below.drew | apply Below.draws | apply below_lit))) hSm.out).mono ?_
                rintro e u9 ⟨hV, vy, rfl, Ry, b⟩
                rw [d1]
                rw [d2] at Ry
                obtain ⟨ya, yc, rfl⟩ := Ry.form
                clear hV d1 d2 Ry
                have D : Below (World.heap u8 |>.size) u8 u9 := Below.next (by repeat (first | exact Below.refl _ _ | apply Below.drewN | apply Below.drew | apply Below.draws | apply below_lit)) b
                replace F := F.below D
                replace w3 := w3.below D
                replace Rl := Rl.below D
                replace Rn := Rn.below D
                replace Rc := Rc.below D
                replace B := Below.next B D
                clear b D
                clear Rc Rn
                go_wp2_with fail
                refine (lcnt_b (w3.below (by repeat (first | exact Below.refl _ _ | apply Below.drewN | apply Below.drew | apply Below.draws | apply below_lit)))).mono ?_
                rintro e u10 ⟨rfl, b⟩
                rw [hcl.out]
                have D : Below (World.heap u9 |>.size) u9 u10 := Below.next (by repeat (first | exact Below.refl _ _ | apply Below.drewN | apply Below.drew | apply Below.draws | apply below_lit)) b
                replace F := F.below D
                replace w3 := w3.below D
                replace Rl := Rl.below D
                replace B := Below.next B D
                clear b D
                go_wp2
                go_ret
                exact ⟨rfl, Below.next B (by repeat (first | exact Below.refl _ _ | apply Below.drewN | apply Below.drew | apply Below.draws | apply below_lit))⟩
        · have qz3 : ((z3.length : Int) != (s : Int)) = true := by simp; omega
          clear lz3
          go_wp2_with fail
          refine (ccheck_ok _ ok).mono ?_
          rintro e u3 ⟨rfl, b⟩
          have D : Below (World.heap u2 |>.size) u2 u3 := Below.next (by repeat (first | exact Below.refl _ _ | apply Below.drewN | apply Below.drew | apply Below.draws | apply below_lit)) b
          replace w2 := w2.below D
          replace w3 := w3.below D
          replace F := F.below D
          replace B := Below.next B D
          clear b D
          clear ok
          go_wp2
          go_ret
          exact ⟨rfl, Below.next B (by repeat (first | exact Below.refl _ _ | apply Below.drewN | apply Below.drew | apply Below.draws | apply below_lit))⟩
      · have qz2 : ((z2.length : Int) != (k : Int)) = true := by simp; omega
        clear lz2
        go_wp2_with fail
        refine (ccheck_ok _ ok).mono ?_
        rintro e u3 ⟨rfl, b⟩
        have D : Below (World.heap u2 |>.size) u2 u3 := Below.next (by repeat (first | exact Below.refl _ _ | apply Below.drewN | apply Below.drew | apply Below.draws | apply below_lit)) b
        replace w2 := w2.below D
        replace w3 := w3.below D
        replace F := F.below D
        replace B := Below.next B D
        clear b D
        clear ok
        go_wp2
        go_ret
        exact ⟨rfl, Below.next B (by repeat (first | exact Below.refl _ _ | apply Below.drewN | apply Below.drew | apply Below.draws | apply below_lit))⟩
  · skip
    go_wp2_with fail
    refine (ccheck_bad _ ok).mono ?_
    rintro e u3 ⟨rfl, b⟩
    have D : Below (World.heap u2 |>.size) u2 u3 := Below.next (by repeat (first | exact Below.refl _ _ | apply Below.drewN | apply Below.drew | apply Below.draws | apply below_lit)) b
    replace w2 := w2.below D
    replace w3 := w3.below D
    replace F := F.below D
    replace B := Below.next B D
    clear b D
    clear ok
    go_wp2
    go_ret
    exact ⟨rfl, Below.next B (by repeat (first | exact Below.refl _ _ | apply Below.drewN | apply Below.drew | apply Below.draws | apply below_lit))⟩

/-! ### THE ROW's STEP: WRITTEN OUT: LEAVE IT -/
set_option maxRecDepth 100000 in
theorem lifted (os : Os) (started : os.Started) (H : Type) (enc : TypeId × Value → H) :
    ReturnsInHanded {} Try.checked os 8 .any (Rows.errdecErasesSpec.pre6 enc Try.prog Try.f8 Rows.errdecErasesRow.domain false) (Rows.errdecErasesSpec.post enc Try.prog Try.f8 false true false false) := by
  refine returnsInHanded_of_change (C := Try.checked) own started (by kernel_rfl) Try.func8
    (ChangeSpec.witness6 (enc := enc) (C := Try.checked) false ⟨#[], #[.int .i64 0, .int .i64 0, .slice none 0 0, .slice none 0 0], []⟩ 8 (by kernel_rfl) (by kernel_rfl) (by kernel_rfl) (by kernel_rfl)) ?_
  intro W base args ds gs before hval0 hW hcnd _
  have hval : ∀ (j : Nat) t v, Try.f8.params[j]? = some t → args[j]? = some v → Value.okWide Try.prog W .any base t v := hval0
  have hW' := hW
  obtain ⟨p, q, hA0, hV, rfl, hfz, hnd⟩ := hW
  have hA : DataW.TrodAll enc Try.prog W 0 (fun _ => true) true Try.f8.params.toList args.toList ds p := hA0
  rw [Try.params8] at hA hval
  obtain ⟨v0, vs0, d0, ds0, p0, q0, hargs, rfl, rfl, h0, r0⟩ := trodAll_cons hA
  obtain ⟨v1, vs1, d1, ds1, p1, q1, rfl, rfl, rfl, h1, r1⟩ := trodAll_cons r0
  obtain ⟨v2, vs2, d2, ds2, p2, q2, rfl, rfl, rfl, h2, r2⟩ := trodAll_cons r1
  obtain ⟨v3, vs3, d3, ds3, p3, q3, rfl, rfl, rfl, h3, r3⟩ := trodAll_cons r2
  obtain ⟨rfl, rfl, rfl⟩ := trodAll_nil r3
  obtain rfl : args = #[v0, v1, v2, v3] := by cases args; simp_all
  obtain ⟨rfl, rfl⟩ := trodVars_none hV
  obtain ⟨a0, rfl, rfl, rfl, w0⟩ := open_int Try.underlying3 (hval 0 3 v0 rfl rfl) h0
  obtain ⟨a1, rfl, rfl, rfl, w1⟩ := open_int Try.underlying3 (hval 1 3 v1 rfl rfl) h1
  obtain ⟨a2, len2, cap2, rfl⟩ := okWide_slice Try.underlying22 (hval 2 22 v2 rfl rfl)
  have k2 := h2
  have lt2 : ∀ x ∈ p2, x.block < W.heap.size := by obtain ⟨m, hm⟩ := k2; exact DataW.trod_lt m _ _ _ hm
  obtain ⟨z2, w2⟩ : ∃ zs, IsRow .u8 W a2 len2 cap2 zs := by
    obtain ⟨fuel, hf⟩ := h2
    rcases open_ints Try.underlying22 Try.underlying5 (by kernel_rfl) hf with ⟨hcs, _⟩ | ⟨x, l, c, zs, hcs, _, hl, hm, hz, _, hcell, hwz⟩
    · simp [Value.cells] at hcs
      obtain ⟨rfl, rfl, rfl⟩ := hcs
      exact ⟨[], .inl ⟨rfl, rfl, rfl, rfl⟩⟩
    · simp [Value.cells] at hcs
      obtain ⟨rfl, rfl, rfl⟩ := hcs
      exact ⟨zs, .inr ⟨_, rfl, hl, hm, by simpa using hz, hcell, hwz⟩⟩
  obtain ⟨a3, len3, cap3, rfl⟩ := okWide_slice Try.underlying23 (hval 3 23 v3 rfl rfl)
  have k3 := h3
  have lt3 : ∀ x ∈ p3, x.block < W.heap.size := by obtain ⟨m, hm⟩ := k3; exact DataW.trod_lt m _ _ _ hm
  obtain ⟨z3, w3⟩ : ∃ zs, RdB W (.slice a3 len3 cap3) zs := by
    obtain ⟨fuel, hf⟩ := h3
    rcases Go.Deep.open_bools Try.underlying23 Try.underlying4 (by kernel_rfl) hf with ⟨hcs, _⟩ | ⟨x, l, c, B, hcs, _, hl, hm, _, hcell⟩
    · simp [Value.cells] at hcs
      obtain ⟨rfl, rfl, rfl⟩ := hcs
      exact ⟨[], rdB_none⟩
    · simp [Value.cells] at hcs
      obtain ⟨rfl, rfl, rfl⟩ := hcs
      exact rdB_row hl hm hcell
  clear hA0 hval0
  refine (walk a0 a1 a2 len2 cap2 z2 a3 len3 cap3 z3 W w0 w1 w2 w3).mono fun e W' ⟨he, bel⟩ => ?_
  subst he
  exact ⟨_, rfl, _, _, _, [], _, [], hW', trodAll_mk1 (shut_bool Try.underlying4 _), (trodAll_cons_mk (shut_int Try.underlying3 w0) (trodAll_cons_mk (shut_int Try.underlying3 w1) (trodAll_cons_mk (Below.trod laidOut (by kernel_rfl) (of_decide_eq_true (by kernel_rfl)) k2 bel lt2) (trodAll_cons_mk (Below.trod laidOut (by kernel_rfl) (of_decide_eq_true (by kernel_rfl)) k3 bel lt3) trodAll_mk0)))), rfl, bel.frame _, fun h => by cases h⟩

theorem over : Rows.errdecErasesRow.holds Try.pinned (OpenSpec.ofChange Rows.errdecErasesSpec) :=
  OpenClaim.holds_of_wide 8 Try.f8 rfl rfl rfl rfl rfl rfl rfl ⟨rfl, rfl, rfl, rfl, rfl⟩ rfl rfl rfl rfl rfl (by kernel_rfl) Try.func8 (by kernel_rfl)
    (of_decide_eq_true (by kernel_rfl)) (by unfold Func.isWrapper; first | (rw [if_pos (by decide +kernel)]; kernel_rfl) | (rw [if_neg (by decide +kernel)]; exact ⟨rfl, rfl⟩))
    (fun os started H enc _ => lifted os started H enc)

/-- ████ THE STATEMENT ████ -/
theorem proved : Rows.ErrdecErasesSaid := over
end Go.Proofs.Ytchfonofjbpmaaa.errdecErases
namespace Go.Proofs.Ytchfonofjbpmaaa
theorem errdecErases_holds : Rows.ErrdecErasesSaid := errdecErases.proved
#print axioms errdecErases_holds
end Go.Proofs.Ytchfonofjbpmaaa
