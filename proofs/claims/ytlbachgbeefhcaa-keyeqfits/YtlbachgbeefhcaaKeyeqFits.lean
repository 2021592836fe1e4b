/- PROVED: for all lists s and known the call KeyeqFits(s, known) returns true, and its arguments read behind it as before; no conditions. -/
import Derived.Test.YtlbachgbeefhcaaRows
import Derived.Test.YtlbachgbeefhcaaTome7
import Derived.Test.YtlbachgbeefhcaaTome9
import Derived.WalkKit
import Derived.ProofKit
import Derived.OpenShut
import Derived.ShutString
import Derived.ChangeOld
import Derived.Below
namespace Go.Proofs.Ytlbachgbeefhcaa.keyeqFits
open Go.ChangeShapes Go.WideShapes Go.ChangeAt Go.RowKit
open Go.ChangeMaps (open_string shut_string)
set_option linter.unusedVariables false

theorem own : ownKnob Try.prog.godebug = none := by kernel_rfl
theorem laidOut : laidOutB Try.prog = true := by kernel_rfl

/-- WHAT THE WALK IS TOLD OF A SLICE OF INTEGERS THAT CAME IN: it is nil; or it leads to a row of 'cap' cells, the numbers 'zs' (the first 'len' are its elements, the rest its spare room), each fitting its kind. -/
def IsRow (k : IntKind) (w : World) (a : Option Addr) (len cap : Nat) (zs : List Int) : Prop :=
  (a = none ∧ len = 0 ∧ cap = 0 ∧ zs = []) ∨
  ∃ x, a = some x ∧ len ≤ cap ∧ cap ≤ maxLen ∧ zs.length = cap ∧ (∀ i, i < zs.length → w.cell? (x.add i) = some (.int k (zs.getD i 0))) ∧ ∀ n ∈ zs, (Lit.int k n).wf = true

open Gf
set_option linter.unusedSimpArgs false
set_option maxRecDepth 100000 in
set_option maxHeartbeats 4000000 in
theorem walk (a0 : Option Addr) (len0 cap0 : Nat) (z0 : List Int) (a1 : Option Addr) (len1 cap1 : Nat) (z1 : List Int) (w : World) (w0 : IsRow .u8 w a0 len0 cap0 z0) (w1 : IsRow .u8 w a1 len1 cap1 z1) :
    Calls Try.prog 7 #[.slice a0 len0 cap0, .slice a1 len1 cap1] w fun e w' => e = .returned (.bool true) ∧ Below w.heap.size w w' := by
  obtain ⟨z0, rfl, w0⟩ := rd_row w0
  obtain ⟨z1, rfl, w1⟩ := rd_row w1
  obtain ⟨i0, hi, hi0, hi1, hi2⟩ := info_parts info_u8
  go_enter Try.func7, Try.ntmps7
  have B : Below w.heap.size w w := Below.refl _ _
  go_wp2_with fail
  refine (awake9_any _).mono ?_
  rintro e u1 ⟨rfl, b⟩
  have D : Below (World.heap w |>.size) w u1 := Below.next (by repeat (first | exact Below.refl _ _ | apply Below.drewN | apply Below.drew | apply Below.draws | apply below_lit)) b
  replace w0 := w0.below D
  replace w1 := w1.below D
  replace B := Below.next B D
  clear b D
  go_wp2_with fail
  refine (new_any _).mono ?_
  rintro e u2 ⟨rfl, F, hO⟩
  have b := hO.below
  clear hO
  have D : Below (World.heap u1 |>.size) u1 u2 := Below.next (by repeat (first | exact Below.refl _ _ | apply Below.drewN | apply Below.drew | apply Below.draws | apply below_lit)) b
  replace w0 := w0.below D
  replace w1 := w1.below D
  replace B := Below.next B D
  clear b D
  have hxz0 := w0.len
  unfold maxLen at hxz0
  by_cases hz0 : z0.length ≤ 40
  · have hz0' : ¬ (z0.length : Int) > 40 := by omega
    have hxz1 := w1.len
    unfold maxLen at hxz1
    by_cases hz1 : z1.length ≤ 40
    · have hz1' : ¬ (z1.length : Int) > 40 := by omega
      go_wp2_with fail
      refine (ksol_any (F.below (by repeat (first | exact Below.refl _ _ | apply Below.drewN | apply Below.drew | apply Below.draws | apply below_lit))) (w0.below (by repeat (first | exact Below.refl _ _ | apply Below.drewN | apply Below.drew | apply Below.draws | apply below_lit))) (w1.below (by repeat (first | exact Below.refl _ _ | apply Below.drewN | apply Below.drew | apply Below.draws | apply below_lit))) (by omega) (by omega)).mono ?_
      rintro e u3 ⟨X1, A1, O1, va1, vo1, HK1, rfl, Ra1, Ro1, b⟩
      have D : Below (World.heap u2 |>.size) u2 u3 := Below.next (by repeat (first | exact Below.refl _ _ | apply Below.drewN | apply Below.drew | apply Below.draws | apply below_lit)) b
      replace w0 := w0.below D
      replace w1 := w1.below D
      replace F := F.below D
      replace B := Below.next B D
      clear b D
      obtain ⟨aa1, ca1, rfl⟩ := Ra1.form
      obtain ⟨ao1, co1, rfl⟩ := Ro1.form
      go_wp2_with fail
      refine (pnorm_any (w1.below (by repeat (first | exact Below.refl _ _ | apply Below.drewN | apply Below.drew | apply Below.draws | apply below_lit))) (by omega)).mono ?_
      rintro e u4 ⟨vg, rfl, Rg, b⟩
      have D : Below (World.heap u3 |>.size) u3 u4 := Below.next (by repeat (first | exact Below.refl _ _ | apply Below.drewN | apply Below.drew | apply Below.draws | apply below_lit)) b
      replace w0 := w0.below D
      replace w1 := w1.below D
      replace F := F.below D
      replace Ra1 := Ra1.below D
      replace Ro1 := Ro1.below D
      replace B := Below.next B D
      clear b D
      have hnl := norm_len9 z1
      obtain ⟨E, hE⟩ : ∃ E, Hid (E = (norm z1).length) := ⟨_, rfl⟩
      obtain ⟨ga, gc, eg⟩ := Rg.form
      rw [← hE.out] at eg hnl
      subst eg
      have gE : IntKind.i64.wrap ((E : Int) - 1) = (E : Int) - 1 := by rw [IntKind.wrap_i64]; omega
      rcases HK1 with ⟨hbad, rfl, rfl, rfl⟩ | ⟨hnb, t, L, hl, rfl, rfl, rfl⟩ | ⟨hnb, hno, rfl, rfl, rfl⟩
      · unfold BadK at hbad
        rw [← hE.out] at hbad
        by_cases h0 : E = 0
        · have q1 : ((E : Int) == 0) = true := by simp [h0]
          clear h0 hbad
          go_wp2
          go_ret
          exact ⟨rfl, Below.next B (by repeat (first | exact Below.refl _ _ | apply Below.drewN | apply Below.drew | apply Below.draws | apply below_lit))⟩
        · have q1 : ((E : Int) == 0) = false := by simp [h0]
          have q2 : (E : Int) - 1 > (z0.length : Int) := by omega
          clear h0 hbad
          go_wp2
          go_ret
          exact ⟨rfl, Below.next B (by repeat (first | exact Below.refl _ _ | apply Below.drewN | apply Below.drew | apply Below.draws | apply below_lit))⟩
      · have hfin := hl.loc.fin
        have hfew := hl.few
        have hzero : Hid _ := hl.loc.zero
        have htop : Hid (co (upto L (t + 1)) t = 1) := (by rw [co_upto hfin, hl.loc.top] : co (upto L (t + 1)) t = 1)
        have hco : Hid _ := fits_co (s := z0) (known := z1) hfin
        have hhi : Hid _ := fits_high (s := z0) (known := z1) hfin
        unfold BadK at hnb
        rw [← hE.out] at hnb hfew hzero
        have hnb' : E ≠ 0 ∧ E ≤ z0.length + 1 := by omega
        obtain ⟨hE0, hE1⟩ := hnb'
        obtain ⟨O, hO⟩ : ∃ O, Hid (O = evaL z0 z1 t L) := ⟨_, rfl⟩
        rw [← hO.out] at Ro1 hhi
        obtain ⟨A, hA⟩ : ∃ A, Hid (A = upto L (t + 1)) := ⟨_, rfl⟩
        have hAl : Hid (A.length = t + 1) := (by rw [hA.out, upto_length] : A.length = t + 1)
        rw [← hA.out] at Ra1 htop hco hhi
        rw [hAl.out] at Ra1
        obtain ⟨G, hG⟩ : ∃ G, Hid (G = norm z1) := ⟨_, rfl⟩
        rw [← hG.out] at Rg hco hhi
        have hGl : Hid (G.length = E) := (by rw [hG.out, hE.out] : G.length = E)
        rw [← hO.out]
        rw [upto_length]
        clear hnb hl hfin
        obtain ⟨m, hm⟩ : ∃ m, Hid (m = z0.length) := ⟨_, rfl⟩
        rw [← hm.out] at w0 hfew hzero hE1 hhi hz0 hz0' ⊢
        obtain ⟨N, hN⟩ : ∃ N, Hid (N = m) := ⟨_, rfl⟩
        clear hz0'
        go_wp2_with (at_make; go_loud (refine wpList_make_full _ rfl (.tmp 74) (.tmp 74) 23 rfl (World.heap u4 |>.size) 5 i0 (.int .u8 0) 1 Try.underlying23 hi hi0 hi1 _ _ _ _ m rfl rfl (by omega) (by omega) (by rw [hi2]; omega) (by unfold maxLen; omega) (Nat.le_refl _) ?_); intro w8 hown8 hgrow8)
        have R8 : Hid (RowF w8 (World.heap u4 |>.size) 5 (World.heap u4 |>.size) m m (fun _ => 0)) := RowF.made hown8
        have B8 : Hid (Below (World.heap u4 |>.size) u4 w8) := (Below.refl _ _).grown hgrow8 (Nat.le_refl _) (fun q hq => by cases hq)
        clear hown8 hgrow8
        obtain ⟨g, hg⟩ : ∃ g, Hid (g = (World.heap u4 |>.size)) := ⟨_, rfl⟩
        rw [← hg.out] at R8 ⊢
        go_wp2
        go_loopw [13] (fun v wr => ∃ i : Nat, i ≤ m ∧ v = .int .i64 i ∧ RowF wr g 5 g m m (tnF z0 i) ∧ Below (World.heap u4 |>.size) u4 wr) (fun v _ => m - (intOf v).toNat)
        case atStart => exact ⟨0, by omega, rfl, R8.out.congr fun j hj => (tnF_zero z0 (by rw [← hm.out]; exact hj)).symm, B8.out⟩
        case round =>
          obtain ⟨i, hi9, rfl, hR, hB⟩ := hrel
          clear R8 B8
          by_cases hlt : i < m
          · have hlt' : (i : Int) < (m : Int) := by omega
            obtain ⟨d, hd⟩ : ∃ d, Hid (d = m - 1 - i) := ⟨_, rfl⟩
            have gd : (m : Int) - 1 - (i : Int) = (d : Int) := by have := hd.out; omega
            have hdm : d < m := by have := hd.out; omega
            have hdm' : (d : Int) < (m : Int) := by omega
            have gw1 : IntKind.i64.wrap ((m : Int) - 1) = (m : Int) - 1 := by rw [IntKind.wrap_i64]; omega
            have gw2 : IntKind.i64.wrap (d : Int) = (d : Int) := by rw [IntKind.wrap_i64]; omega
            obtain ⟨sb, so, es, _, cs⟩ := (w0.below hB).byte (i := i) (by rw [← hm.out]; exact hlt)
            subst es
            have c1 := hR.cell hdm
            have f1 := hR.unfrozen d
            have HN : Hid (RowF (World.setCell wr ⟨g, d, none⟩ (.int .u8 ((co z0 i).toNat : Nat))) g 5 g m m (tnF z0 (i + 1))) := hR.store hdm _ (fun j => by rw [tnF_step z0 (by rw [← hm.out]; exact hlt), ← hm.out, ← hd.out])
            have HB : Hid (Below (World.heap u4 |>.size) u4 (World.setCell wr ⟨g, d, none⟩ (.int .u8 ((co z0 i).toNat : Nat)))) := hB.setCell (p := ⟨g, d, none⟩) (by rw [hg.out]; exact Nat.le_refl _) _
            clear hR hB
            go_wp2
            go_roundw
            case rel => exact ⟨i + 1, by omega, by go_num, HN.out, HB.out⟩
            case measure => simp [intOf]; omega
          · have hge : ¬ (i : Int) < (m : Int) := by omega
            have ei : i = m := by omega
            have Rt : Rd wr (.slice (some ⟨g, 0, none⟩) m m) z0.reverse := by
              rw [← tnF_all, ← hm.out, ← ei]
              have := hR.rd
              rw [ei] at this ⊢
              exact this
            replace Ra1 := Ra1.below hB
            replace Ro1 := Ro1.below hB
            replace Rg := Rg.below hB
            replace F := F.below hB
            replace B := Below.next B hB
            clear ei hR hB w0 w1
            have hrl : Hid (z0.reverse.length = m) := (by rw [List.length_reverse, hm.out] : z0.reverse.length = m)
            go_wp2_with fail
            refine (pmul_any (F.below (by repeat (first | exact Below.refl _ _ | apply Below.drewN | apply Below.drew | apply Below.draws | apply below_lit))) (Ra1.below (by repeat (first | exact Below.refl _ _ | apply Below.drewN | apply Below.drew | apply Below.draws | apply below_lit))) (Rg.below (by repeat (first | exact Below.refl _ _ | apply Below.drewN | apply Below.drew | apply Below.draws | apply below_lit))) (by rw [hAl.out]; omega) (by rw [hGl.out]; omega)).mono ?_
            rintro e u5 ⟨vm1, rfl, Rm1, b⟩
            have D : Below (World.heap wr |>.size) wr u5 := Below.next (by repeat (first | exact Below.refl _ _ | apply Below.drewN | apply Below.drew | apply Below.draws | apply below_lit)) b
            replace Ra1 := Ra1.below D
            replace Ro1 := Ro1.below D
            replace Rg := Rg.below D
            replace F := F.below D
            replace Rt := Rt.below D
            replace B := Below.next B D
            clear b D
            have hml := mulP_len9 A G
            rw [hAl.out, hGl.out] at hml
            obtain ⟨M1, hM1⟩ : ∃ M1, Hid (M1 = mulP A G) := ⟨_, rfl⟩
            rw [← hM1.out] at Rm1 hml hco hhi
            obtain ⟨ma, mc, rfl⟩ := Rm1.form
            go_wp2_with fail
            refine (pmul_any (F.below (by repeat (first | exact Below.refl _ _ | apply Below.drewN | apply Below.drew | apply Below.draws | apply below_lit))) (Rm1.below (by repeat (first | exact Below.refl _ _ | apply Below.drewN | apply Below.drew | apply Below.draws | apply below_lit))) (Rt.below (by repeat (first | exact Below.refl _ _ | apply Below.drewN | apply Below.drew | apply Below.draws | apply below_lit))) (by omega) (by rw [hrl.out]; omega)).mono ?_
            rintro e u6 ⟨vm2, rfl, Rm2, b⟩
            have D : Below (World.heap u5 |>.size) u5 u6 := Below.next (by repeat (first | exact Below.refl _ _ | apply Below.drewN | apply Below.drew | apply Below.draws | apply below_lit)) b
            replace Ra1 := Ra1.below D
            replace Ro1 := Ro1.below D
            replace Rg := Rg.below D
            replace F := F.below D
            replace Rt := Rt.below D
            replace Rm1 := Rm1.below D
            replace B := Below.next B D
            clear b D
            have hml2 := mulP_len9 M1 z0.reverse
            rw [hrl.out] at hml2
            obtain ⟨M2, hM2⟩ : ∃ M2, Hid (M2 = mulP M1 z0.reverse) := ⟨_, rfl⟩
            rw [← hM2.out] at Rm2 hml2 hco hhi
            have HZ : Hid (∀ i, E - 1 + t ≤ i → i < m → co M2 i = 0) := fun i h1 h2 => by rw [hco.out]; exact hzero.out i h1 h2
            obtain ⟨ab, ao, ac, eab, _, ca⟩ : ∃ ab ao ac, (Value.slice aa1 (t + 1) ca1 = .slice (some ⟨ab, ao, none⟩) (t + 1) ac) ∧ True ∧ World.cell? u6 ⟨ab, ao + t, none⟩ = some (.int .u8 1) := by
              obtain ⟨ab, ao, e, _, c⟩ := Ra1.byte (i := t) (by rw [hAl.out]; omega)
              rw [htop.out] at c
              subst e
              exact ⟨ab, ao, _, rfl, trivial, c⟩
            simp at eab
            obtain ⟨rfl, rfl⟩ := eab
            have gt1 : IntKind.i64.wrap (((t + 1 : Nat) : Int) - 1) = (t : Int) := by rw [IntKind.wrap_i64]; omega
            have gt2 : ((t + 1 : Nat) : Int) - 1 = (t : Int) := by omega
            have gt3 : ((t : Int) + 1) - 1 = (t : Int) := by omega
            have gt4 : IntKind.i64.wrap (t : Int) = (t : Int) := by rw [IntKind.wrap_i64]; omega
            have q1 : ¬ (t : Int) < 0 := by omega
            have q2 : (t : Int) < (t : Int) + 1 := by omega
            have gm1 : IntKind.i64.wrap (2 * (t : Int)) = 2 * (t : Int) := by rw [IntKind.wrap_i64]; omega
            have gm2 : IntKind.i64.wrap (2 * (t : Int) + (E : Int)) = 2 * (t : Int) + (E : Int) := by rw [IntKind.wrap_i64]; omega
            have gm3 : IntKind.i64.wrap (2 * (t : Int) + (E : Int) - 1) = 2 * (t : Int) + (E : Int) - 1 := by rw [IntKind.wrap_i64]; omega
            have q3 : ¬ (2 * (t : Int) + (E : Int) - 1 > (m : Int)) := by omega
            obtain ⟨T, hT⟩ : ∃ T, Hid (T = E - 1 + t) := ⟨_, rfl⟩
            have gT : (E : Int) - 1 + (t : Int) = (T : Int) := by have := hT.out; omega
            have gTw : IntKind.i64.wrap (T : Int) = (T : Int) := by rw [IntKind.wrap_i64]; have := hT.out; omega
            have hTm : T ≤ m := by have := hT.out; omega
            rw [← hT.out] at HZ
            obtain ⟨m2a, m2c, rfl⟩ := Rm2.form
            go_wp2
            go_loop [16] (fun v => ∃ i : Nat, T ≤ i ∧ i ≤ m ∧ v = .int .i64 i) (fun v => m - (intOf v).toNat)
            case atStart => exact ⟨T, Nat.le_refl _, hTm, rfl⟩
            case round =>
              obtain ⟨i, h1, h2, rfl⟩ := hrel
              by_cases hlt : i < m ∧ i < M2.length
              · have hlt1 : (i : Int) < (m : Int) := by omega
                have hlt2 : (i : Int) < (M2.length : Int) := by omega
                have d1 : decide ((i : Int) < (m : Int)) = true := decide_eq_true hlt1
                obtain ⟨mb, mo, rfl, _, cm⟩ := Rm2.byte (i := i) hlt.2
                rw [HZ.out i h1 hlt.1] at cm
                have cm2 : World.cell? u6 ⟨mb, mo + i, none⟩ = some (.int .u8 0) := cm
                clear cm hlt
                go_wp2
                go_round
                case rel => exact ⟨i + 1, by omega, by omega, by go_num⟩
                case measure => simp [intOf]; omega
              · have hx9 : ¬ (i : Int) < (m : Int) ∨ ((i : Int) < (m : Int) ∧ ¬ (i : Int) < (M2.length : Int)) := by omega
                rcases hx9 with hx9 | ⟨hx8, hx9⟩
                · have d1 : decide ((i : Int) < (m : Int)) = false := decide_eq_false hx9
                  clear hlt
                  clear HZ hco htop hzero hrl hGl hE0 hE1 hfew hml hnl h1 hTm q1 q2 q3 gm1 gm2 gm3 gt1 gt2 gt3 gt4 gT gTw gE ca Ra1 Rg Rt Rm1
                  by_cases hhm : m < M2.length
                  · have p1 : (M2.length : Int) > (m : Int) := by omega
                    have p2 : (m : Int) ≤ (M2.length : Int) := by omega
                    obtain ⟨mb, mo, mc2, em, hmc, hmx⟩ := Rm2.spot9 (by omega)
                    simp at em
                    obtain ⟨rfl, rfl⟩ := em
                    unfold maxLen at hmx
                    have p3 : (m : Int) ≤ (m2c : Int) := by omega
                    have p4 : m < m2c := by omega
                    have p5 : ¬ m2c = m := by omega
                    have p6 : m ≤ M2.length := by omega
                    have p7 : IntKind.i64.wrap (m : Int) = (m : Int) := by rw [IntKind.wrap_i64]; omega
                    obtain ⟨D, hD⟩ : ∃ D, Hid (D = M2.length - m) := ⟨_, rfl⟩
                    have Rh := Rm2.behind hhm hD.out
                    rw [hhi.out] at Rh
                    have p8 : M2.length - m = D := hD.out.symm
                    go_wp2_with fail
                    refine (same9_t (Ro1.below (by repeat (first | exact Below.refl _ _ | apply Below.drewN | apply Below.drew | apply Below.draws | apply below_lit))) (Rh.below (by repeat (first | exact Below.refl _ _ | apply Below.drewN | apply Below.drew | apply Below.draws | apply below_lit))) rfl).mono ?_
                    rintro e u7 ⟨rfl, b⟩
                    have D : Below (World.heap u6 |>.size) u6 u7 := Below.next (by repeat (first | exact Below.refl _ _ | apply Below.drewN | apply Below.drew | apply Below.draws | apply below_lit)) b
                    replace Ro1 := Ro1.below D
                    replace Rh := Rh.below D
                    replace B := Below.next B D
                    clear b D
                    go_wp2
                    go_ret
                    exact ⟨rfl, Below.next B (by repeat (first | exact Below.refl _ _ | apply Below.drewN | apply Below.drew | apply Below.draws | apply below_lit))⟩
                  · have p1 : ¬ (M2.length : Int) > (m : Int) := by omega
                    have eO : Hid (O = []) := (by rw [← hhi.out]; exact List.drop_eq_nil_of_le (by omega) : O = [])
                    go_wp2_with fail
                    refine (same9_t (Ro1.below (by repeat (first | exact Below.refl _ _ | apply Below.drewN | apply Below.drew | apply Below.draws | apply below_lit))) (rd_lit2 [] (by simp) rfl rfl (by decide)) eO.out).mono ?_
                    rintro e u7 ⟨rfl, b⟩
                    have D : Below (World.heap u6 |>.size) u6 u7 := Below.next (by repeat (first | exact Below.refl _ _ | apply Below.drewN | apply Below.drew | apply Below.draws | apply below_lit)) b
                    replace Ro1 := Ro1.below D
                    replace B := Below.next B D
                    clear b D
                    go_wp2
                    go_ret
                    exact ⟨rfl, Below.next B (by repeat (first | exact Below.refl _ _ | apply Below.drewN | apply Below.drew | apply Below.draws | apply below_lit))⟩
                · have d1 : decide ((i : Int) < (m : Int)) = true := decide_eq_true hx8
                  clear hlt
                  clear HZ hco htop hzero hrl hGl hE0 hE1 hfew hml hnl h1 hTm q1 q2 q3 gm1 gm2 gm3 gt1 gt2 gt3 gt4 gT gTw gE ca Ra1 Rg Rt Rm1
                  by_cases hhm : m < M2.length
                  · have p1 : (M2.length : Int) > (m : Int) := by omega
                    have p2 : (m : Int) ≤ (M2.length : Int) := by omega
                    obtain ⟨mb, mo, mc2, em, hmc, hmx⟩ := Rm2.spot9 (by omega)
                    simp at em
                    obtain ⟨rfl, rfl⟩ := em
                    unfold maxLen at hmx
                    have p3 : (m : Int) ≤ (m2c : Int) := by omega
                    have p4 : m < m2c := by omega
                    have p5 : ¬ m2c = m := by omega
                    have p6 : m ≤ M2.length := by omega
                    have p7 : IntKind.i64.wrap (m : Int) = (m : Int) := by rw [IntKind.wrap_i64]; omega
                    obtain ⟨D, hD⟩ : ∃ D, Hid (D = M2.length - m) := ⟨_, rfl⟩
                    have Rh := Rm2.behind hhm hD.out
                    rw [hhi.out] at Rh
                    have p8 : M2.length - m = D := hD.out.symm
                    go_wp2_with fail
                    refine (same9_t (Ro1.below (by repeat (first | exact Below.refl _ _ | apply Below.drewN | apply Below.drew | apply Below.draws | apply below_lit))) (Rh.below (by repeat (first | exact Below.refl _ _ | apply Below.drewN | apply Below.drew | apply Below.draws | apply below_lit))) rfl).mono ?_
                    rintro e u7 ⟨rfl, b⟩
                    have D : Below (World.heap u6 |>.size) u6 u7 := Below.next (by repeat (first | exact Below.refl _ _ | apply Below.drewN | apply Below.drew | apply Below.draws | apply below_lit)) b
                    replace Ro1 := Ro1.below D
                    replace Rh := Rh.below D
                    replace B := Below.next B D
                    clear b D
                    go_wp2
                    go_ret
                    exact ⟨rfl, Below.next B (by repeat (first | exact Below.refl _ _ | apply Below.drewN | apply Below.drew | apply Below.draws | apply below_lit))⟩
                  · have p1 : ¬ (M2.length : Int) > (m : Int) := by omega
                    have eO : Hid (O = []) := (by rw [← hhi.out]; exact List.drop_eq_nil_of_le (by omega) : O = [])
                    go_wp2_with fail
                    refine (same9_t (Ro1.below (by repeat (first | exact Below.refl _ _ | apply Below.drewN | apply Below.drew | apply Below.draws | apply below_lit))) (rd_lit2 [] (by simp) rfl rfl (by decide)) eO.out).mono ?_
                    rintro e u7 ⟨rfl, b⟩
                    have D : Below (World.heap u6 |>.size) u6 u7 := Below.next (by repeat (first | exact Below.refl _ _ | apply Below.drewN | apply Below.drew | apply Below.draws | apply below_lit)) b
                    replace Ro1 := Ro1.below D
                    replace B := Below.next B D
                    clear b D
                    go_wp2
                    go_ret
                    exact ⟨rfl, Below.next B (by repeat (first | exact Below.refl _ _ | apply Below.drewN | apply Below.drew | apply Below.draws | apply below_lit))⟩
      · clear hno hnb
        go_wp2
        go_ret
        exact ⟨rfl, Below.next B (by repeat (first | exact Below.refl _ _ | apply Below.drewN | apply Below.drew | apply Below.draws | apply below_lit))⟩
    · have hz1' : (z1.length : Int) > 40 := by omega
      go_wp2
      go_ret
      exact ⟨rfl, Below.next B (by repeat (first | exact Below.refl _ _ | apply Below.drewN | apply Below.drew | apply Below.draws | apply below_lit))⟩
  · have hz0' : (z0.length : Int) > 40 := by omega
    go_wp2
    go_ret
    exact ⟨rfl, Below.next B (by repeat (first | exact Below.refl _ _ | apply Below.drewN | apply Below.drew | apply Below.draws | apply below_lit))⟩

/-! ### THE ROW's STEP: WRITTEN OUT: LEAVE IT -/
set_option maxRecDepth 100000 in
theorem lifted (os : Os) (started : os.Started) (H : Type) (enc : TypeId × Value → H) :
    ReturnsInHanded {} Try.checked os 7 .any (Rows.keyeqFitsSpec.pre6 enc Try.prog Try.f7 Rows.keyeqFitsRow.domain false) (Rows.keyeqFitsSpec.post enc Try.prog Try.f7 false true false false) := by
  refine returnsInHanded_of_change (C := Try.checked) own started (by kernel_rfl) Try.func7
    (ChangeSpec.witness6 (enc := enc) (C := Try.checked) false ⟨#[], #[.slice none 0 0, .slice none 0 0], []⟩ 8 (by kernel_rfl) (by kernel_rfl) (by kernel_rfl) (by kernel_rfl)) ?_
  intro W base args ds gs before hval0 hW hcnd _
  have hval : ∀ (j : Nat) t v, Try.f7.params[j]? = some t → args[j]? = some v → Value.okWide Try.prog W .any base t v := hval0
  have hW' := hW
  obtain ⟨p, q, hA0, hV, rfl, hfz, hnd⟩ := hW
  have hA : DataW.TrodAll enc Try.prog W 0 (fun _ => true) true Try.f7.params.toList args.toList ds p := hA0
  rw [Try.params7] at hA hval
  obtain ⟨v0, vs0, d0, ds0, p0, q0, hargs, rfl, rfl, h0, r0⟩ := trodAll_cons hA
  obtain ⟨v1, vs1, d1, ds1, p1, q1, rfl, rfl, rfl, h1, r1⟩ := trodAll_cons r0
  obtain ⟨rfl, rfl, rfl⟩ := trodAll_nil r1
  obtain rfl : args = #[v0, v1] := by cases args; simp_all
  obtain ⟨rfl, rfl⟩ := trodVars_none hV
  obtain ⟨a0, len0, cap0, rfl⟩ := okWide_slice Try.underlying23 (hval 0 23 v0 rfl rfl)
  have k0 := h0
  have lt0 : ∀ x ∈ p0, x.block < W.heap.size := by obtain ⟨m, hm⟩ := k0; exact DataW.trod_lt m _ _ _ hm
  obtain ⟨z0, w0⟩ : ∃ zs, IsRow .u8 W a0 len0 cap0 zs := by
    obtain ⟨fuel, hf⟩ := h0
    rcases open_ints Try.underlying23 Try.underlying5 (by kernel_rfl) hf with ⟨hcs, _⟩ | ⟨x, l, c, zs, hcs, _, hl, hm, hz, _, hcell, hwz⟩
    · simp [Value.cells] at hcs
      obtain ⟨rfl, rfl, rfl⟩ := hcs
      exact ⟨[], .inl ⟨rfl, rfl, rfl, rfl⟩⟩
    · simp [Value.cells] at hcs
      obtain ⟨rfl, rfl, rfl⟩ := hcs
      exact ⟨zs, .inr ⟨_, rfl, hl, hm, by simpa using hz, hcell, hwz⟩⟩
  obtain ⟨a1, len1, cap1, rfl⟩ := okWide_slice Try.underlying23 (hval 1 23 v1 rfl rfl)
  have k1 := h1
  have lt1 : ∀ x ∈ p1, x.block < W.heap.size := by obtain ⟨m, hm⟩ := k1; exact DataW.trod_lt m _ _ _ hm
  obtain ⟨z1, w1⟩ : ∃ zs, IsRow .u8 W a1 len1 cap1 zs := by
    obtain ⟨fuel, hf⟩ := h1
    rcases open_ints Try.underlying23 Try.underlying5 (by kernel_rfl) hf with ⟨hcs, _⟩ | ⟨x, l, c, zs, hcs, _, hl, hm, hz, _, hcell, hwz⟩
    · simp [Value.cells] at hcs
      obtain ⟨rfl, rfl, rfl⟩ := hcs
      exact ⟨[], .inl ⟨rfl, rfl, rfl, rfl⟩⟩
    · simp [Value.cells] at hcs
      obtain ⟨rfl, rfl, rfl⟩ := hcs
      exact ⟨zs, .inr ⟨_, rfl, hl, hm, by simpa using hz, hcell, hwz⟩⟩
  clear hA0 hval0
  refine (walk a0 len0 cap0 z0 a1 len1 cap1 z1 W w0 w1).mono fun e W' ⟨he, bel⟩ => ?_
  subst he
  exact ⟨_, rfl, _, _, _, [], _, [], hW', trodAll_mk1 (shut_bool Try.underlying4 _), (trodAll_cons_mk (Below.trod laidOut (by kernel_rfl) (of_decide_eq_true (by kernel_rfl)) k0 bel lt0) (trodAll_cons_mk (Below.trod laidOut (by kernel_rfl) (of_decide_eq_true (by kernel_rfl)) k1 bel lt1) trodAll_mk0)), rfl, bel.frame _, fun h => by cases h⟩

theorem over : Rows.keyeqFitsRow.holds Try.pinned (OpenSpec.ofChange Rows.keyeqFitsSpec) :=
  OpenClaim.holds_of_wide 7 Try.f7 rfl rfl rfl rfl rfl rfl rfl ⟨rfl, rfl, rfl, rfl, rfl⟩ rfl rfl rfl rfl rfl (by kernel_rfl) Try.func7 (by kernel_rfl)
    (of_decide_eq_true (by kernel_rfl)) (by unfold Func.isWrapper; first | (rw [if_pos (by decide +kernel)]; kernel_rfl) | (rw [if_neg (by decide +kernel)]; exact ⟨rfl, rfl⟩))
    (fun os started H enc _ => lifted os started H enc)

/-- ████ THE STATEMENT ████ -/
theorem proved : Rows.KeyeqFitsSaid := over
end Go.Proofs.Ytlbachgbeefhcaa.keyeqFits
namespace Go.Proofs.Ytlbachgbeefhcaa
theorem keyeqFits_holds : Rows.KeyeqFitsSaid := keyeqFits.proved
#print axioms keyeqFits_holds
end Go.Proofs.Ytlbachgbeefhcaa
