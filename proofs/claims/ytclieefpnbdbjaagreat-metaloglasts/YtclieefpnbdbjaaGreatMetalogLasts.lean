/- PROVED: for every geometry g, every checkpoint s, every list l of records, every number keep and every bool replaced the call MetalogLasts(g, s, l, keep, replaced) returns true, and its arguments read behind it as before; no conditions. -/
import Derived.ProofKit
import Derived.ShutString
import Derived.ChangeOld
import Derived.Test.YtclieefpnbdbjaaGreatRome47
import Derived.Test.YtclieefpnbdbjaaGreatRome48
import Derived.Test.YtclieefpnbdbjaaGreatRome49
namespace Go.Proofs.YtclieefpnbdbjaaGreat.metalogLasts
open Go.ChangeShapes Go.WideShapes Go.ChangeAt Go.RowKit
open Go.ChangeMaps (open_string shut_string)
set_option linter.unusedVariables false

theorem own : ownKnob Tryz.prog.godebug = none := by kernel_rfl
theorem laidOut : laidOutB Tryz.prog = true := by kernel_rfl

/-- WHAT THE WALK IS TOLD OF A SLICE OF INTEGERS THAT CAME IN: it is nil; or it leads to a row of 'cap' cells, the numbers 'zs' (the first 'len' are its elements, the rest its spare room), each fitting its kind. -/
def IsRow (k : IntKind) (w : World) (a : Option Addr) (len cap : Nat) (zs : List Int) : Prop :=
  (a = none ∧ len = 0 ∧ cap = 0 ∧ zs = []) ∨
  ∃ x, a = some x ∧ len ≤ cap ∧ cap ≤ maxLen ∧ zs.length = cap ∧ (∀ i, i < zs.length → w.cell? (x.add i) = some (.int k (zs.getD i 0))) ∧ ∀ n ∈ zs, (Lit.int k n).wf = true

open Gf
set_option linter.unusedSimpArgs false
theorem ml_ret {p : Prop} (h : p := by
  go_wp2
  go_ret
  exact ⟨rfl, Z1⟩) : p := h
theorem rdR_len {w : World} {v : Value} {L : List RcV} (h : RdR w v L) : L.length ≤ 9223372036854775807 := by
  rcases h with ⟨_, _, rfl, _⟩ | ⟨_, _, _, _, _, h3, _⟩
  · exact Nat.zero_le _
  · unfold maxLen at h3; omega

set_option maxRecDepth 100000 in
set_option maxHeartbeats 4000000 in
theorem walk (c0 : GeoS) (ar1 ep1 : Int) (so1 : Value) (L1 : List ObV) (a2 : Option Addr) (len2 cap2 : Nat) (z2 : List RcV) (a3 : Int) (a4 : Bool) (w : World) (w0 : c0.Wf) (w1 : RdO w so1 L1) (wa1 : (Lit.int .i64 ar1).wf = true) (we1 : (Lit.int .i64 ep1).wf = true) (w2 : RdR w (.slice a2 len2 cap2) z2) (w3 : (Lit.int .i64 a3).wf = true) :
    Calls Tryz.prog 4 #[aggG c0, .agg #[.int .i64 ar1, .int .i64 ep1, so1], .slice a2 len2 cap2, .int .i64 a3, .bool a4] w fun e w' => e = .returned (.bool true) ∧ Below w.heap.size w w' := by
  obtain ⟨oa, oc, rfl⟩ := w1.form
  obtain rfl := w2.lenEq
  have HO := hidI w1
  have HL := hidI w2
  clear w1 w2
  obtain ⟨sx, hsx⟩ : ∃ sx, Hid (decide (smG c0) = sx) := ⟨_, rfl⟩
  obtain ⟨cx, hcx⟩ : ∃ cx, Hid (chG c0 = cx) := ⟨_, rfl⟩
  have KSm := fun W => @small15_any W c0 w0 _ hsx.out
  have KC := fun W => @lcheck_any W c0 w0 _ hcx.out
  have T2 := two18s w c0 ar1 ep1 (.slice oa L1.length oc) 23 41
  obtain ⟨W, hW⟩ : ∃ W, W = (w.alloc (.cells #[.int .i64 c0.k, .int .i64 c0.m, .int .i64 c0.z, .int .i64 c0.s, .int .i64 c0.t, .int .i64 c0.o] 23)).alloc (.cells #[.int .i64 ar1, .int .i64 ep1, .slice oa L1.length oc] 41) := ⟨_, rfl⟩
  have T3 : Hid (∀ V, Below W.heap.size W V → (GeoAt V w.heap.size c0 ∧ Below w.heap.size w V) ∧ V.cell? ⟨w.heap.size + 1, 0, none⟩ = some (.int .i64 ar1) ∧ V.cell? ⟨w.heap.size + 1, 1, none⟩ = some (.int .i64 ep1) ∧ V.cell? ⟨w.heap.size + 1, 2, none⟩ = some (.slice oa L1.length oc)) := by rw [hW]; exact T2
  clear T2 hsx
  have HWF := hidI w0
  have HWA := hidI wa1
  clear w0 wa1 we1 w3
  obtain ⟨k, m, z, s, t, o⟩ := c0
  simp only at hW
  rw [aggE] at KSm KC ⊢
  go_enter Tryz.func4, Tryz.ntmps4
  go_wp2_with fail
  rw [← hW]
  clear hW
  refine awake18_any.mono ?_
  rintro e v0 ⟨rfl, b0⟩
  obtain ⟨⟨⟨y0, y1, y2, y3, y4, y5⟩, _⟩, _, _, _⟩ := T3.out v0 b0
  simp only at y0 y1 y2 y3 y4 y5
  have K := KSm v0
  clear KSm
  go_wp2_with fail
  refine K.mono ?_
  clear K
  rintro _ v1 ⟨rfl, b1⟩
  have B1 := hidI (b0.step16 b1 b0.size)
  clear b0 b1 y0 y1 y2 y3 y4 y5
  cases sx with
  | false =>
    have Z1 := (T3.out v1 B1.out).1.2
    clear T3 B1 KC hcx HO HL
    exact ml_ret
  | true =>
  obtain ⟨⟨⟨y0, y1, y2, y3, y4, y5⟩, _⟩, _, _, _⟩ := T3.out v1 B1.out
  simp only at y0 y1 y2 y3 y4 y5
  have K := KC v1
  clear KC
  go_wp2_with fail
  refine K.mono ?_
  clear K
  rintro _ v2 ⟨rfl, b2⟩
  have B2 := hidI (B1.out.step16 b2 B1.out.size)
  clear b2 B1 y0 y1 y2 y3 y4 y5
  have Z1 := (T3.out v2 B2.out).1.2
  obtain ⟨⟨⟨y0, y1, y2, y3, y4, y5⟩, _⟩, e0, e1, e2⟩ := T3.out v2 B2.out
  simp only at y0 y1 y2 y3 y4 y5
  by_cases hx : cx = 0
  rotate_left
  · have q1 : (cx == 0) = false := beq_eq_false_iff_ne.2 hx
    have q2 : (cx != 0) = true := by simp [bne, q1]
    clear T3 B2 hcx HO HL
    exact ml_ret
  subst hx
  have HOK : Hid (okG ⟨k, m, z, s, t, o⟩) := by
    show okG _
    by_cases q : okG ⟨k, m, z, s, t, o⟩
    · exact q
    · have := hcx.out
      rw [show chG ⟨k, m, z, s, t, o⟩ = 50 from if_neg q] at this
      cases this
  clear hcx
  obtain ⟨n, hn⟩ : ∃ n, Hid (nT ⟨k, m, z, s, t, o⟩ = n) := ⟨_, rfl⟩
  have ekm : k + m = (n : Int) := by have := (okG_nat HOK.out).2.2.2.2.2.2.2.symm; rw [hn.out] at this; exact this
  have n32 : n ≤ 32 := by rw [← hn.out]; exact (okG_nat HOK.out).2.2.2.2.1
  have gk : IntKind.i64.wrap (k + m) = (n : Int) := by rw [ekm, IntKind.wrap_i64]; omega
  have HN := hidI n32
  clear ekm n32
  by_cases h1 : a3 < 0
  · clear T3 B2 HO HL
    exact ml_ret
  by_cases h2 : a3 ≥ (n : Int)
  · clear T3 B2 HO HL
    exact ml_ret
  obtain ⟨kp, rfl⟩ : ∃ kp : Nat, a3 = (kp : Int) := ⟨a3.toNat, by omega⟩
  have HKP : Hid (kp < n) := by show kp < n; omega
  obtain ⟨sm, hsm⟩ : ∃ sm, Hid (decide (smM 0 0 ([] : List UInt8).length 0 (oL L1)) = sm) := ⟨_, rfl⟩
  have K := msmall18_any (w := v2) (k := 0) (n := 0) (m := 0) (da := none) (ka := none) (sa := none) (ba := none) (ca := none) (dc := 0) (kc := 0) (sc := 0) (bl := 0) (bc := 0) (cl := 0) (cc := 0) (rk := 0) (rl := 0) (ar := ar1) (ep := ep1) (q0 := 0) (q1 := 0) (q2 := 0) (q3 := 0) (q4 := 0) (HO.out.below Z1) hsm.out
  go_wp2_with fail
  refine K.mono ?_
  clear K Z1
  rintro _ v3 ⟨rfl, b3⟩
  have B3 := hidI (B2.out.step16 b3 B2.out.size)
  clear b3 B2 y0 y1 y2 y3 y4 y5 e0 e1 e2
  cases sm with
  | false =>
    have Z1 := (T3.out v3 B3.out).1.2
    clear T3 B3 HO HL
    exact ml_ret
  | true =>
  have HS := hidI (sm_st (of_decide_eq_true hsm.out))
  clear hsm
  go_wp2_with fail
  have d1 : decide ((kp : Int) < 0) = false := decide_eq_false (by omega)
  have d2 : decide (n ≤ kp) = false := decide_eq_false (by have := HKP.out; omega)
  simp only [d1, d2, Bool.or_false]
  clear d1 d2 h1 h2
  go_loopw [12] (fun i wr => ∃ r : Nat, r ≤ z2.length ∧ i = .int .i64 (r : Int) ∧ Hid (Below W.heap.size W wr)) (fun i _ => z2.length - (intOf i).toNat)
  case atStart => exact ⟨0, Nat.zero_le _, rfl, B3.out⟩
  case round =>
    clear B3
    obtain ⟨r, hr, rfl, hB⟩ := hrel
    have Z1 := (T3.out wr hB.out).1.2
    by_cases hlt : r < z2.length
    · have hlt' : (r : Int) < (z2.length : Int) := by omega
      obtain ⟨b, off, ea, hb, cz⟩ := (HL.out.below Z1).at hlt
      subst ea
      generalize z2.getD r default = c at cz
      obtain ⟨⟨kd, ky, ln, st⟩, vs⟩ := c
      obtain ⟨va, vc, e⟩ := cz.ok.rs.form
      simp only at e
      subst e
      have c0 : wr.cell? ⟨b, off + r * 4, none⟩ = some (.int .i64 kd) := cz.c0
      have c1 : wr.cell? ⟨b, off + r * 4 + 1, none⟩ = some (.string ⟨ky.toArray⟩) := cz.c1
      have c2 : wr.cell? ⟨b, off + r * 4 + 2, none⟩ = some (.int .i64 ln) := cz.c2
      have c3 : wr.cell? ⟨b, off + r * 4 + 3, none⟩ = some (.slice va st.length vc) := cz.c3
      obtain ⟨sn, hsn⟩ : ∃ sn, decide (smM 0 0 ky.length st.length (oL [])) = sn := ⟨_, rfl⟩
      have K := fun V => msmall18_any (w := V) (k := 0) (n := 0) (m := 0) (da := none) (ka := none) (sa := va) (oa := none) (ba := none) (ca := none) (dc := 0) (kc := 0) (sc := vc) (oc := 0) (bl := 0) (bc := 0) (cl := 0) (cc := 0) (rk := kd) (rl := ln) (ar := 0) (ep := 0) (q0 := 0) (q1 := 0) (q2 := 0) (q3 := 0) (q4 := 0) (L := []) (Or.inl ⟨none, 0, rfl, rfl⟩) hsn
      clear cz hsn
      go_wp2_with fail
      refine (K _).mono ?_
      clear K
      rintro _ w5 ⟨rfl, b5⟩
      have B5 := hidI (hB.out.step16 b5 hB.out.size)
      clear b5 hB c0 c1 c2 c3 Z1
      cases sn with
      | false =>
        have Z1 := (T3.out w5 B5.out).1.2
        clear T3 B5 HO HL
        exact ml_ret
      | true =>
        have hll := rdR_len HL.out
        go_wp2
        go_roundw
        case rel => exact ⟨r + 1, by omega, by go_num, B5.out⟩
        case measure => simp [intOf]; omega
    · obtain ⟨wz, ewz⟩ : ∃ x, x = wr := ⟨_, rfl⟩
      subst ewz
      obtain rfl : r = z2.length := by omega
      have hge : ¬ (z2.length : Int) < (z2.length : Int) := by omega
      obtain ⟨⟨⟨y0, y1, y2, y3, y4, y5⟩, _⟩, e0, e1, e2⟩ := T3.out wz hB.out
      simp only at y0 y1 y2 y3 y4 y5
      have HS20 := hidI HS.out.2
      have HSL : Hid (L1.length ≤ 20 ∧ ∀ i, i < L1.length → (L1.getD i default).o.st.length ≤ 1000000) := ⟨HS.out.1, fun i hi => Nat.le_trans (HS.out.2 i hi) (by decide)⟩
      have K := laid18_any (w := wz) HWF.out HOK.out HWA.out (ep := ep1) (HO.out.below Z1) HSL.out.2 (HL.out.below Z1)
      obtain ⟨RS, hRS⟩ : ∃ RS, Hid (z2.map (·.r) = RS) := ⟨_, rfl⟩
      have RSL : Hid (RS.length = z2.length) := by show _ = _; rw [← hRS.out, List.length_map]
      have LE := fun (q : Nat) (hP : svP ⟨k, m, z, s, t, o⟩ ar1 ep1 (oL L1) = 0) b hb => @lasts_end ⟨k, m, z, s, t, o⟩ ar1 ep1 (oL L1) RS kp a4 HOK.out (by rw [hn.out]; exact HKP.out) hP q b hb
      have KO := kp_ok ⟨k, m, z, s, t, o⟩ RS
      rw [hRS.out] at K
      obtain ⟨A2, hA2⟩ : ∃ A2, Hid (svS (lbS (newA (nT ⟨k, m, z, s, t, o⟩) (secG ⟨k, m, z, s, t, o⟩).toNat) (ldl (nT ⟨k, m, z, s, t, o⟩))) ⟨k, m, z, s, t, o⟩ ar1 ep1 (oL L1) = A2) := ⟨_, rfl⟩
      obtain ⟨X, hX⟩ : ∃ X, Hid (svX (lbS (newA (nT ⟨k, m, z, s, t, o⟩) (secG ⟨k, m, z, s, t, o⟩).toNat) (ldl (nT ⟨k, m, z, s, t, o⟩))) ⟨k, m, z, s, t, o⟩ ar1 ep1 (oL L1) = X) := ⟨_, rfl⟩
      rw [hA2.out, hX.out] at K
      have LE2 : Hid (∀ (q : Nat), X = 0 → ∀ b, reAS (hlA kp a4 (ldA A2 ⟨k, m, z, s, t, o⟩ ep1 RS q).1 n) [] = b → b.off = false ∧ (ldA A2 ⟨k, m, z, s, t, o⟩ ep1 RS q).2 = (kpL ⟨k, m, z, s, t, o⟩ RS q).length ∧ ltX b ⟨k, m, z, s, t, o⟩ (knL b) = 0 ∧ (ltA b ⟨k, m, z, s, t, o⟩ (knL b)).ar = ar1 ∧ (ltA b ⟨k, m, z, s, t, o⟩ (knL b)).ep = ep1 ∧ (ltA b ⟨k, m, z, s, t, o⟩ (knL b)).ob = oL L1 ∧ rlX b ⟨k, m, z, s, t, o⟩ (knL b) ep1 = 0 ∧ rlR b ⟨k, m, z, s, t, o⟩ (knL b) ep1 = kpL ⟨k, m, z, s, t, o⟩ RS q) := fun q hx b hb => by
        have h := LE q (sv_zeroP (hX.out.trans hx)) b
        rw [show nwA18 ⟨k, m, z, s, t, o⟩ ar1 ep1 (oL L1) = A2 from hA2.out, hn.out] at h
        exact h hb
      clear LE hA2 hX HWA HS
      rw [aggE] at K
      go_wp2_with fail
      refine K.mono ?_
      clear K y0 y1 y2 y3 y4 y5 e0 e1 e2
      rintro _ wl ⟨hK, bl⟩
      have HT : Hid (∀ V, Below wz.heap.size wz V → (GeoAt V w.heap.size ⟨k, m, z, s, t, o⟩ ∧ Below w.heap.size w V) ∧ V.cell? ⟨w.heap.size + 1, 0, none⟩ = some (.int .i64 ar1) ∧ V.cell? ⟨w.heap.size + 1, 1, none⟩ = some (.int .i64 ep1) ∧ V.cell? ⟨w.heap.size + 1, 2, none⟩ = some (.slice oa L1.length oc)) := fun V bV => T3.out V (hB.out.step16 bV hB.out.size)
      clear T3 hB Z1
      rcases hK with ⟨rfl, ab, GA, rfl, S0⟩ | ⟨hx, rfl⟩
      rotate_left
      · have Z1 := (HT.out wl bl).1.2
        clear HT LE2 HO HL KO bl
        exact ml_ret
      rw [RSL.out] at S0
      rw [RSL.out]
      have LE3 := hidI (LE2.out (min 20 z2.length) rfl)
      have KO3 := hidI (KO (min 20 z2.length))
      obtain ⟨⟨A3, cn⟩, hA3⟩ : ∃ P, ldA A2 ⟨k, m, z, s, t, o⟩ ep1 RS (min 20 z2.length) = P := ⟨_, rfl⟩
      obtain ⟨KR, hKR⟩ : ∃ P, kpL ⟨k, m, z, s, t, o⟩ RS (min 20 z2.length) = P := ⟨_, rfl⟩
      have HKR : Hid (kpL ⟨k, m, z, s, t, o⟩ (z2.map (·.r)) (min 20 z2.length) = KR) := by rw [hRS.out]; exact hKR
      have HKL : Hid (KR.length ≤ 20) := by
        show _ ≤ _
        rw [← hKR]
        have := (kp_le ⟨k, m, z, s, t, o⟩ RS (min 20 z2.length)).2
        omega
      rw [hA3, hKR] at LE3
      rw [hKR] at KO3
      rw [hA3] at S0 ⊢
      simp only at LE3 S0 ⊢
      clear LE2 KO hA3 hKR hRS RSL
      have HS0 := hidI S0
      have HBl := hidI bl
      clear S0 bl
      go_wp2_with fail
      go_loopw [15] (fun i wr => ∃ (r : Nat) (G : Nat → Prop), r ≤ n ∧ i = .int .i64 (r : Int) ∧ Hid (ArB wr wz.heap.size ab G (hlA kp a4 A3 r)) ∧ Hid (Below wz.heap.size wz wr)) (fun i _ => n - (intOf i).toNat)
      case atStart => exact ⟨0, GA, Nat.zero_le _, rfl, HS0.out, HBl.out⟩
      case round =>
        clear HS0 HBl
        obtain ⟨r, G, hr, rfl, hS, hB2⟩ := hrel
        obtain ⟨⟨⟨y0, y1, y2, y3, y4, y5⟩, _⟩, e0, e1, e2⟩ := HT.out _ hB2.out
        simp only at y0 y1 y2 y3 y4 y5
        clear y2 y3 y4 y5 e0 e1 e2
        by_cases hlt : r < n
        · have hlt' : (r : Int) < (n : Int) := by omega
          have n32 := HN.out
          have rw64 : (Lit.int .i64 (r : Int)).wf = true := wf64 (by omega) (by omega)
          by_cases hk : r = kp
          · have SX : Hid (ArB wr wz.heap.size ab G (hlA kp a4 A3 (r + 1))) := by
              have e : hlA kp a4 A3 (r + 1) = hlA kp a4 A3 r := by
                show (if r = kp then _ else _) = _
                rw [if_pos hk]
              rw [e]; exact hS.out
            have hk' : (r : Int) = (kp : Int) := by omega
            clear hS
            go_wp2
            go_roundw
            case rel => exact ⟨r + 1, G, by omega, by go_num, SX.out, hB2.out⟩
            case measure => simp [intOf]; omega
          · have hk' : ¬ (r : Int) = (kp : Int) := by omega
            have EH : Hid (hlA kp a4 A3 (r + 1) = if a4 = true then rpAS (faAS (hlA kp a4 A3 r) (r : Int)) (r : Int) else faAS (hlA kp a4 A3 r) (r : Int)) := by
              show (if r = kp then _ else _) = _
              rw [if_neg hk]
            have K := afail_any hS.out.at_ rw64
            obtain ⟨aF, haF⟩ : ∃ aF, faAS (hlA kp a4 A3 r) (r : Int) = aF := ⟨_, rfl⟩
            rw [haF] at K EH
            go_wp2_with fail
            refine K.mono ?_
            rintro _ w5 ⟨rfl, G5, A5, g5⟩
            have S5 := hidI (hS.out.grew A5 g5)
            have B5 := hidI (hB2.out.trans (hS.out.bel g5))
            clear K A5 g5 hS hB2 haF y0 y1
            by_cases ha : a4 = true
            · rw [if_pos ha] at EH
              subst ha
              have K := arepl_any S5.out.at_ rw64
              obtain ⟨aP, haP⟩ : ∃ aP, rpAS aF (r : Int) = aP := ⟨_, rfl⟩
              rw [haP] at K EH
              go_wp2_with fail
              refine K.mono ?_
              rintro _ w6 ⟨rfl, G6, A6, g6⟩
              have S6 : Hid (ArB w6 wz.heap.size ab G6 (hlA kp true A3 (r + 1))) := by rw [EH.out]; exact S5.out.grew A6 g6
              have B6 := hidI (B5.out.trans (S5.out.bel g6))
              clear K A6 g6 S5 B5 haP EH
              go_wp2
              go_roundw
              case rel => exact ⟨r + 1, G6, by omega, by go_num, S6.out, B6.out⟩
              case measure => simp [intOf]; omega
            · rw [if_neg ha] at EH
              have S6 : Hid (ArB w5 wz.heap.size ab G5 (hlA kp a4 A3 (r + 1))) := by rw [EH.out]; exact S5.out
              have ha' : a4 = false := by simpa using ha
              clear S5 EH ha
              subst ha'
              go_wp2
              go_roundw
              case rel => exact ⟨r + 1, G5, by omega, by go_num, S6.out, B5.out⟩
              case measure => simp [intOf]; omega
        · obtain rfl : r = n := by omega
          have hge : ¬ (r : Int) < (r : Int) := by omega
          have K := arestart_any hS.out.at_ (v := .slice none 0 0) (K := []) (ToldII.old (Or.inl ⟨none, 0, rfl, rfl⟩) hS.out.low hB2.out) (fun r hr => by cases hr)
          obtain ⟨bA, hbA⟩ : ∃ bA, reAS (hlA kp a4 A3 r) [] = bA := ⟨_, rfl⟩
          rw [show reAS (hlA kp a4 A3 r) (([] : List VI).map (·.2)) = bA from hbA] at K
          obtain ⟨o1, o2, o3, o4, o5, o6, o7, o8⟩ := LE3.out bA hbA
          have CNT := hidI o2
          have O1 := hidI o1
          have O3 := hidI o3
          have O4 := hidI o4
          have O5 := hidI o5
          have O6 := hidI o6
          have O7 := hidI o7
          have O8 := hidI o8
          clear LE3 hbA o1 o2 o3 o4 o5 o6 o7 o8
          go_wp2_with fail
          refine K.mono ?_
          rintro _ w6 ⟨rfl, G6, A6, g6⟩
          have S6 := hidI (hS.out.grew A6 g6)
          have B6 := hidI (hB2.out.trans (hS.out.bel g6))
          clear K A6 g6 hS hB2 y0 y1
          have K := mknows_any S6.out.at_
          rw [(km_on O1.out).1] at K
          obtain ⟨KL, hKL⟩ : ∃ KL, knL bA = KL := ⟨_, rfl⟩
          rw [hKL] at K O3 O4 O5 O6 O7 O8
          clear hKL
          go_wp2_with fail
          refine K.mono ?_
          rintro _ w7 ⟨kv, rfl, RK, _, b7⟩
          obtain ⟨ka, kc, ekv⟩ := RK.form
          subst ekv
          have S7 := hidI (S6.out.below b7)
          have B7 := hidI (B6.out.step16 b7 B6.out.size)
          have HRK := hidI RK
          have K := mlatest_any S7.out.at_ HWF.out RK
          obtain ⟨TA, hTA⟩ : ∃ A, ltA bA ⟨k, m, z, s, t, o⟩ KL = A := ⟨_, rfl⟩
          rw [O3.out, hTA] at K
          rw [hTA] at O4 O5 O6
          obtain ⟨t1, t2, t3, t4, t5⟩ := TA
          have q1 : ar1 = t1 := O4.out.symm
          have q2 : ep1 = t2 := O5.out.symm
          have q3 : oL L1 = t3 := O6.out.symm
          subst q1 q2 q3
          rw [aggE] at K
          obtain ⟨⟨⟨y0, y1, y2, y3, y4, y5⟩, _⟩, e0, e1, e2⟩ := HT.out w7 B7.out
          simp only at y0 y1 y2 y3 y4 y5
          clear hTA O3 O4 O5 O6 b7 S6 B6 RK
          go_wp2_with fail
          refine K.mono ?_
          clear K y0 y1 y2 y3 y4 y5 e0 e1 e2
          rintro _ w8 ⟨tv, LT, rfl, rf, el, b8⟩
          simp only at el
          obtain ⟨ta, tc, etv⟩ := rf.form
          subst etv
          obtain ⟨w9, hw9⟩ : ∃ x, x = w8.alloc (.cells #[.int .i64 ar1, .int .i64 ep1, .slice ta LT.length tc] 41) := ⟨_, rfl⟩
          have q9 : Below w8.heap.size w8 w9 := by rw [hw9]; exact belR _ _
          have b9 := b8.step16 q9 b8.size
          obtain ⟨Y, hY⟩ : ∃ Y, Hid (Y = w8.heap.size) := ⟨_, rfl⟩
          have lY : Hid (Y < w9.heap.size) := by show Y < _; rw [hY.out, hw9]; simp
          have cY : Hid (∀ j, w9.cell? ⟨Y, j, none⟩ = (#[.int .i64 ar1, .int .i64 ep1, .slice ta LT.length tc] : Array Value)[j]?) := fun j => by rw [hw9, hY.out]; exact World.cell?_alloc_new _ _ _ _
          have RT := hidI (rf.1.below q9)
          have EL := hidI el
          have S9 := hidI (S7.out.below b9)
          have B9 := hidI (B7.out.step16 b9 B7.out.size)
          have R9 := hidI (HRK.out.below b9)
          have HW9 := hidI hw9
          clear S7 B7 HRK b8 q9 b9 rf el
          have K := mreplay_any S9.out.at_ HWF.out R9.out (base := ep1)
          rw [O7.out, O8.out, aggE] at K
          obtain ⟨⟨⟨y0, y1, y2, y3, y4, y5⟩, _⟩, e0, e1, e2⟩ := HT.out w9 B9.out
          simp only at y0 y1 y2 y3 y4 y5
          rw [hw9] at y0 y1 y2 y3 y4 y5 e1 K
          clear hw9 O7 O8
          go_wp2_with fail
          rw [← hY.out]
          refine K.mono ?_
          clear K y0 y1 y2 y3 y4 y5 e0 e1 e2
          rintro _ wa ⟨rv, LR, rfl, ow, er, ba⟩
          rw [← HW9.out] at ba ow
          have lr : LR.length ≤ 20 := by rw [← List.length_map (f := (·.r)), er]; exact HKL.out
          have RR := ow.rd (by omega)
          obtain ⟨ra, rc, erv⟩ := RR.form
          subst erv
          have Ba := hidI (B9.out.step16 ba B9.out.size)
          have Sa := hidI (S9.out.below ba)
          have HRR := hidI RR
          have HER := hidI er
          have HLR := hidI lr
          have RTa := hidI (RT.out.below ba)
          have cYa : Hid (∀ j, wa.cell? ⟨Y, j, none⟩ = (#[.int .i64 ar1, .int .i64 ep1, .slice ta LT.length tc] : Array Value)[j]?) := fun j => (ba.cell (p := ⟨Y, j, none⟩) lY.out).trans (cY.out j)
          have lYa : Hid (Y < wa.heap.size) := Nat.lt_of_lt_of_le lY.out ba.size
          clear S9 B9 R9 RT cY lY HW9 ba ow er RR lr
          have Za := (HT.out wa Ba.out).1.2
          have K := kept18_any (w := wa) (g := ⟨k, m, z, s, t, o⟩) (HL.out.below Za)
          rw [HKR.out, aggE] at K
          obtain ⟨⟨⟨y0, y1, y2, y3, y4, y5⟩, _⟩, e0, e1, e2⟩ := HT.out wa Ba.out
          simp only at y0 y1 y2 y3 y4 y5
          go_wp2_with fail
          refine K.mono ?_
          clear K y0 y1 y2 y3 y4 y5 e0 e1 e2 Za
          rintro _ wb ⟨uv, LK, rfl, owk, _, ek, _, bb⟩
          have lk : LK.length = KR.length := by rw [← List.length_map (f := (·.r)), ek]
          have RU := owk.rd (by have := HKL.out; omega)
          obtain ⟨ua, uc, euv⟩ := RU.form
          subst euv
          have Bb := hidI (Ba.out.step16 bb Ba.out.size)
          have HRU := hidI RU
          have HEK := hidI ek
          have HLK := hidI lk
          have RRb := hidI (HRR.out.below bb)
          have RTb := hidI (RTa.out.below bb)
          have cYb : Hid (∀ j, wb.cell? ⟨Y, j, none⟩ = (#[.int .i64 ar1, .int .i64 ep1, .slice ta LT.length tc] : Array Value)[j]?) := fun j => (bb.cell (p := ⟨Y, j, none⟩) lYa.out).trans (cYa.out j)
          have lYb : Hid (Y < wb.heap.size) := Nat.lt_of_lt_of_le lYa.out bb.size
          clear Sa Ba HRR RTa cYa lYa bb owk ek RU lk HKR
          obtain ⟨ls1, ls2⟩ := oL_st (EL.out.trans rfl) (fun i hi => HS20.out i hi)
          have K := robjs16_any RTb.out (HO.out.below (HT.out wb Bb.out).1.2) (by have := HSL.out.1; omega) ls2 HSL.out.2
          have g2 := cYb.out 2
          simp at g2
          obtain ⟨_, e0, e1, e2⟩ := HT.out wb Bb.out
          clear e0 e1 ls1 ls2
          go_wp2_with fail
          refine K.mono ?_
          clear K g2 e2
          rintro _ wc ⟨xo, rfl, hxo, bc⟩
          obtain rfl : xo = true := hxo.2 EL.out
          have Bc := hidI (Bb.out.step16 bc Bb.out.size)
          have cYc : Hid (∀ j, wc.cell? ⟨Y, j, none⟩ = (#[.int .i64 ar1, .int .i64 ep1, .slice ta LT.length tc] : Array Value)[j]?) := fun j => (bc.cell (p := ⟨Y, j, none⟩) lYb.out).trans (cYb.out j)
          have lYc : Hid (Y < wc.heap.size) := Nat.lt_of_lt_of_le lYb.out bc.size
          have K := rrecs18_any (RRb.out.below bc) (HRU.out.below bc) (by have := HLR.out; omega) (rL_st HER.out KO3.out) (rL_st HEK.out KO3.out)
          clear hxo bc RTb cYb lYb Bb EL
          go_wp2_with fail
          refine K.mono ?_
          clear K
          rintro _ wd ⟨xr, rfl, hxr, bd⟩
          obtain rfl : xr = true := hxr.2 (HER.out.trans HEK.out.symm)
          have Bd := hidI (Bc.out.step16 bd Bc.out.size)
          have c0 := (bd.cell (p := ⟨Y, 0, none⟩) lYc.out).trans (cYc.out 0)
          have c1 := (bd.cell (p := ⟨Y, 1, none⟩) lYc.out).trans (cYc.out 1)
          simp at c0 c1
          obtain ⟨⟨_, ZF⟩, e0, e1, e2⟩ := HT.out wd Bd.out
          have Z1 := hidI ZF
          have hcn : (cn : Int) = (LK.length : Int) := by rw [CNT.out, HLK.out]
          clear hxr bd Bc cYc lYc HT ZF e2 HO HL KO3 CNT HLK HER HEK RRb HRU
          go_wp2
          go_ret
          exact ⟨rfl, Z1.out⟩

/-! ### THE ROW's STEP: WRITTEN OUT: LEAVE IT -/
set_option maxRecDepth 100000 in
set_option maxHeartbeats 2000000 in
set_option maxHeartbeats 2000000 in
theorem lifted (os : Os) (started : os.Started) (H : Type) (enc : TypeId × Value → H) :
    ReturnsInHanded {} Tryz.checked os 4 .any (Rows.metalogLastsSpec.pre6 enc Tryz.prog Tryz.f4 Rows.metalogLastsRow.domain false) (Rows.metalogLastsSpec.post enc Tryz.prog Tryz.f4 false true false false) := by
  refine returnsInHanded_of_change (C := Tryz.checked) own started (by kernel_rfl) Tryz.func4
    (ChangeSpec.witness6 (enc := enc) (C := Tryz.checked) false ⟨#[], #[.agg #[.int .i64 0, .int .i64 0, .int .i64 0, .int .i64 0, .int .i64 0, .int .i64 0], .agg #[.int .i64 0, .int .i64 0, .slice none 0 0], .slice none 0 0, .int .i64 0, .bool false], []⟩ 8 (by kernel_rfl) (by kernel_rfl) (by kernel_rfl) (by kernel_rfl)) ?_
  intro W base args ds gs before hval0 hW hcnd _
  have hval : ∀ (j : Nat) t v, Tryz.f4.params[j]? = some t → args[j]? = some v → Value.okWide Tryz.prog W .any base t v := hval0
  have hW' := hW
  obtain ⟨p, q, hA0, hV, rfl, hfz, hnd⟩ := hW
  have hA : DataW.TrodAll enc Tryz.prog W 0 (fun _ => true) true Tryz.f4.params.toList args.toList ds p := hA0
  rw [Tryz.params4] at hA hval
  obtain ⟨v0, vs0, d0, ds0, p0, q0, hargs, rfl, rfl, h0, r0⟩ := trodAll_cons hA
  obtain ⟨v1, vs1, d1, ds1, p1, q1, rfl, rfl, rfl, h1, r1⟩ := trodAll_cons r0
  obtain ⟨v2, vs2, d2, ds2, p2, q2, rfl, rfl, rfl, h2, r2⟩ := trodAll_cons r1
  obtain ⟨v3, vs3, d3, ds3, p3, q3, rfl, rfl, rfl, h3, r3⟩ := trodAll_cons r2
  obtain ⟨v4, vs4, d4, ds4, p4, q4, rfl, rfl, rfl, h4, r4⟩ := trodAll_cons r3
  obtain ⟨rfl, rfl, rfl⟩ := trodAll_nil r4
  obtain rfl : args = #[v0, v1, v2, v3, v4] := by cases args; simp_all
  obtain ⟨rfl, rfl⟩ := trodVars_none hV
  have k0 := h0
  have lt0 : ∀ x ∈ p0, x.block < W.heap.size := by obtain ⟨m, hm⟩ := k0; exact DataW.trod_lt m _ _ _ hm
  obtain ⟨c0, rfl, w0⟩ := open_geo Tryz.underlying23 (by kernel_rfl) rfl rfl rfl rfl rfl rfl (by kernel_rfl) (by kernel_rfl) (by kernel_rfl) (by kernel_rfl) (by kernel_rfl) (by kernel_rfl) (by kernel_rfl) (by kernel_rfl) (by kernel_rfl) (by kernel_rfl) (by kernel_rfl) (by kernel_rfl) (hval 0 23 v0 rfl rfl) h0
  have k1 := h1
  have lt1 : ∀ x ∈ p1, x.block < W.heap.size := by obtain ⟨m, hm⟩ := k1; exact DataW.trod_lt m _ _ _ hm
  obtain ⟨ar1, ep1, so1, L1, rfl, w1, wa1, we1⟩ := open_saved (te := 92) (si := 3) Tryz.underlying41 (by kernel_rfl) (by kernel_rfl) (by kernel_rfl) (by kernel_rfl) (by kernel_rfl) Tryz.underlying92 (by kernel_rfl) rfl rfl rfl rfl (by kernel_rfl) (by kernel_rfl) (by kernel_rfl) (by kernel_rfl) (by kernel_rfl) (by kernel_rfl) (by kernel_rfl) (by kernel_rfl) (by kernel_rfl) (by kernel_rfl) (hval 1 41 v1 rfl rfl) h1
  obtain ⟨a2, len2, cap2, rfl⟩ := okWide_slice Tryz.underlying51 (hval 2 51 v2 rfl rfl)
  have k2 := h2
  have lt2 : ∀ x ∈ p2, x.block < W.heap.size := by obtain ⟨m, hm⟩ := k2; exact DataW.trod_lt m _ _ _ hm
  obtain ⟨z2, w2⟩ : ∃ zs, RdR W (.slice a2 len2 cap2) zs := by
    obtain ⟨fuel, hf⟩ := h2
    obtain ⟨a9, l9, c9, L9, hcs, _, hR⟩ := open_recs (si := 3) Tryz.underlying51 Tryz.underlying38 (by kernel_rfl) rfl rfl rfl rfl (by kernel_rfl) (by kernel_rfl) (by kernel_rfl) (by kernel_rfl) (by kernel_rfl) (by kernel_rfl) (by kernel_rfl) (by kernel_rfl) (by kernel_rfl) (by kernel_rfl) hf
    simp [Value.cells] at hcs
    obtain ⟨rfl, rfl, rfl⟩ := hcs
    exact ⟨L9, hR⟩
  obtain ⟨a3, rfl, rfl, rfl, w3⟩ := open_int Tryz.underlying3 (hval 3 3 v3 rfl rfl) h3
  obtain ⟨a4, rfl, rfl, rfl⟩ := open_bool Tryz.underlying4 (hval 4 4 v4 rfl rfl) h4
  clear hA0 hval0
  refine (walk c0 ar1 ep1 so1 L1 a2 len2 cap2 z2 a3 a4 W w0 w1 wa1 we1 w2 w3).mono fun e W' ⟨he, bel⟩ => ?_
  subst he
  exact ⟨_, rfl, _, _, _, [], _, [], hW', trodAll_mk1 (shut_bool Tryz.underlying4 _), (trodAll_cons_mk (Below.trod laidOut (by kernel_rfl) (of_decide_eq_true (by kernel_rfl)) k0 bel lt0) (trodAll_cons_mk (Below.trod laidOut (by kernel_rfl) (of_decide_eq_true (by kernel_rfl)) k1 bel lt1) (trodAll_cons_mk (Below.trod laidOut (by kernel_rfl) (of_decide_eq_true (by kernel_rfl)) k2 bel lt2) (trodAll_cons_mk (shut_int Tryz.underlying3 w3) (trodAll_cons_mk (shut_bool Tryz.underlying4 _) trodAll_mk0))))), rfl, bel.frame _, fun h => by cases h⟩

theorem over : Rows.metalogLastsRow.holds Tryz.pinned (OpenSpec.ofChange Rows.metalogLastsSpec) :=
  OpenClaim.holds_of_wide 4 Tryz.f4 rfl rfl rfl rfl rfl rfl rfl ⟨rfl, rfl, rfl, rfl, rfl⟩ rfl rfl rfl rfl rfl (by kernel_rfl) Tryz.func4 (by kernel_rfl)
    (of_decide_eq_true (by kernel_rfl)) (by unfold Func.isWrapper; first | (rw [if_pos (by decide +kernel)]; kernel_rfl) | (rw [if_neg (by decide +kernel)]; exact ⟨rfl, rfl⟩))
    (fun os started H enc _ => lifted os started H enc)

/-- ████ THE STATEMENT ████ -/
theorem proved : Rows.MetalogLastsSaid := over
end Go.Proofs.YtclieefpnbdbjaaGreat.metalogLasts
namespace Go.Proofs.YtclieefpnbdbjaaGreat
theorem metalogLasts_holds : Rows.MetalogLastsSaid := metalogLasts.proved
#print axioms metalogLasts_holds
end Go.Proofs.YtclieefpnbdbjaaGreat
