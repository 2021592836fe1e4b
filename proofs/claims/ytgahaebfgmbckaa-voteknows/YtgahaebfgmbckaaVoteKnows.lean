/- PROVED: for every number disks, every script of calls on an array, every slice knows of bools and every number addr the call VoteKnows(disks, script, knows, addr) returns true, and its arguments read behind it as before; no conditions. -/
import Derived.ProofKit
import Derived.ShutString
import Derived.ChangeOld
import Derived.Below
import Derived.Deep.Grids
import Derived.Test.YtgahaebfgmbckaaTome25
import Derived.Test.YtgahaebfgmbckaaTome27
import Derived.Test.YtgahaebfgmbckaaTome30
namespace Go.Proofs.Ytgahaebfgmbckaa.voteKnows
open Go.ChangeShapes Go.WideShapes Go.ChangeAt Go.RowKit
open Go.ChangeMaps (open_string shut_string)
set_option linter.unusedVariables false

theorem own : ownKnob Try.prog.godebug = none := by kernel_rfl
theorem laidOut : laidOutB Try.prog = true := by kernel_rfl

/-- WHAT THE WALK IS TOLD OF A SLICE OF INTEGERS THAT CAME IN: it is nil; or it leads to a row of 'cap' cells, the numbers 'zs' (the first 'len' are its elements, the rest its spare room), each fitting its kind. -/
def IsRow (k : IntKind) (w : World) (a : Option Addr) (len cap : Nat) (zs : List Int) : Prop :=
  (a = none ∧ len = 0 ∧ cap = 0 ∧ zs = []) ∨
  ∃ x, a = some x ∧ len ≤ cap ∧ cap ≤ maxLen ∧ zs.length = cap ∧ (∀ i, i < zs.length → w.cell? (x.add i) = some (.int k (zs.getD i 0))) ∧ ∀ n ∈ zs, (Lit.int k n).wf = true

open Gf
set_option linter.unusedSimpArgs false
theorem vk_ret {p : Prop} (h : p := by
  go_wp2
  go_ret
  exact ⟨rfl, B1⟩) : p := h
/-- those that know change the witness alone -/
theorem vo_kn (S : List SaS) (K : List Bool) : ∃ (vh : Bool) (ve : Int) (vda : List UInt8) (c : Nat), votS S [] = ⟨vh, ve, vda, c, false⟩ ∧ votS S K = ⟨vh, ve, vda, c, wiF S K S.length⟩ := by
  rcases vo_or S with h | ⟨e, d, h⟩
  · exact ⟨_, _, _, _, by rw [vo_none h, wi_nil], vo_none h K⟩
  · exact ⟨_, _, _, _, by rw [vo_top h, wi_nil], vo_top h K⟩
theorem wi_cut (S : List SaS) (K : List Bool) : ∀ r, K.length ≤ r → wiF S K r = wiF S K K.length
  | 0, h => by rw [Nat.le_zero.1 h]
  | r + 1, h => by
    by_cases e : K.length = r + 1
    · rw [e]
    · rw [wiF, wi_cut S K r (by omega), hb_ge (by omega)]
      simp
theorem kn_round {p : Prop} (h : p := by
  go_wp2
  go_roundw
  case rel => exact ⟨r + 1, by omega, by omega, by go_num, by rw [WN.out], BN⟩
  case measure => simp [intOf]; omega) : p := h

set_option maxRecDepth 100000 in
set_option maxHeartbeats 4000000 in
theorem walk (a0 : Int) (a1 : Option Addr) (len1 cap1 : Nat) (z1 : List CallA) (a2 : Option Addr) (len2 cap2 : Nat) (z2 : List Bool) (a3 : Int) (w : World) (w0 : (Lit.int .i64 a0).wf = true) (w1 : RdA w (.slice a1 len1 cap1) z1) (w2 : RdB w (.slice a2 len2 cap2) z2) (w3 : (Lit.int .i64 a3).wf = true) :
    Calls Try.prog 5 #[.int .i64 a0, .slice a1 len1 cap1, .slice a2 len2 cap2, .int .i64 a3] w fun e w' => e = .returned (.bool true) ∧ Below w.heap.size w w' := by
  obtain rfl := w1.lenEq
  obtain rfl := w2.lenEq
  have HW1 : Hid (∀ W G, Below w.heap.size w W → (∀ g, G g → w.heap.size ≤ g) → ToldA W G (.slice a1 z1.length cap1) z1) := fun W G b hG => ToldA.old w1 hG b
  have HK : Hid (∀ W, Below w.heap.size w W → RdB W (.slice a2 z2.length cap2) z2) := fun W b => w2.below b
  clear w1 w2
  go_enter Try.func5, Try.ntmps5
  go_wp2_with fail
  refine awake17_any.mono ?_
  rintro e u1 ⟨rfl, B1⟩
  by_cases g1 : a0 < 1
  · exact vk_ret
  by_cases g2 : a0 > 8
  · exact vk_ret
  by_cases g3 : (z2.length : Int) > 40
  · exact vk_ret
  obtain ⟨m, rfl⟩ : ∃ m : Nat, a0 = (m : Int) := ⟨a0.toNat, by omega⟩
  have K := anew_is (w := u1) (n := (m : Int)) (s := 12) (m := m) (k := 12) rfl (by omega) (by omega) (by decide) (by decide) rfl
  go_wp2_with fail
  refine K.mono ?_
  rintro _ uA ⟨ab, GA, rfl, A1, H1, bA⟩
  have SA : ArB uA w.heap.size ab GA (newA m 12) := ⟨A1, fun k hk => Nat.le_trans B1.size (H1 k hk), Nat.le_trans B1.size bA.size⟩
  have CA := B1.step16 bA B1.size
  clear K A1 H1 bA B1
  have K := adone_any SA.at_ (HW1.out uA GA CA SA.low)
  go_wp2_with fail
  refine K.mono ?_
  rintro _ uB ⟨rfl, GB, AB, gB⟩
  obtain ⟨aS, haS⟩ : ∃ aS, Hid (aS = runA (newA m 12) (z1.take 50)) := ⟨_, rfl⟩
  have SB : ArB uB w.heap.size ab GB aS := by rw [haS.out]; exact SA.grew AB gB
  have CB := CA.trans (SA.bel gB)
  have LS : Hid (aS.D.length = m) := by show _ = _; rw [haS.out, runA_len]; simp [newA]
  clear K SA CA AB gB haS
  obtain ⟨X, hX⟩ : ∃ X, Hid (rvX aS = X) := ⟨_, rfl⟩
  have OK : Hid aS.Ok := SB.at_.ok
  have K := vread_is SB.at_ (ad := a3) w3 rdB_none hX.out rfl
  have HK2 : Hid (∃ (vh : Bool) (ve : Int) (vda : List UInt8) (c : Nat) (wi : Bool), rvV aS [] a3 = ⟨vh, ve, vda, c, false⟩ ∧ rvV aS z2 a3 = ⟨vh, ve, vda, c, wi⟩ ∧ (aS.off = false → wi = wiF (sayL aS a3) z2 m)) := by
    cases ho : aS.off with
    | true => exact ⟨false, 0, [], 0, false, if_pos ho, if_pos ho, fun q => by cases q⟩
    | false =>
      obtain ⟨vh, ve, vda, c, h1, h2⟩ := vo_kn (sayL aS a3) z2
      refine ⟨vh, ve, vda, c, _, ?_, ?_, fun _ => rfl⟩
      · unfold rvV; rw [if_neg (by rw [ho]; decide), h1]
      · unfold rvV; rw [if_neg (by rw [ho]; decide), h2, sayL_length, LS.out]
  obtain ⟨vh, ve, vda, c, wi, E1, E2, E3⟩ := HK2.out
  have HE3 : Hid (aS.off = false → wi = wiF (sayL aS a3) z2 m) := E3
  rw [E1] at K
  have HE2 : Hid (rvV aS z2 a3 = ⟨vh, ve, vda, c, wi⟩) := E2
  clear HK2 E1 E2 E3
  go_wp2_with fail
  refine K.mono ?_
  rintro _ u3 ⟨vd, rfl, R3, F3, b3⟩
  obtain ⟨va, vc, ev⟩ := R3.form
  simp only at ev R3
  subst ev
  have T4 : ToldV (u3.alloc (.cells #[.bool vh, .int .i64 ve, .slice va vda.length vc, .int .i64 ((c : Nat) : Int), .bool false] 34)) GB u3.heap.size ⟨vh, ve, vda, c, false⟩ (.slice va vda.length vc) := ToldV.laid SB.at_ (V := ⟨vh, ve, vda, c, false⟩) R3 F3 b3 34 rfl
  have q4 := belR u3 (.cells #[.bool vh, .int .i64 ve, .slice va vda.length vc, .int .i64 ((c : Nat) : Int), .bool false] 34)
  have S4 := (SB.below b3).below q4
  have C4 := (CB.step16 b3 CB.size).step16 q4 (CB.step16 b3 CB.size).size
  rw [show aggV ⟨vh, ve, vda, c, false⟩ (.slice va vda.length vc) = .agg #[.bool vh, .int .i64 ve, .slice va vda.length vc, .int .i64 ((c : Nat) : Int), .bool false] from rfl]
  clear K SB CB R3 F3 b3 q4
  have K := vread_is S4.at_ (ad := a3) w3 (HK.out _ C4) hX.out HE2.out
  go_wp2_with fail
  refine K.mono ?_
  rintro _ u5 ⟨vd, rfl, R5, F5, b5⟩
  obtain ⟨wa, wc, ew⟩ := R5.form
  simp only at ew R5
  subst ew
  have T6 : ToldV (u5.alloc (.cells #[.bool vh, .int .i64 ve, .slice wa vda.length wc, .int .i64 ((c : Nat) : Int), .bool wi] 34)) GB u5.heap.size ⟨vh, ve, vda, c, wi⟩ (.slice wa vda.length wc) := ToldV.laid S4.at_ (V := ⟨vh, ve, vda, c, wi⟩) R5 F5 b5 34 rfl
  have q6 := belR u5 (.cells #[.bool vh, .int .i64 ve, .slice wa vda.length wc, .int .i64 ((c : Nat) : Int), .bool wi] 34)
  have S6 := (S4.below b5).below q6
  have U6 := (T4.below b5).below q6
  have C6 := (C4.step16 b5 C4.size).step16 q6 (C4.step16 b5 C4.size).size
  rw [show aggV ⟨vh, ve, vda, c, wi⟩ (.slice wa vda.length wc) = .agg #[.bool vh, .int .i64 ve, .slice wa vda.length wc, .int .i64 ((c : Nat) : Int), .bool wi] from rfl]
  have Z6 : Hid ((u5.alloc (.cells #[.bool vh, .int .i64 ve, .slice wa vda.length wc, .int .i64 ((c : Nat) : Int), .bool wi] 34)).frozen? ⟨u5.heap.size, 4, none⟩ = false) := by show _ = _; simp [go_sem]
  have HS5 : Hid (w.heap.size ≤ u5.heap.size) := Nat.le_trans C4.size b5.size
  have NB : Hid (u3.heap.size ≠ u5.heap.size) := by have h1 := T4.lt; have h2 := b5.size; show _ ≠ _; omega
  have RV : Hid (∀ W, Below u5.heap.size u5 W → Rd W (.slice va vda.length vc) vda ∧ Rd W (.slice wa vda.length wc) vda) := fun W b => ⟨(T4.rd.rd.below b5).below b, R5.below b⟩
  have B56 : Hid (Below u5.heap.size u5 (u5.alloc (.cells #[.bool vh, .int .i64 ve, .slice wa vda.length wc, .int .i64 ((c : Nat) : Int), .bool wi] 34))) := q6
  clear K S4 C4 T4 R5 F5 b5 q6 HE2
  obtain ⟨b1, hb1⟩ : ∃ b1, Hid (b1 = u3.heap.size) := ⟨_, rfl⟩
  obtain ⟨b2, hb2⟩ : ∃ b2, Hid (b2 = u5.heap.size) := ⟨_, rfl⟩
  have hb5 : Hid (w.heap.size ≤ u5.heap.size) := HS5.out
  cases ho : aS.off with
  | true =>
    have x1 : X = 130 := by rw [← hX.out]; exact if_pos ho
    subst x1
    have K := adown_is S6.at_ ho
    have FIN : Hid (Below w.heap.size w (u5.alloc (.cells #[.bool vh, .int .i64 ve, .slice wa vda.length wc, .int .i64 ((c : Nat) : Int), .bool wi] 34))) := C6
    clear S6 U6 C6 T6
    go_wp2_with fail
    refine K.mono ?_
    rintro _ _ ⟨rfl, rfl⟩
    go_wp2
    go_ret
    exact ⟨rfl, FIN.out⟩
  | false =>
    have x1 : X = 0 := by rw [← hX.out]; exact if_neg (by rw [ho]; decide)
    subst x1
    have EW : Hid (wi = wiF (sayL aS a3) z2 m) := HE3.out ho
    have HO : Hid (aS.off = false) := ho
    obtain ⟨u6, hu6⟩ : ∃ u6, u6 = u5.alloc (.cells #[.bool vh, .int .i64 ve, .slice wa vda.length wc, .int .i64 ((c : Nat) : Int), .bool wi] 34) := ⟨_, rfl⟩
    rw [← hu6] at S6 U6 T6 C6 Z6
    rw [← hb1.out] at U6
    rw [← hb2.out] at T6 Z6
    have nb : Hid (b1 ≠ b2) := by show _ ≠ _; rw [hb1.out, hb2.out]; exact NB.out
    rw [← hu6] at B56
    clear ho HE3 hX
    go_wp2_with fail
    rw [← hu6]
    rw [← hb1.out, ← hb2.out]
    clear hu6
    have C6' : Hid (Below w.heap.size w u6) := C6
    go_loopw [16, 17] (fun wv i wr => ∃ r : Nat, r ≤ m ∧ r ≤ z2.length ∧ i = .int .i64 (r : Int) ∧ wv = .bool (wiF (sayL aS a3) z2 r) ∧ Hid (Below u6.heap.size u6 wr)) (fun _ i _ => m - (intOf i).toNat)
    case atStart => exact ⟨0, Nat.zero_le _, Nat.zero_le _, rfl, rfl, Below.refl _ _⟩
    case round =>
      obtain ⟨r, hr, hr2, rfl, rfl, hB⟩ := hrel
      have CW := C6'.out.step16 hB.out C6'.out.size
      by_cases hlt : r < m ∧ r < z2.length
      · have l1 : (r : Int) < (m : Int) := by omega
        have l2 : (r : Int) < (z2.length : Int) := by omega
        have hrw : (Lit.int .i64 (r : Int)).wf = true := by simp [Lit.wf, IntKind.min, IntKind.max, IntKind.signed, IntKind.bits]; omega
        have SW := S6.below hB.out
        have K := aread_any SW.at_ (i := (r : Int)) (ad := a3) hrw w3
        obtain ⟨x, hx⟩ : ∃ x, Hid (x = rdAX aS (r : Int) a3) := ⟨_, rfl⟩
        obtain ⟨p, hp⟩ : ∃ p, Hid (p = rdAB aS (r : Int) a3) := ⟨_, rfl⟩
        rw [← hx.out, ← hp.out] at K
        have lp : p.length ≤ 100000 := by rw [hp.out]; exact Nat.le_trans (rdB_le OK.out _ _) (by decide)
        go_wp2_with fail
        refine K.mono ?_
        rintro _ uC ⟨vp, rfl, Op, bC⟩
        have Rp : Rd uC vp p := Rd.owned Op
        have KU := sunpack_any (a := a3) Rp lp
        obtain ⟨X, hX⟩ : ∃ X, Hid (X = upX a3 p) := ⟨_, rfl⟩
        rw [← hX.out] at KU
        obtain ⟨pa, pc, ep⟩ := Rp.form
        subst ep
        have CC := CW.step16 bC CW.size
        have BC := hB.out.step16 bC hB.out.size
        clear K Op Rp SW
        go_wp2_with fail
        refine KU.mono ?_
        rintro _ uD ⟨vq, rfl, Rq, bD⟩
        obtain ⟨qa, qc, eq⟩ := Rq.form
        subst eq
        have CD := CC.step16 bD CC.size
        have BN : Hid (Below u6.heap.size u6 uD) := BC.step16 bD BC.size
        have SV : Hid (wiF (sayL aS a3) z2 (r + 1) = (wiF (sayL aS a3) z2 r || (hb z2 r && (decide (x = 0 ∧ X = 0) || decide (x = 0 ∧ p = []))))) := by
          show _ = _
          rw [wiF, sF_say (by rw [LS.out]; exact hlt.1)]
          show (_ || (_ && (decide (rdAX aS (r : Int) a3 = 0 ∧ upX a3 (rdAB aS (r : Int) a3) = 0) || decide (rdAX aS (r : Int) a3 = 0 ∧ rdAB aS (r : Int) a3 = [])))) = _
          rw [← hx.out, ← hp.out, ← hX.out]
        obtain ⟨kb, ko, ek, lk, kc⟩ := (HK.out uD CD).at hlt.2
        subst ek
        obtain ⟨y, hy⟩ : ∃ y, Hid (y = hb z2 r) := ⟨_, rfl⟩
        obtain ⟨q0, hq0⟩ : ∃ q0, Hid (q0 = wiF (sayL aS a3) z2 r) := ⟨_, rfl⟩
        rw [← hy.out] at kc SV
        rw [← hq0.out] at SV ⊢
        have PN : Hid ((p.length : Int) = 0 ↔ p = []) := ⟨fun q => List.length_eq_zero_iff.1 (by omega), fun q => by rw [q]; rfl⟩
        clear KU bC bD CC BC CD CW hB Rq hx hp hX hy hq0
        cases q0 with
        | true =>
          have WN : Hid (wiF (sayL aS a3) z2 (r + 1) = true) := by show _ = _; rw [SV.out]; rfl
          clear SV PN
          exact kn_round
        | false =>
          cases y with
          | false =>
            have WN : Hid (wiF (sayL aS a3) z2 (r + 1) = false) := by show _ = _; rw [SV.out]; rfl
            clear SV PN
            exact kn_round
          | true =>
            by_cases x0 : x = 0
            · by_cases X0 : X = 0
              · have WN : Hid (wiF (sayL aS a3) z2 (r + 1) = true) := by show _ = _; rw [SV.out, decide_eq_true (p := x = 0 ∧ X = 0) ⟨x0, X0⟩]; rfl
                subst x0 X0
                clear SV PN
                exact kn_round
              · have X0' : (X == 0) = false := beq_eq_false_iff_ne.2 X0
                by_cases L0 : (p.length : Int) = 0
                · have WN : Hid (wiF (sayL aS a3) z2 (r + 1) = true) := by show _ = _; rw [SV.out, decide_eq_true (p := x = 0 ∧ p = []) ⟨x0, PN.out.1 L0⟩]; simp
                  subst x0
                  clear SV PN
                  exact kn_round
                · have L0' : ((p.length : Int) == 0) = false := beq_eq_false_iff_ne.2 L0
                  have WN : Hid (wiF (sayL aS a3) z2 (r + 1) = false) := by show _ = _; rw [SV.out, decide_eq_false (p := x = 0 ∧ X = 0) (fun q => X0 q.2), decide_eq_false (p := x = 0 ∧ p = []) (fun q => L0 (PN.out.2 q.2))]; rfl
                  subst x0
                  clear SV PN
                  exact kn_round
            · have x0' : (x == 0) = false := beq_eq_false_iff_ne.2 x0
              have WN : Hid (wiF (sayL aS a3) z2 (r + 1) = false) := by show _ = _; rw [SV.out, decide_eq_false (p := x = 0 ∧ X = 0) (fun q => x0 q.1), decide_eq_false (p := x = 0 ∧ p = []) (fun q => x0 q.1)]; rfl
              clear SV PN
              exact kn_round
      · have EWr : Hid (wiF (sayL aS a3) z2 r = wi) := by
          show _ = _
          rw [EW.out]
          by_cases e : r = m
          · rw [e]
          · have e2 : r = z2.length := by omega
            rw [e2, wi_cut _ _ m (by omega)]
        rw [EWr.out]
        have T7 := T6.below hB.out
        have U7 := U6.below hB.out
        have z7 : wr.frozen? ⟨b2, 4, none⟩ = false := (hB.out.frozen (p := ⟨b2, 4, none⟩) T6.lt).trans Z6.out
        have v0 := U7.c0
        have v1 := U7.c1
        have v2 := U7.c2
        have v3 := U7.c3
        have v4 := U7.c4
        have y0 := T7.c0
        have y1 := T7.c1
        have y2 := T7.c2
        have y3 := T7.c3
        have y4 := T7.c4
        simp only at v0 v1 v3 v4 y0 y1 y3 y4
        have n1 := nb.out
        have n2 : b2 ≠ b1 := fun q => nb.out q.symm
        have BS : Below u5.heap.size u5 (wr.setCell ⟨b2, 4, none⟩ (.bool false)) := (B56.out.step16 hB.out B56.out.size).setCell (by rw [hb2.out]; exact Nat.le_refl _) _
        obtain ⟨r1, r2⟩ := RV.out _ BS
        have K := rsame17_any (V := ⟨vh, ve, vda, c, false⟩) (U := ⟨vh, ve, vda, c, false⟩) r1 r2
        rw [show aggV ⟨vh, ve, vda, c, false⟩ (.slice va vda.length vc) = .agg #[.bool vh, .int .i64 ve, .slice va vda.length vc, .int .i64 ((c : Nat) : Int), .bool false] from rfl, show aggV ⟨vh, ve, vda, c, false⟩ (.slice wa vda.length wc) = .agg #[.bool vh, .int .i64 ve, .slice wa vda.length wc, .int .i64 ((c : Nat) : Int), .bool false] from rfl] at K
        have CS : Hid (Below w.heap.size w (wr.setCell ⟨b2, 4, none⟩ (.bool false))) := CW.setCell (by rw [hb2.out]; exact hb5.out) _
        have vE : (wr.setCell ⟨b2, 4, none⟩ (.bool false)).cell? ⟨b1, 4, none⟩ = some (.bool false) := ((Only.refl b2 wr).setCell 4 (.bool false)).cell (p := ⟨b1, 4, none⟩) n1 |>.trans v4
        have lb1 := U7.lt
        by_cases c1 : (r : Int) < (m : Int)
        · have c2 : ¬ (r : Int) < (z2.length : Int) := by omega
          clear T7 U7 BS r1 r2 CW hB
          go_wp2_with fail
          refine K.mono ?_
          rintro _ uZ ⟨xx, rfl, hxx, bZ⟩
          obtain rfl : xx = true := by first | exact hxx.2 rfl | exact hxx.2 trivial
          have vZ := (bZ.cell (p := ⟨b1, 4, none⟩) (by simpa using lb1)).trans vE
          have FIN : Hid (Below w.heap.size w uZ) := CS.out.step16 bZ CS.out.size
          clear K hxx bZ
          go_wp2
          go_ret
          exact ⟨by first | rfl | simp, FIN.out⟩
        · clear T7 U7 BS r1 r2 CW hB
          go_wp2_with fail
          refine K.mono ?_
          rintro _ uZ ⟨xx, rfl, hxx, bZ⟩
          obtain rfl : xx = true := by first | exact hxx.2 rfl | exact hxx.2 trivial
          have vZ := (bZ.cell (p := ⟨b1, 4, none⟩) (by simpa using lb1)).trans vE
          have FIN : Hid (Below w.heap.size w uZ) := CS.out.step16 bZ CS.out.size
          clear K hxx bZ
          go_wp2
          go_ret
          exact ⟨by first | rfl | simp, FIN.out⟩

/-! ### THE ROW's STEP: WRITTEN OUT: LEAVE IT -/
set_option maxRecDepth 100000 in
theorem lifted (os : Os) (started : os.Started) (H : Type) (enc : TypeId × Value → H) :
    ReturnsInHanded {} Try.checked os 5 .any (Rows.voteKnowsSpec.pre6 enc Try.prog Try.f5 Rows.voteKnowsRow.domain false) (Rows.voteKnowsSpec.post enc Try.prog Try.f5 false true false false) := by
  refine returnsInHanded_of_change (C := Try.checked) own started (by kernel_rfl) Try.func5
    (ChangeSpec.witness6 (enc := enc) (C := Try.checked) false ⟨#[], #[.int .i64 0, .slice none 0 0, .slice none 0 0, .int .i64 0], []⟩ 8 (by kernel_rfl) (by kernel_rfl) (by kernel_rfl) (by kernel_rfl)) ?_
  intro W base args ds gs before hval0 hW hcnd _
  have hval : ∀ (j : Nat) t v, Try.f5.params[j]? = some t → args[j]? = some v → Value.okWide Try.prog W .any base t v := hval0
  have hW' := hW
  obtain ⟨p, q, hA0, hV, rfl, hfz, hnd⟩ := hW
  have hA : DataW.TrodAll enc Try.prog W 0 (fun _ => true) true Try.f5.params.toList args.toList ds p := hA0
  rw [Try.params5] at hA hval
  obtain ⟨v0, vs0, d0, ds0, p0, q0, hargs, rfl, rfl, h0, r0⟩ := trodAll_cons hA
  obtain ⟨v1, vs1, d1, ds1, p1, q1, rfl, rfl, rfl, h1, r1⟩ := trodAll_cons r0
  obtain ⟨v2, vs2, d2, ds2, p2, q2, rfl, rfl, rfl, h2, r2⟩ := trodAll_cons r1
  obtain ⟨v3, vs3, d3, ds3, p3, q3, rfl, rfl, rfl, h3, r3⟩ := trodAll_cons r2
  obtain ⟨rfl, rfl, rfl⟩ := trodAll_nil r3
  obtain rfl : args = #[v0, v1, v2, v3] := by cases args; simp_all
  obtain ⟨rfl, rfl⟩ := trodVars_none hV
  obtain ⟨a0, rfl, rfl, rfl, w0⟩ := open_int Try.underlying3 (hval 0 3 v0 rfl rfl) h0
  obtain ⟨a1, len1, cap1, rfl⟩ := okWide_slice Try.underlying48 (hval 1 48 v1 rfl rfl)
  have k1 := h1
  have lt1 : ∀ x ∈ p1, x.block < W.heap.size := by obtain ⟨m, hm⟩ := k1; exact DataW.trod_lt m _ _ _ hm
  obtain ⟨z1, w1⟩ : ∃ zs, RdA W (.slice a1 len1 cap1) zs := by
    obtain ⟨fuel, hf⟩ := h1
    obtain ⟨a9, l9, c9, L9, hcs, _, hR⟩ := open_acalls (sb := 5) (ss := 70) (si := 3) Try.underlying48 Try.underlying43 (by kernel_rfl) rfl rfl rfl rfl rfl rfl rfl (by kernel_rfl) (by kernel_rfl) (by kernel_rfl) (by kernel_rfl) (by kernel_rfl) (by kernel_rfl) (by kernel_rfl) (by kernel_rfl) (by kernel_rfl) (by kernel_rfl) (by kernel_rfl) (by kernel_rfl) (by kernel_rfl) (by kernel_rfl) (by kernel_rfl) (by kernel_rfl) (by kernel_rfl) (by kernel_rfl) (by kernel_rfl) (by kernel_rfl) hf
    simp [Value.cells] at hcs
    obtain ⟨rfl, rfl, rfl⟩ := hcs
    exact ⟨L9, hR⟩
  obtain ⟨a2, len2, cap2, rfl⟩ := okWide_slice Try.underlying40 (hval 2 40 v2 rfl rfl)
  have k2 := h2
  have lt2 : ∀ x ∈ p2, x.block < W.heap.size := by obtain ⟨m, hm⟩ := k2; exact DataW.trod_lt m _ _ _ hm
  obtain ⟨z2, w2⟩ : ∃ zs, RdB W (.slice a2 len2 cap2) zs := by
    obtain ⟨fuel, hf⟩ := h2
    rcases Go.Deep.open_bools Try.underlying40 Try.underlying4 (by kernel_rfl) hf with ⟨hcs, _⟩ | ⟨x, l, c, B, hcs, _, hl, hm, _, hcell⟩
    · simp [Value.cells] at hcs
      obtain ⟨rfl, rfl, rfl⟩ := hcs
      exact ⟨[], rdB_none⟩
    · simp [Value.cells] at hcs
      obtain ⟨rfl, rfl, rfl⟩ := hcs
      exact rdB_row hl hm hcell
  obtain ⟨a3, rfl, rfl, rfl, w3⟩ := open_int Try.underlying3 (hval 3 3 v3 rfl rfl) h3
  clear hA0 hval0
  refine (walk a0 a1 len1 cap1 z1 a2 len2 cap2 z2 a3 W w0 w1 w2 w3).mono fun e W' ⟨he, bel⟩ => ?_
  subst he
  exact ⟨_, rfl, _, _, _, [], _, [], hW', trodAll_mk1 (shut_bool Try.underlying4 _), (trodAll_cons_mk (shut_int Try.underlying3 w0) (trodAll_cons_mk (Below.trod laidOut (by kernel_rfl) (of_decide_eq_true (by kernel_rfl)) k1 bel lt1) (trodAll_cons_mk (Below.trod laidOut (by kernel_rfl) (of_decide_eq_true (by kernel_rfl)) k2 bel lt2) (trodAll_cons_mk (shut_int Try.underlying3 w3) trodAll_mk0)))), rfl, bel.frame _, fun h => by cases h⟩

theorem over : Rows.voteKnowsRow.holds Try.pinned (OpenSpec.ofChange Rows.voteKnowsSpec) :=
  OpenClaim.holds_of_wide 5 Try.f5 rfl rfl rfl rfl rfl rfl rfl ⟨rfl, rfl, rfl, rfl, rfl⟩ rfl rfl rfl rfl rfl (by kernel_rfl) Try.func5 (by kernel_rfl)
    (of_decide_eq_true (by kernel_rfl)) (by unfold Func.isWrapper; first | (rw [if_pos (by decide +kernel)]; kernel_rfl) | (rw [if_neg (by decide +kernel)]; exact ⟨rfl, rfl⟩))
    (fun os started H enc _ => lifted os started H enc)

/-- ████ THE STATEMENT ████ -/
theorem proved : Rows.VoteKnowsSaid := over
end Go.Proofs.Ytgahaebfgmbckaa.voteKnows
namespace Go.Proofs.Ytgahaebfgmbckaa
theorem voteKnows_holds : Rows.VoteKnowsSaid := voteKnows.proved
#print axioms voteKnows_holds
end Go.Proofs.Ytgahaebfgmbckaa
