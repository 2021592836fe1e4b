/- PROVED: for every number disks, every script of votes and calls on an array and every number addr the call VoteGreatest(disks, script, addr) returns true, and its arguments read behind it as before; no conditions. -/
import Derived.ProofKit
import Derived.ShutString
import Derived.ChangeOld
import Derived.Below
import Derived.Test.YtgahaebfgmbckaaTome25
import Derived.Test.YtgahaebfgmbckaaTome28
import Derived.Test.YtgahaebfgmbckaaTome29
namespace Go.Proofs.Ytgahaebfgmbckaa.voteGreatest
open Go.ChangeShapes Go.WideShapes Go.ChangeAt Go.RowKit
open Go.ChangeMaps (open_string shut_string)
set_option linter.unusedVariables false

theorem own : ownKnob Try.prog.godebug = none := by kernel_rfl
theorem laidOut : laidOutB Try.prog = true := by kernel_rfl

/-- WHAT THE WALK IS TOLD OF A SLICE OF INTEGERS THAT CAME IN: it is nil; or it leads to a row of 'cap' cells, the numbers 'zs' (the first 'len' are its elements, the rest its spare room), each fitting its kind. -/
def IsRow (k : IntKind) (w : World) (a : Option Addr) (len cap : Nat) (zs : List Int) : Prop :=
  (a = none ∧ len = 0 ∧ cap = 0 ∧ zs = []) ∨
  ∃ x, a = some x ∧ len ≤ cap ∧ cap ≤ maxLen ∧ zs.length = cap ∧ (∀ i, i < zs.length → w.cell? (x.add i) = some (.int k (zs.getD i 0))) ∧ ∀ n ∈ zs, (Lit.int k n).wf = true

open Gf
set_option linter.unusedSimpArgs false
theorem vg_ret {p : Prop} (h : p := by
  go_wp2
  go_ret
  exact ⟨rfl, B1⟩) : p := h
theorem vg_next {p : Prop} (h : p := by
  go_wp2
  go_roundw
  case rel => exact ⟨r + 1, GN, aN, by omega, by go_num, SN, LN, CN⟩
  case measure => simp [intOf]; omega) : p := h
theorem vg_more {p : Prop} (h : p := by
  go_wp2
  go_roundw
  case rel => exact ⟨r + 1, by omega, by go_num, by rw [EN.out], BN⟩
  case measure => simp [intOf]; omega) : p := h
theorem vg_rest {p : Prop} (h : p := by
  go_wp2_with fail
  refine K.mono ?_
  rintro _ u3 ⟨vd, rfl, R3, F3, b3⟩
  obtain ⟨va, vc, ev⟩ := R3.form
  simp only at ev R3
  subst ev
  obtain ⟨u4, hu4⟩ : ∃ u4, u4 = u3.alloc (.cells #[.bool vh, .int .i64 ve, .slice va vda.length vc, .int .i64 ((c : Nat) : Int), .bool false] 34) := ⟨_, rfl⟩
  have T4 : ToldV u4 G u3.heap.size ⟨vh, ve, vda, c, false⟩ (.slice va vda.length vc) := by rw [hu4]; exact ToldV.laid hS.at_ (V := ⟨vh, ve, vda, c, false⟩) R3 F3 b3 34 rfl
  have q4 : Below u3.heap.size u3 u4 := by rw [hu4]; exact belR _ _
  have S4 := (hS.below b3).below q4
  have C4 : Hid (Below w.heap.size w u4) := (hC.out.step16 b3 hC.out.size).step16 q4 (hC.out.step16 b3 hC.out.size).size
  rw [show aggV ⟨vh, ve, vda, c, false⟩ (.slice va vda.length vc) = .agg #[.bool vh, .int .i64 ve, .slice va vda.length vc, .int .i64 ((c : Nat) : Int), .bool false] from rfl]
  obtain ⟨b1, hb1⟩ : ∃ b1, Hid (b1 = u3.heap.size) := ⟨_, rfl⟩
  rw [← hb1.out] at T4
  clear K hS hC R3 F3 b3 q4
  go_wp2_with fail
  rw [← hu4, ← hb1.out]
  clear hu4
  obtain ⟨p, hp⟩ : ∃ p : Nat → Bool, Hid (p = fun i => isV (sayV aS a2 i) ve vda) := ⟨_, rfl⟩
  rw [← hp.out] at HCN
  go_loopw [14, 15] (fun cv i wr => ∃ r : Nat, r ≤ m ∧ i = .int .i64 (r : Int) ∧ cv = .int .i64 ((cnt p r : Nat) : Int) ∧ Hid (Below u4.heap.size u4 wr)) (fun _ i _ => m - (intOf i).toNat)
  case atStart => exact ⟨0, Nat.zero_le _, rfl, rfl, Below.refl _ _⟩
  case round =>
    obtain ⟨r, hr, rfl, rfl, hB⟩ := hrel
    have cr : cnt p r ≤ r := cnt_le p r
    by_cases hlt : r < m
    · have l1 : (r : Int) < (m : Int) := by omega
      have hrw : (Lit.int .i64 (r : Int)).wf = true := by simp [Lit.wf, IntKind.min, IntKind.max, IntKind.signed, IntKind.bits]; omega
      have SW := S4.below hB.out
      have K := aread_any SW.at_ (i := (r : Int)) (ad := a2) hrw w2
      obtain ⟨x, hx⟩ : ∃ x, Hid (x = rdAX aS (r : Int) a2) := ⟨_, rfl⟩
      obtain ⟨P, hP⟩ : ∃ P, Hid (P = rdAB aS (r : Int) a2) := ⟨_, rfl⟩
      rw [← hx.out, ← hP.out] at K
      have lp : P.length ≤ 100000 := by rw [hP.out]; exact Nat.le_trans (rdB_le OK.out _ _) (by decide)
      go_wp2_with fail
      refine K.mono ?_
      rintro _ uC ⟨vp, rfl, Op, bC⟩
      have Rp : Rd uC vp P := Rd.owned Op
      have KU := sunpack_any (a := a2) Rp lp
      obtain ⟨X, hX⟩ : ∃ X, Hid (X = upX a2 P) := ⟨_, rfl⟩
      obtain ⟨N, hN⟩ : ∃ N, Hid (N = upN a2 P) := ⟨_, rfl⟩
      obtain ⟨Q, hQ⟩ : ∃ Q, Hid (Q = upD a2 P) := ⟨_, rfl⟩
      rw [← hX.out, ← hN.out, ← hQ.out] at KU
      obtain ⟨pa, pc, ep⟩ := Rp.form
      subst ep
      have BC := hB.out.step16 bC hB.out.size
      clear K Op Rp SW
      go_wp2_with fail
      refine KU.mono ?_
      rintro _ uD ⟨vq, rfl, Rq, bD⟩
      obtain ⟨qa, qc, eq⟩ := Rq.form
      subst eq
      have BD := BC.step16 bD BC.size
      have TD := T4.below BD
      have SV : Hid (sayV aS a2 r = ⟨decide (x = 0 ∧ X = 0), decide (x = 0 ∧ P = []), (N : Int), Q⟩) := by
        show _ = _
        unfold sayV
        rw [← hx.out, ← hP.out, ← hX.out, ← hN.out, ← hQ.out]
      have PR : Hid (p r = (decide (x = 0 ∧ X = 0) && ((N : Int) == ve) && (Q == vda))) := by
        show _ = _
        rw [hp.out]
        show isV (sayV aS a2 r) ve vda = _
        rw [SV.out]
        rfl
      have AL := HAL.out r hlt
      rw [SV.out] at AL
      have HA2 : Hid (decide (x = 0 ∧ X = 0) = true → vh = true ∧ (N : Int) ≤ ve) := AL
      clear KU bC bD BC hB hx hP hX hN hQ SV AL
      by_cases x0 : x = 0
      rotate_left
      · have x0' : (x == 0) = false := beq_eq_false_iff_ne.2 x0
        have x0n : (x != 0) = true := by simp [x0]
        have EN : Hid (cnt p (r + 1) = cnt p r) := cnt_not (by rw [PR.out, decide_eq_false (fun q => x0 q.1)]; rfl)
        have BN : Hid (Below u4.heap.size u4 uD) := BD
        clear PR HA2 TD BD Rq
        exact vg_more
      by_cases X0 : X = 0
      rotate_left
      · have X0' : (X == 0) = false := beq_eq_false_iff_ne.2 X0
        have X0n : (X != 0) = true := by simp [X0]
        have EN : Hid (cnt p (r + 1) = cnt p r) := cnt_not (by rw [PR.out, decide_eq_false (fun q => X0 q.2)]; rfl)
        have BN : Hid (Below u4.heap.size u4 uD) := BD
        subst x0
        clear PR HA2 TD BD Rq
        exact vg_more
      obtain ⟨hvt, hle⟩ := HA2.out (decide_eq_true ⟨x0, X0⟩)
      have PQ : Hid (p r = (((N : Int) == ve) && (Q == vda))) := by show _ = _; rw [PR.out, decide_eq_true (p := x = 0 ∧ X = 0) ⟨x0, X0⟩]; rfl
      subst x0 X0 hvt
      have d1 : decide ((N : Int) > ve) = false := decide_eq_false (by omega)
      have d2 : decide (ve < (N : Int)) = false := decide_eq_false (by omega)
      have d3 : ¬ (N : Int) > ve := by omega
      have v0 := TD.c0
      have v1 := TD.c1
      have v2 := TD.c2
      simp only at v0 v1
      obtain ⟨sb, hsb⟩ : ∃ sb, Hid (sb = sameB Q vda) := ⟨_, rfl⟩
      have KS := same_b Rq TD.rd.rd
      rw [← hsb.out] at KS
      have PS : Hid (p r = (((N : Int) == ve) && sb)) := by
        show _ = _
        rw [PQ.out, hsb.out]
        unfold sameB
        rw [show (Q == vda) = decide (Q = vda) by rw [Bool.eq_iff_iff]; simp]
      have lt1 := TD.lt
      clear PR PQ HA2 hle TD Rq hsb
      go_wp2_with fail
      refine KS.mono ?_
      rintro _ uE ⟨rfl, bE⟩
      have BN : Hid (Below u4.heap.size u4 uE) := BD.step16 bE BD.size
      replace v1 := (bE.cell (p := ⟨b1, 1, none⟩) lt1).trans v1
      clear KS bE BD v0 v2
      by_cases e0 : (N : Int) = ve
      · cases sb with
        | true =>
          have EY : Hid (cnt p (r + 1) = cnt p r + 1) := cnt_yes (by rw [PS.out]; simp [e0])
          subst e0
          clear PS
          go_wp2
          go_roundw
          case rel => exact ⟨r + 1, by omega, by go_num, by rw [EY.out]; go_num, BN⟩
          case measure => simp [intOf]; omega
        | false =>
          have EN : Hid (cnt p (r + 1) = cnt p r) := cnt_not (by rw [PS.out]; simp)
          subst e0
          clear PS
          exact vg_more
      · have e0' : ((N : Int) == ve) = false := beq_eq_false_iff_ne.2 e0
        have EN : Hid (cnt p (r + 1) = cnt p r) := cnt_not (by rw [PS.out, e0']; rfl)
        clear PS
        exact vg_more
    · obtain rfl : r = m := by omega
      have hge : ¬ (r : Int) < (r : Int) := by omega
      rw [HCN.out]
      have T5 := T4.below hB.out
      have v0 := T5.c0
      have v3 := T5.c3
      have v4 := T5.c4
      simp only at v0 v3 v4
      have FIN : Hid (Below w.heap.size w wr) := C4.out.step16 hB.out C4.out.size
      clear T5 hB
      by_cases c0 : (c : Int) > 0
      · have hv : vh = true := HPO.out.2 (by omega)
        have e1 : decide ((c : Int) > 0) = true := decide_eq_true c0
        have e2 : decide (0 < (c : Int)) = true := decide_eq_true c0
        subst hv
        go_wp2
        go_ret
        exact ⟨by first | rfl | simp [c0], FIN.out⟩
      · have hv : vh = false := by
          cases q : vh with
          | false => rfl
          | true => have := HPO.out.1 q; omega
        have e1 : decide ((c : Int) > 0) = false := decide_eq_false c0
        have e2 : decide (0 < (c : Int)) = false := decide_eq_false c0
        subst hv
        go_wp2
        go_ret
        exact ⟨by first | rfl | simp [c0], FIN.out⟩) : p := h

set_option maxRecDepth 100000 in
set_option maxHeartbeats 4000000 in
theorem walk (a0 : Int) (a1 : Option Addr) (len1 cap1 : Nat) (z1 : List CallW) (a2 : Int) (w : World) (w0 : (Lit.int .i64 a0).wf = true) (w1 : RdV17 w (.slice a1 len1 cap1) z1) (w2 : (Lit.int .i64 a2).wf = true) :
    Calls Try.prog 4 #[.int .i64 a0, .slice a1 len1 cap1, .int .i64 a2] w fun e w' => e = .returned (.bool true) ∧ Below w.heap.size w w' := by
  obtain rfl := w1.lenEq
  have HV : Hid (∀ W, Below w.heap.size w W → RdV17 W (.slice a1 z1.length cap1) z1) := fun W b => w1.below b
  clear w1
  go_enter Try.func4, Try.ntmps4
  go_wp2_with fail
  refine awake17_any.mono ?_
  rintro e u1 ⟨rfl, B1⟩
  by_cases g1 : a0 < 1
  · exact vg_ret
  by_cases g2 : a0 > 8
  · exact vg_ret
  obtain ⟨m, rfl⟩ : ∃ m : Nat, a0 = (m : Int) := ⟨a0.toNat, by omega⟩
  have K := anew_is (w := u1) (n := (m : Int)) (s := 12) (m := m) (k := 12) rfl (by omega) (by omega) (by decide) (by decide) rfl
  go_wp2_with fail
  refine K.mono ?_
  rintro _ uA ⟨ab, GA, rfl, A1, H1, bA⟩
  have SA : ArB uA w.heap.size ab GA (newA m 12) := ⟨A1, fun k hk => Nat.le_trans B1.size (H1 k hk), Nat.le_trans B1.size bA.size⟩
  have CA : Hid (Below w.heap.size w uA) := B1.step16 bA B1.size
  have LA : Hid ((newA m 12).D.length = m) := by show _ = _; simp [newA]
  clear K A1 H1 bA B1
  go_wp2_with fail
  go_loopw [10] (fun i wr => ∃ (r : Nat) (G : Nat → Prop) (aS : ArS), r ≤ 30 ∧ i = .int .i64 (r : Int) ∧ ArB wr w.heap.size ab G aS ∧ Hid (aS.D.length = m) ∧ Hid (Below w.heap.size w wr)) (fun i _ => 30 - (intOf i).toNat)
  case atStart => exact ⟨0, GA, _, Nat.zero_le _, rfl, SA, LA, CA⟩
  case round =>
    clear SA CA LA
    obtain ⟨r, G, aS, hr, rfl, hS, hL, hC⟩ := hrel
    by_cases hlt : r < z1.length ∧ r < 30
    · have l1 : (r : Int) < (z1.length : Int) := by omega
      have l2 : (r : Int) < 30 := by omega
      obtain ⟨b, off, ea, lb, z⟩ := (HV.out wr hC.out).at hlt.1
      subst ea
      have hap : ApC G (z1.getD r default).c := by
        obtain ⟨_, _, _, _, z'⟩ := (HV.out w (Below.refl _ _)).at hlt.1
        exact ApC.old z'.cv.rb z'.cv.rk hS.low
      generalize z1.getD r default = x at z hap
      obtain ⟨kd, n, mm, vd, d, vk, kn, ⟨ak, ac, an, am, ay, avb, avk, abb, akk⟩⟩ := x
      have hrd : Rd wr vd d := z.rd
      have hcv : CallV wr ⟨ak, ac, an, am, ay, avb, avk, abb, akk⟩ := z.cv
      have hwn : (Lit.int .i64 n).wf = true := z.wn
      obtain ⟨da, dc, ed⟩ := hrd.form
      obtain ⟨ka, kc, ek⟩ := (show RdB wr vk kn from z.rk).form
      obtain ⟨ba, bc, eb⟩ := (show Rd wr avb abb from hcv.rb).form
      obtain ⟨ca, cc, ec⟩ := (show RdII wr avk akk from hcv.rk).form
      subst ed ek eb ec
      obtain ⟨t0, t1, t2, t3, t4, t5, t6, t7, t8, t9, t10, t11⟩ := And.intro z.s0 (And.intro z.s1 (And.intro z.s2 (And.intro z.s3 (And.intro z.s4 (And.intro z.s5 (And.intro z.s6 (And.intro z.s7 (And.intro z.s8 (And.intro z.s9 (And.intro z.s10 z.s11))))))))))
      simp only at t0 t1 t2 t3 t4 t5 t6 t7 t8 t9 t10 t11
      obtain ⟨sm, hsm⟩ : ∃ sm, Hid (decide (d.length ≤ 60 ∧ kn.length ≤ 40) = sm) := ⟨_, rfl⟩
      obtain ⟨uc, huc⟩ : ∃ uc, uc = wr.alloc (.cells #[.int .i64 kd, .int .i64 n, .int .i64 mm, .slice da d.length dc, .slice ka kn.length kc, .int .i64 ak, .int .i64 ac, .int .i64 an, .int .i64 am, .int .u8 ((ay.toNat : Nat) : Int), .slice ba abb.length bc, .slice ca akk.length cc] 45) := ⟨_, rfl⟩
      have qc : Below wr.heap.size wr uc := by rw [huc]; exact belR _ _
      have Sc := hS.below qc
      have Cc := hC.out.step16 qc hC.out.size
      have hrc := hrd.below qc
      have hvc := hcv.below qc
      obtain ⟨cb, hcb⟩ : ∃ cb, Hid (cb = wr.heap.size) := ⟨_, rfl⟩
      have lc : cb < uc.heap.size := by rw [hcb.out, huc]; simp
      have cl : ∀ j, uc.cell? ⟨cb, j, none⟩ = #[Value.int .i64 kd, .int .i64 n, .int .i64 mm, .slice da d.length dc, .slice ka kn.length kc, .int .i64 ak, .int .i64 ac, .int .i64 an, .int .i64 am, .int .u8 ((ay.toNat : Nat) : Int), .slice ba abb.length bc, .slice ca akk.length cc][j]? := fun j => by rw [huc, hcb.out]; exact World.cell?_alloc_new _ _ _ _
      have K := vsmall_any (w := uc) (k := kd) (n := n) (m := mm) (da := da) (ka := ka) (ba := ba) (ca := ca) (dl := d.length) (dc := dc) (kl := kn.length) (kc := kc) (bl := abb.length) (bc := bc) (cl := akk.length) (cc := cc) (q0 := ak) (q1 := ac) (q2 := an) (q3 := am) (q4 := ((ay.toNat : Nat) : Int)) hsm.out
      rw [huc] at K
      clear z hS hC hrd hcv qc
      go_wp2_with fail
      refine K.mono ?_
      rintro _ ud ⟨rfl, bd⟩
      rw [← huc] at bd
      rw [← hcb.out]
      have Sd := Sc.below bd
      have Cd : Hid (Below w.heap.size w ud) := Cc.step16 bd Cc.size
      have hrdd := hrc.below bd
      have hvd := hvc.below bd
      have ce : ∀ j, ud.cell? ⟨cb, j, none⟩ = _ := fun j => (bd.cell (p := ⟨cb, j, none⟩) lc).trans (cl j)
      obtain ⟨s0, s1, s2, s3, s5, s6, s7, s8, s9, s10, s11⟩ := And.intro (ce 0) (And.intro (ce 1) (And.intro (ce 2) (And.intro (ce 3) (And.intro (ce 5) (And.intro (ce 6) (And.intro (ce 7) (And.intro (ce 8) (And.intro (ce 9) (And.intro (ce 10) (ce 11))))))))))
      simp at s0 s1 s2 s3 s5 s6 s7 s8 s9 s10 s11
      clear K Sc Cc hrc hvc bd ce cl huc t0 t1 t2 t3 t4 t5 t6 t7 t8 t9 t10 t11
      cases sm with
      | false =>
        obtain ⟨GN, hGN⟩ : ∃ GN, GN = G := ⟨_, rfl⟩
        subst hGN
        obtain ⟨aN, haN⟩ : ∃ aN, aN = aS := ⟨_, rfl⟩
        subst haN
        have SN := Sd
        have LN := hL
        have CN := Cd
        clear Sd hrdd hvd
        exact vg_next
      | true =>
        by_cases k1 : kd = 1
        · subst k1
          have K := vwrite17_any Sd.at_ (ad := n) (ep := mm) hwn hrdd (by have := of_decide_eq_true hsm.out; omega)
          go_wp2_with fail
          refine K.mono ?_
          rintro _ ue ⟨rfl, GN, AN, gN⟩
          obtain ⟨aN, haN⟩ : ∃ aN, Hid (aN = wvS aS n mm d) := ⟨_, rfl⟩
          have SN : ArB ue w.heap.size ab GN aN := by rw [haN.out]; exact Sd.grew AN gN
          have LN : Hid (aN.D.length = m) := by show _ = _; rw [haN.out, wvS_len, hL.out]
          have CN : Hid (Below w.heap.size w ue) := Cd.out.trans (Sd.bel gN)
          clear K Sd hrdd hvd AN gN haN
          exact vg_next
        · have k1' : (kd == 1) = false := beq_eq_false_iff_ne.2 k1
          have qf := belR ud (.cells #[.int .i64 ak, .int .i64 ac, .int .i64 an, .int .i64 am, .int .u8 ((ay.toNat : Nat) : Int), .slice ba abb.length bc, .slice ca akk.length cc] 43)
          have Sf := Sd.below qf
          have Cf := Cd.out.step16 qf Cd.out.size
          have TA := toldA_one (w := ud) (c := ⟨ak, ac, an, am, ay, .slice ba abb.length bc, .slice ca akk.length cc, abb, akk⟩) hvd hap Sd.at_.lt 43 rfl
          have K := adone_any Sf.at_ TA
          go_wp2_with fail
          refine K.mono ?_
          rintro _ ue ⟨rfl, GN, AN, gN⟩
          obtain ⟨aN, haN⟩ : ∃ aN, Hid (aN = runA aS ([(⟨ak, ac, an, am, ay, .slice ba abb.length bc, .slice ca akk.length cc, abb, akk⟩ : CallA)].take 50)) := ⟨_, rfl⟩
          have SN : ArB ue w.heap.size ab GN aN := by rw [haN.out]; exact Sf.grew AN gN
          have LN : Hid (aN.D.length = m) := by show _ = _; rw [haN.out, runA_len, hL.out]
          have CN : Hid (Below w.heap.size w ue) := Cf.trans (Sf.bel gN)
          clear K Sd Sf Cf TA qf hrdd hvd AN gN haN
          exact vg_next
    · have OK : Hid aS.Ok := hS.at_.ok
      have NC : ¬ ((r : Int) < (z1.length : Int) ∧ (r : Int) < 30) := fun q => hlt ⟨by omega, by omega⟩
      cases ho : aS.off with
      | true =>
        have K := vread_is hS.at_ (ad := a2) w2 rdB_none (show rvX aS = 130 from if_pos ho) (show rvV aS [] a2 = noV from if_pos ho)
        have KD := fun W (h : ArAt W ab G aS) => adown_is h ho
        have HKD : Hid _ := KD
        clear KD
        by_cases c1 : (r : Int) < (z1.length : Int)
        · have c2 : ¬ (r : Int) < 30 := fun q => NC ⟨c1, q⟩
          clear NC
          go_wp2_with fail
          refine K.mono ?_
          rintro _ u3 ⟨vd, rfl, R3, F3, b3⟩
          obtain ⟨va, vc, ev⟩ := R3.form
          subst ev
          rw [show aggV noV (.slice va noV.da.length vc) = .agg #[.bool false, .int .i64 0, .slice va 0 vc, .int .i64 0, .bool false] from rfl]
          have q4 := belR u3 (.cells #[.bool false, .int .i64 0, .slice va 0 vc, .int .i64 0, .bool false] 34)
          have S4 := (hS.below b3).below q4
          have C4 := (hC.out.step16 b3 hC.out.size).step16 q4 (hC.out.step16 b3 hC.out.size).size
          have K2 := HKD.out _ S4.at_
          clear K hS hC R3 F3 b3 q4 S4
          go_wp2_with fail
          refine K2.mono ?_
          rintro _ _ ⟨rfl, rfl⟩
          go_wp2
          go_ret
          exact ⟨rfl, C4⟩
        · clear NC
          go_wp2_with fail
          refine K.mono ?_
          rintro _ u3 ⟨vd, rfl, R3, F3, b3⟩
          obtain ⟨va, vc, ev⟩ := R3.form
          subst ev
          rw [show aggV noV (.slice va noV.da.length vc) = .agg #[.bool false, .int .i64 0, .slice va 0 vc, .int .i64 0, .bool false] from rfl]
          have q4 := belR u3 (.cells #[.bool false, .int .i64 0, .slice va 0 vc, .int .i64 0, .bool false] 34)
          have S4 := (hS.below b3).below q4
          have C4 := (hC.out.step16 b3 hC.out.size).step16 q4 (hC.out.step16 b3 hC.out.size).size
          have K2 := HKD.out _ S4.at_
          clear K hS hC R3 F3 b3 q4 S4
          go_wp2_with fail
          refine K2.mono ?_
          rintro _ _ ⟨rfl, rfl⟩
          go_wp2
          go_ret
          exact ⟨rfl, C4⟩
      | false =>
        have HO : Hid (aS.off = false) := ho
        obtain ⟨vh, ve, vda, c, R1, hcn, hpos, hall⟩ := gr_all (ad := a2) ho
        rw [hL.out] at hcn hall
        have HCN : Hid (cnt (fun i => isV (sayV aS a2 i) ve vda) m = c) := hcn
        have HPO : Hid (vh = true ↔ 0 < c) := hpos
        have HAL : Hid (∀ i, i < m → (sayV aS a2 i).is = true → vh = true ∧ (sayV aS a2 i).ep ≤ ve) := hall
        have K := vread_is hS.at_ (ad := a2) w2 rdB_none R1.1 R1.2
        clear hcn hpos hall R1 ho
        by_cases c1 : (r : Int) < (z1.length : Int)
        · have c2 : ¬ (r : Int) < 30 := fun q => NC ⟨c1, q⟩
          clear NC
          exact vg_rest
        · clear NC
          exact vg_rest

/-! ### THE ROW's STEP: WRITTEN OUT: LEAVE IT -/
set_option maxRecDepth 100000 in
theorem lifted (os : Os) (started : os.Started) (H : Type) (enc : TypeId × Value → H) :
    ReturnsInHanded {} Try.checked os 4 .any (Rows.voteGreatestSpec.pre6 enc Try.prog Try.f4 Rows.voteGreatestRow.domain false) (Rows.voteGreatestSpec.post enc Try.prog Try.f4 false true false false) := by
  refine returnsInHanded_of_change (C := Try.checked) own started (by kernel_rfl) Try.func4
    (ChangeSpec.witness6 (enc := enc) (C := Try.checked) false ⟨#[], #[.int .i64 0, .slice none 0 0, .int .i64 0], []⟩ 8 (by kernel_rfl) (by kernel_rfl) (by kernel_rfl) (by kernel_rfl)) ?_
  intro W base args ds gs before hval0 hW hcnd _
  have hval : ∀ (j : Nat) t v, Try.f4.params[j]? = some t → args[j]? = some v → Value.okWide Try.prog W .any base t v := hval0
  have hW' := hW
  obtain ⟨p, q, hA0, hV, rfl, hfz, hnd⟩ := hW
  have hA : DataW.TrodAll enc Try.prog W 0 (fun _ => true) true Try.f4.params.toList args.toList ds p := hA0
  rw [Try.params4] at hA hval
  obtain ⟨v0, vs0, d0, ds0, p0, q0, hargs, rfl, rfl, h0, r0⟩ := trodAll_cons hA
  obtain ⟨v1, vs1, d1, ds1, p1, q1, rfl, rfl, rfl, h1, r1⟩ := trodAll_cons r0
  obtain ⟨v2, vs2, d2, ds2, p2, q2, rfl, rfl, rfl, h2, r2⟩ := trodAll_cons r1
  obtain ⟨rfl, rfl, rfl⟩ := trodAll_nil r2
  obtain rfl : args = #[v0, v1, v2] := by cases args; simp_all
  obtain ⟨rfl, rfl⟩ := trodVars_none hV
  obtain ⟨a0, rfl, rfl, rfl, w0⟩ := open_int Try.underlying3 (hval 0 3 v0 rfl rfl) h0
  obtain ⟨a1, len1, cap1, rfl⟩ := okWide_slice Try.underlying39 (hval 1 39 v1 rfl rfl)
  have k1 := h1
  have lt1 : ∀ x ∈ p1, x.block < W.heap.size := by obtain ⟨m, hm⟩ := k1; exact DataW.trod_lt m _ _ _ hm
  obtain ⟨z1, w1⟩ : ∃ zs, RdV17 W (.slice a1 len1 cap1) zs := by
    obtain ⟨fuel, hf⟩ := h1
    obtain ⟨a9, l9, c9, L9, hcs, _, hR⟩ := open_vcalls (sb := 5) (so := 4) (ss := 70) (si := 3) Try.underlying39 Try.underlying45 (by kernel_rfl) rfl rfl rfl rfl rfl rfl (by kernel_rfl) (by kernel_rfl) (by kernel_rfl) (by kernel_rfl) (by kernel_rfl) (by kernel_rfl) (by kernel_rfl) (by kernel_rfl) (by kernel_rfl) (by kernel_rfl) (by kernel_rfl) (by kernel_rfl) (by kernel_rfl) Try.underlying43 rfl rfl rfl rfl rfl rfl rfl (by kernel_rfl) (by kernel_rfl) (by kernel_rfl) (by kernel_rfl) (by kernel_rfl) (by kernel_rfl) (by kernel_rfl) (by kernel_rfl) (by kernel_rfl) (by kernel_rfl) (by kernel_rfl) (by kernel_rfl) (by kernel_rfl) (by kernel_rfl) (by kernel_rfl) (by kernel_rfl) (by kernel_rfl) (by kernel_rfl) (by kernel_rfl) (by kernel_rfl) hf
    simp [Value.cells] at hcs
    obtain ⟨rfl, rfl, rfl⟩ := hcs
    exact ⟨L9, hR⟩
  obtain ⟨a2, rfl, rfl, rfl, w2⟩ := open_int Try.underlying3 (hval 2 3 v2 rfl rfl) h2
  clear hA0 hval0
  refine (walk a0 a1 len1 cap1 z1 a2 W w0 w1 w2).mono fun e W' ⟨he, bel⟩ => ?_
  subst he
  exact ⟨_, rfl, _, _, _, [], _, [], hW', trodAll_mk1 (shut_bool Try.underlying4 _), (trodAll_cons_mk (shut_int Try.underlying3 w0) (trodAll_cons_mk (Below.trod laidOut (by kernel_rfl) (of_decide_eq_true (by kernel_rfl)) k1 bel lt1) (trodAll_cons_mk (shut_int Try.underlying3 w2) trodAll_mk0))), rfl, bel.frame _, fun h => by cases h⟩

theorem over : Rows.voteGreatestRow.holds Try.pinned (OpenSpec.ofChange Rows.voteGreatestSpec) :=
  OpenClaim.holds_of_wide 4 Try.f4 rfl rfl rfl rfl rfl rfl rfl ⟨rfl, rfl, rfl, rfl, rfl⟩ rfl rfl rfl rfl rfl (by kernel_rfl) Try.func4 (by kernel_rfl)
    (of_decide_eq_true (by kernel_rfl)) (by unfold Func.isWrapper; first | (rw [if_pos (by decide +kernel)]; kernel_rfl) | (rw [if_neg (by decide +kernel)]; exact ⟨rfl, rfl⟩))
    (fun os started H enc _ => lifted os started H enc)

/-- ████ THE STATEMENT ████ -/
theorem proved : Rows.VoteGreatestSaid := over
end Go.Proofs.Ytgahaebfgmbckaa.voteGreatest
namespace Go.Proofs.Ytgahaebfgmbckaa
theorem voteGreatest_holds : Rows.VoteGreatestSaid := voteGreatest.proved
#print axioms voteGreatest_holds
end Go.Proofs.Ytgahaebfgmbckaa
