/- PROVED: for every geometry g and every script of calls the call CatalogAgain(g, script) returns true, and its arguments read behind it as before; no conditions. -/
import Derived.ProofKit
import Derived.ShutString
import Derived.ChangeOld
import Derived.Test.YtndlfmofjmieaabTome14
import Derived.Test.YtndlfmofjmieaabTome5
namespace Go.Proofs.Ytndlfmofjmieaab.catalogAgain
open Go.ChangeShapes Go.WideShapes Go.ChangeAt Go.RowKit
open Go.ChangeMaps (open_string shut_string)
set_option linter.unusedVariables false

theorem own : ownKnob Try.prog.godebug = none := by kernel_rfl
theorem laidOut : laidOutB Try.prog = true := by kernel_rfl

/-- WHAT THE WALK IS TOLD OF A SLICE OF INTEGERS THAT CAME IN: it is nil; or it leads to a row of 'cap' cells, the numbers 'zs' (the first 'len' are its elements, the rest its spare room), each fitting its kind. -/
def IsRow (k : IntKind) (w : World) (a : Option Addr) (len cap : Nat) (zs : List Int) : Prop :=
  (a = none ∧ len = 0 ∧ cap = 0 ∧ zs = []) ∨
  ∃ x, a = some x ∧ len ≤ cap ∧ cap ≤ maxLen ∧ zs.length = cap ∧ (∀ i, i < zs.length → w.cell? (x.add i) = some (.int k (zs.getD i 0))) ∧ ∀ n ∈ zs, (Lit.int k n).wf = true

open Gf
set_option linter.unusedSimpArgs false
/-- what stays of a catalog whose objects are put again -/
def AgainJ (g : GeoS) (L Q : List ObS) : Prop := InvC g Q ∧ ∀ o ∈ L, ∃ p ∈ Q, p.key = o.key ∧ p.len = o.len ∧ p.st = o.st
theorem AgainJ.start {g : GeoS} {L : List ObS} (h : InvC g L) : AgainJ g L L := ⟨h, fun o ho => ⟨o, ho, rfl, rfl, rfl⟩⟩
theorem AgainJ.put {g : GeoS} {L Q : List ObS} (h : AgainJ g L Q) {o : ObS} (ho : o ∈ L) : (o.st ≠ [] → apCX g Q (putR o) 1 = 1) ∧ (o.st = [] → apCX g Q (putR o) 1 = 0) ∧ AgainJ g L (apCS g Q (putR o) 1) := by
  obtain ⟨hi, hq⟩ := h
  obtain ⟨p, hp, e1, e2, e3⟩ := hq o ho
  have ep : putR p = putR o := by unfold putR; rw [e1, e2, e3]
  obtain ⟨a1, a2⟩ := again_put hi hp (ep := 1) (by decide)
  rw [ep, e3] at a1 a2
  have inv := hi.apply (putR o) 1
  refine ⟨a1, fun q => (a2 q).1, inv, fun x hx => ?_⟩
  by_cases q : o.st = []
  · obtain ⟨y, hy, f1, f2, f3⟩ := hq x hx
    by_cases k : y.key = p.key
    · have hyp : y = p := hi.rise.one hy hp k
      subst hyp
      exact ⟨⟨y.key, y.len, 1, []⟩, ((a2 q).2 _).2 (Or.inl rfl), f1, f2, by rw [← f3, e3, q]⟩
    · exact ⟨y, ((a2 q).2 _).2 (Or.inr ⟨hy, k⟩), f1, f2, f3⟩
  · have z : apCS g Q (putR o) 1 = Q := by unfold apCS; rw [a1 q, if_neg (by decide)]
    rw [z]
    exact hq x hx

set_option maxRecDepth 100000 in
set_option maxHeartbeats 4000000 in
theorem walk (c0 : GeoS) (a1 : Option Addr) (len1 cap1 : Nat) (z1 : List CallK) (w : World) (w0 : c0.Wf) (w1 : RdC19 w (.slice a1 len1 cap1) z1) :
    Calls Try.prog 3 #[aggG c0, .slice a1 len1 cap1] w fun e w' => e = .returned (.bool true) ∧ Below w.heap.size w w' := by
  obtain rfl := w1.lenEq
  have HV := hidK w1
  have HG := hidK w0
  obtain ⟨cx, hcx⟩ : ∃ x, Hid (chG c0 = x) := ⟨_, rfl⟩
  have KC := fun V => @lcheck_any V c0 w0 _ hcx.out
  have HOK : Hid (cx = 0 → okG c0) := fun q => by
    by_cases k : okG c0
    · exact k
    · have h : chG c0 = 50 := if_neg k
      rw [hcx.out, q] at h
      cases h
  have T3 : Hid (∀ V, Below (w.alloc (.cells (cellsG c0) 23)).heap.size (w.alloc (.cells (cellsG c0) 23)) V → GeoAt V w.heap.size c0 ∧ Below w.heap.size w V) := geo_laid w c0 23
  clear w0 w1 hcx
  obtain ⟨gk, gm, gz, gs, gt, go⟩ := c0
  obtain ⟨W, hW⟩ : ∃ W, W = w.alloc (.cells #[.int .i64 gk, .int .i64 gm, .int .i64 gz, .int .i64 gs, .int .i64 gt, .int .i64 go] 23) := ⟨_, rfl⟩
  have T4 : Hid (∀ V, Below W.heap.size W V → GeoAt V w.heap.size ⟨gk, gm, gz, gs, gt, go⟩ ∧ Below w.heap.size w V) := by rw [hW]; exact T3
  have LWh := hidK (T4.out W (Below.refl _ _)).2.size
  rw [aggE] at KC ⊢
  clear T3
  go_enter Try.func3, Try.ntmps3
  go_wp2_with fail
  rw [← hW]
  clear hW
  refine cawake_any.mono ?_
  rintro _ u1 ⟨rfl, b1⟩
  have B1 := hidK b1
  obtain ⟨⟨y0, y1, y2, y3, y4, y5⟩, _⟩ := T4.out u1 b1
  simp only at y0 y1 y2 y3 y4 y5
  clear b1
  go_wp2_with fail
  refine (KC _).mono ?_
  clear KC y0 y1 y2 y3 y4 y5
  rintro _ u2 ⟨rfl, b2⟩
  have B2 := hidK (B1.out.stepL b2 B1.out.size)
  clear b2 B1
  have G2 := hidK (T4.out u2 B2.out).2
  obtain ⟨⟨y0, y1, y2, y3, y4, y5⟩, _⟩ := T4.out u2 B2.out
  simp only at y0 y1 y2 y3 y4 y5
  by_cases hx : cx = 0
  rotate_left
  · have n1 : (cx == 0) = false := beq_eq_false_iff_ne.2 hx
    have n2 : (cx != 0) = true := by simp [bne, n1]
    clear HOK T4 HV HG
    go_wp2
    go_ret
    exact ⟨rfl, G2.out⟩
  subst hx
  have OK := hidK (HOK.out rfl)
  clear HOK
  by_cases h40 : gs > 40
  · clear T4 HV HG
    go_wp2
    go_ret
    exact ⟨rfl, G2.out⟩
  have KD := cdone19_any HG.out OK.out (HV.out.below G2.out)
  have KW := fun V (va : Option Addr) (vc : Nat) (Z : List ObV) (hz : RdO V (.slice va Z.length vc) Z) (hl : Z.length ≤ 1000) (X : Int) (hx : neCX ⟨gk, gm, gz, gs, gt, go⟩ (oL Z) = X) => cnew19_any HG.out hz hl hx
  rw [aggE] at KD KW
  clear HV
  go_wp2_with fail
  refine KD.mono ?_
  clear KD y0 y1 y2 y3 y4 y5
  rintro _ u3 ⟨cb, mb, M, rfl, C3, lc, lm, b3⟩
  have B3 := hidK (B2.out.stepL b3 B2.out.size)
  have CI := hidK C3
  clear b3 C3 lc lm G2
  obtain ⟨L, hL⟩ : ∃ L, Hid (oL M = L) := ⟨_, rfl⟩
  have INV : Hid (InvC ⟨gk, gm, gz, gs, gt, go⟩ L) := by show InvC _ _; rw [← hL.out]; exact CI.out.inv
  have K := call19_any CI.out
  go_wp2_with fail
  refine K.mono ?_
  clear K
  rintro _ u4 ⟨vl, N, rfl, oN, eN, b4⟩
  have B4 := hidK (B3.out.stepL b4 B3.out.size)
  have CI4 := hidK (CI.out.below b4)
  have EN : Hid (oL N = L) := by show _ = _; rw [eN, hL.out]
  have NL : N.length ≤ 64 := by
    have h1 := CI.out.few.2
    have h2 := congrArg List.length eN
    rw [oL_length, oL_length] at h2
    omega
  have RN := hidK (oN.rd (by omega))
  obtain ⟨oa, oc, ev, _⟩ := oN.form19'
  subst ev
  clear b4 B3 CI oN eN
  obtain ⟨⟨y0, y1, y2, y3, y4, y5⟩, _⟩ := T4.out u4 B4.out
  simp only at y0 y1 y2 y3 y4 y5
  have K := KW u4 oa oc N RN.out (by omega) 0 (by rw [EN.out]; exact (new_same INV.out OK.out).1)
  clear KW
  go_wp2_with fail
  refine K.mono ?_
  clear K y0 y1 y2 y3 y4 y5
  rintro _ u5 (⟨_, db, nb, Q0, rfl, eQ, D5, lc, lm, b5⟩ | ⟨h, _⟩)
  rotate_left
  · exact absurd rfl h
  have EQ : Hid (oL Q0 = L) := by
    show _ = _
    rw [EN.out, (new_same INV.out OK.out).2] at eQ
    exact (Option.some.inj eQ).symm
  have B5 := hidK (B4.out.stepL b5 B4.out.size)
  have CI5 := hidK (CI4.out.below b5)
  have DI5 := hidK D5
  have RN5 := hidK (RN.out.below b5)
  have LB : Hid (W.heap.size ≤ db ∧ W.heap.size ≤ nb) := ⟨Nat.le_trans B4.out.size lc, Nat.le_trans B4.out.size lm⟩
  clear b5 eQ D5 lc lm B4 CI4 RN
  obtain ⟨fr, hfr⟩ : ∃ z, Hid ((frC ⟨gk, gm, gz, gs, gt, go⟩ L : Int) = z) := ⟨_, rfl⟩
  have K1 := cfrees19_any DI5.out (X := fr) (by rw [EQ.out, hfr.out])
  go_wp2_with fail
  refine K1.mono ?_
  clear K1
  rintro _ u6 ⟨rfl, b6⟩
  have B6 := hidK (B5.out.stepL b6 B5.out.size)
  have CI6 := hidK (CI5.out.below b6)
  have DI6 := hidK (DI5.out.below b6)
  have RN6 := hidK (RN5.out.below b6)
  clear b6 B5 CI5 DI5 RN5
  have K1 := cfrees19_any CI6.out (X := fr) (by rw [hL.out, hfr.out])
  go_wp2_with fail
  refine K1.mono ?_
  clear K1
  rintro _ u7 ⟨rfl, b7⟩
  have B7 := hidK (B6.out.stepL b7 B6.out.size)
  have DI7 := hidK (DI6.out.below b7)
  have RN7 := hidK (RN6.out.below b7)
  clear b7 B6 CI6 DI6 RN6
  have K1 := call19_any DI7.out
  go_wp2_with fail
  refine K1.mono ?_
  clear K1
  rintro _ u8 ⟨v8, N8, rfl, o8, e8, b8⟩
  have B8 := hidK (B7.out.stepL b8 B7.out.size)
  have DI8 := hidK (DI7.out.below b8)
  have RN8 := hidK (RN7.out.below b8)
  have N8l : N8.length ≤ 64 := by
    have h2 := congrArg List.length e8
    rw [oL_length, EQ.out, ← EN.out, oL_length] at h2
    omega
  have R8 := o8.rd (by omega)
  obtain ⟨pa, pc, ev8, _⟩ := o8.form19'
  subst ev8
  have E8 : oL N8 = oL N := by rw [e8, EQ.out, EN.out]
  have SB : ∀ (P : List ObV), oL P = oL N → ∀ i, i < P.length → (P.getD i default).o.st.length ≤ 1000000 := fun P hP i hi => by
    have hm : (P.getD i default).o ∈ oL P := by
      rw [show P.getD i default = P[i] by simp [List.getD, hi]]
      exact List.mem_map_of_mem (List.getElem_mem hi)
    rw [hP, EN.out] at hm
    exact Nat.le_trans (INV.out.ok _ hm).1.1.2.2.2.2.2.1 (by decide)
  have K1 := hidK (robjs16_any R8 RN8.out (by omega) (SB N8 E8) (SB N rfl))
  have HE8 := hidK E8
  clear b8 B7 DI7 RN7 R8 SB o8 e8 E8
  go_wp2_with fail
  refine K1.out.mono ?_
  clear K1
  rintro _ wo h9
  obtain ⟨bs, rfl, hbs, b9⟩ := h9
  obtain rfl : bs = true := hbs.2 HE8.out
  have BO := hidK (T4.out wo (B8.out.stepL b9 B8.out.size)).2
  have LN : Hid (w.heap.size ≤ nb) := by
    have h1 := (T4.out W (Below.refl _ _)).2.size
    have h2 := LB.out.2
    show _ ≤ _
    omega
  have DIO := hidK (DI8.out.below b9)
  have RNO := hidK (RN8.out.below b9)
  have J0 : Hid (AgainJ ⟨gk, gm, gz, gs, gt, go⟩ L (oL Q0)) := by show AgainJ _ L (oL Q0); rw [EQ.out]; exact AgainJ.start INV.out
  clear hbs HE8 b9 B8 DI8 RN8 hfr LB T4 EQ
  go_wp2_with fail
  go_loopw [11] (fun iv wr => ∃ (r : Nat) (Q : List ObV), r ≤ N.length ∧ iv = .int .i64 (r : Int) ∧ Hid (CatI wr db nb ⟨gk, gm, gz, gs, gt, go⟩ Q NoB) ∧ Hid (AgainJ ⟨gk, gm, gz, gs, gt, go⟩ L (oL Q)) ∧ Hid (Below w.heap.size w wr) ∧ Hid (RdO wr (.slice oa N.length oc) N)) (fun iv _ => N.length - (intOf iv).toNat)
  case atStart => exact ⟨0, Q0, Nat.zero_le _, rfl, DIO.out, J0.out, BO.out, RNO.out⟩
  case round =>
    clear DIO J0 BO RNO
    obtain ⟨r, Q, hr, rfl, hC, hJ, hB, hR⟩ := hrel
    by_cases hlt : r < N.length
    · have hlt' : (r : Int) < (N.length : Int) := by omega
      obtain ⟨b, off, eb, hbw, cz⟩ := hR.out.at hlt
      subst eb
      have hm : (N.getD r default).o ∈ L := by
        rw [← EN.out, show N.getD r default = N[r] by simp [List.getD, hlt]]
        exact List.mem_map_of_mem (List.getElem_mem hlt)
      obtain ⟨j1, j2, j3⟩ := hJ.out.put hm
      have IM := hC.out.isMap
      have CZ : Hid (∀ X, TurnG (fun x => x = nb) wr X → ObAt X b (off + r * 4) (N.getD r default)) := fun X t => by
        have nbb : ¬ b = nb := fun e => by
          have := cz.c0
          rw [IM.cell ⟨b, off + r * 4, none⟩ e] at this
          cases this
        have q : ∀ j, X.cell? ⟨b, j, none⟩ = wr.cell? ⟨b, j, none⟩ := fun j => t.cell (p := ⟨b, j, none⟩) hbw nbb
        exact ⟨(q _).trans cz.c0, (q _).trans cz.c1, (q _).trans cz.c2, (q _).trans cz.c3, cz.wl, cz.we, cz.ky, cz.rs.offG (cz.rs.notMap IM) t, cz.wi⟩
      have RR : Hid (∀ X, TurnG (fun x => x = nb) wr X → RdO X (.slice (some ⟨b, off, none⟩) N.length oc) N) := fun X t => by
        rcases hR.out with h | ⟨b', off', cap, h1, h2, h3, h4, h5⟩
        · exact Or.inl h
        · simp at h2
          obtain ⟨⟨rfl, rfl⟩, rfl⟩ := h2
          have nbb : ¬ b = nb := fun e => by
            have := cz.c0
            rw [IM.cell ⟨b, off + r * 4, none⟩ e] at this
            cases this
          refine Or.inr ⟨b, off, oc, h1, rfl, h3, Nat.lt_of_lt_of_le h4 t.size, fun i hi => ?_⟩
          have z := h5 i hi
          have q : ∀ j, X.cell? ⟨b, j, none⟩ = wr.cell? ⟨b, j, none⟩ := fun j => t.cell (p := ⟨b, j, none⟩) h4 nbb
          exact ⟨(q _).trans z.c0, (q _).trans z.c1, (q _).trans z.c2, (q _).trans z.c3, z.wl, z.we, z.ky, z.rs.offG (z.rs.notMap IM) t, z.wi⟩
      generalize N.getD r default = c at cz j1 j2 j3 CZ
      clear hm
      obtain ⟨⟨ky, ln, ep, st⟩, vs⟩ := c
      obtain ⟨sa, sc, es⟩ := cz.rs.form
      simp only at es j1 j2
      subst es
      have SF : Hid (∀ V, TurnG (fun x => x = nb) wr V → (V.cell? ⟨b, off + r * 4, none⟩ = some (.string ⟨ky.toArray⟩) ∧ V.cell? ⟨b, off + r * 4 + 1, none⟩ = some (.int .i64 ln) ∧ V.cell? ⟨b, off + r * 4 + 2, none⟩ = some (.int .i64 ep) ∧ V.cell? ⟨b, off + r * 4 + 3, none⟩ = some (.slice sa st.length sc))) := fun V t => by
        have z := CZ.out V t
        exact ⟨z.c0, z.c1, z.c2, z.c3⟩
      have rd : RcV.In wr.drew ⟨⟨1, ky, ln, st⟩, .slice sa st.length sc⟩ := ⟨(by show (Lit.int .i64 1).wf = true; decide), cz.wl, cz.ky, cz.rs.below (Below.refl _ _).drew, cz.wi⟩
      obtain ⟨X, hX⟩ : ∃ X, apCX ⟨gk, gm, gz, gs, gt, go⟩ (oL Q) ⟨1, ky, ln, st⟩ 1 = X := ⟨_, rfl⟩
      have J1 : Hid (st ≠ [] → X = 1) := fun q => hX.symm.trans (j1 q)
      have J2 : Hid (st = [] → X = 0) := fun q => hX.symm.trans (j2 q)
      have J3 : Hid (AgainJ ⟨gk, gm, gz, gs, gt, go⟩ L (apCS ⟨gk, gm, gz, gs, gt, go⟩ (oL Q) ⟨1, ky, ln, st⟩ 1)) := j3
      have K := capply19_any (hC.out.below (Below.refl _ _).drew) (c := ⟨⟨1, ky, ln, st⟩, .slice sa st.length sc⟩) rd (ep := 1) (by decide) hX rfl
      rw [show aggR ⟨⟨1, ky, ln, st⟩, .slice sa st.length sc⟩ = .agg #[.int .i64 1, .string ⟨ky.toArray⟩, .int .i64 ln, .slice sa st.length sc] from rfl] at K
      have KK := hidK K
      have C19 := SF.out wr.drew (TurnG.refl _ _).drew
      clear K rd hX j1 j2 j3 cz hbw IM hJ CZ
      go_wp2_with fail
      refine wp_region_held_drew (S := fun V => V.cell? ⟨b, off + r * 4, none⟩ = some (.string ⟨ky.toArray⟩) ∧ V.cell? ⟨b, off + r * 4 + 1, none⟩ = some (.int .i64 ln) ∧ V.cell? ⟨b, off + r * 4 + 2, none⟩ = some (.int .i64 ep) ∧ V.cell? ⟨b, off + r * 4 + 3, none⟩ = some (.slice sa st.length sc)) (by kernel_rfl) C19 (fun hHeld => ?_)
      refine tkH 0 ?_
      refine tkH 1 ?_
      refine tkH 2 ?_
      refine tkH 3 ?_
      refine tkH 4 ?_
      refine tkH 5 ?_
      refine tkH 6 ?_
      refine tkH 7 ?_
      refine tkH 8 ?_
      refine tkH 9 ?_
      refine tkH 10 ?_
      refine tkH 11 ?_
      refine tkH 12 ?_
      refine tkH 13 ?_
      refine tkH 14 ?_
      refine tkH 15 ?_
      refine tkH 16 ?_
      clear hHeld C19
      refine rnH 17 (fun K' hK => ?_)
      go_simp
      go_at_call 11
      refine KK.out.mono ?_
      clear KK
      rintro _ w5 ⟨Q5, rfl, C5, e5, t5⟩
      dsimp only
      have tt := (TurnG.refl (fun x => x = nb) wr).drew.trans t5
      have J5 : Hid (AgainJ ⟨gk, gm, gz, gs, gt, go⟩ L (oL Q5)) := by show AgainJ _ _ _; rw [e5]; exact J3.out
      have D5 := hidK C5
      have B5 := hidK (hB.out.drew.trans (t5.below (fun y hy => by rw [hy]; exact LN.out) hB.out.size))
      have R5 := hidK (RR.out w5 tt)
      have S5 := SF.out w5 tt
      refine koH hK S5 fun hHeld => ?_
      clear hK K' e5 t5 tt C5 J3 RR SF hC hB hR
      refine tkH 18 ?_
      refine wpAnyH_done (by kernel_rfl) ?_ _
      clear hHeld
      obtain ⟨s0, s1, s2, s3⟩ := S5
      clear s0 s1 s2
      by_cases hst : st = []
      · obtain rfl : X = 0 := J2.out hst
        have l0 : st.length = 0 := by rw [hst]; rfl
        rw [l0] at s3
        clear J1 J2 hst
        go_wp2
        go_roundw
        case rel => exact ⟨r + 1, Q5, by omega, by go_num, D5, J5, B5, R5⟩
        case measure => simp [intOf]; omega
      · obtain rfl : X = 1 := J1.out hst
        have l0 : (st.length : Int) > 0 := by
          have : 0 < st.length := List.length_pos_iff.2 hst
          omega
        have l1 : decide (0 < st.length) = true := decide_eq_true (by omega)
        clear J1 J2 hst
        go_wp2
        go_roundw
        case rel => exact ⟨r + 1, Q5, by omega, by go_num, D5, J5, B5, R5⟩
        case measure => simp [intOf]; omega
    · obtain rfl : r = N.length := by omega
      have hge : ¬ (N.length : Int) < (N.length : Int) := by omega
      clear hC hJ hR
      go_wp2
      go_ret
      exact ⟨rfl, hB.out⟩

/-! ### THE ROW's STEP: WRITTEN OUT: LEAVE IT -/
set_option maxRecDepth 100000 in
set_option maxHeartbeats 2000000 in
theorem lifted (os : Os) (started : os.Started) (H : Type) (enc : TypeId × Value → H) :
    ReturnsInHanded {} Try.checked os 3 .any (Rows.catalogAgainSpec.pre6 enc Try.prog Try.f3 Rows.catalogAgainRow.domain false) (Rows.catalogAgainSpec.post enc Try.prog Try.f3 false true false false) := by
  refine returnsInHanded_of_change (C := Try.checked) own started (by kernel_rfl) Try.func3
    (ChangeSpec.witness6 (enc := enc) (C := Try.checked) false ⟨#[], #[.agg #[.int .i64 0, .int .i64 0, .int .i64 0, .int .i64 0, .int .i64 0, .int .i64 0], .slice none 0 0], []⟩ 8 (by kernel_rfl) (by kernel_rfl) (by kernel_rfl) (by kernel_rfl)) ?_
  intro W base args ds gs before hval0 hW hcnd _
  have hval : ∀ (j : Nat) t v, Try.f3.params[j]? = some t → args[j]? = some v → Value.okWide Try.prog W .any base t v := hval0
  have hW' := hW
  obtain ⟨p, q, hA0, hV, rfl, hfz, hnd⟩ := hW
  have hA : DataW.TrodAll enc Try.prog W 0 (fun _ => true) true Try.f3.params.toList args.toList ds p := hA0
  rw [Try.params3] at hA hval
  obtain ⟨v0, vs0, d0, ds0, p0, q0, hargs, rfl, rfl, h0, r0⟩ := trodAll_cons hA
  obtain ⟨v1, vs1, d1, ds1, p1, q1, rfl, rfl, rfl, h1, r1⟩ := trodAll_cons r0
  obtain ⟨rfl, rfl, rfl⟩ := trodAll_nil r1
  obtain rfl : args = #[v0, v1] := by cases args; simp_all
  obtain ⟨rfl, rfl⟩ := trodVars_none hV
  have k0 := h0
  have lt0 : ∀ x ∈ p0, x.block < W.heap.size := by obtain ⟨m, hm⟩ := k0; exact DataW.trod_lt m _ _ _ hm
  obtain ⟨c0, rfl, w0⟩ := open_geo Try.underlying23 (by kernel_rfl) rfl rfl rfl rfl rfl rfl (by kernel_rfl) (by kernel_rfl) (by kernel_rfl) (by kernel_rfl) (by kernel_rfl) (by kernel_rfl) (by kernel_rfl) (by kernel_rfl) (by kernel_rfl) (by kernel_rfl) (by kernel_rfl) (by kernel_rfl) (hval 0 23 v0 rfl rfl) h0
  obtain ⟨a1, len1, cap1, rfl⟩ := okWide_slice Try.underlying24 (hval 1 24 v1 rfl rfl)
  have k1 := h1
  have lt1 : ∀ x ∈ p1, x.block < W.heap.size := by obtain ⟨m, hm⟩ := k1; exact DataW.trod_lt m _ _ _ hm
  obtain ⟨z1, w1⟩ : ∃ zs, RdC19 W (.slice a1 len1 cap1) zs := by
    obtain ⟨fuel, hf⟩ := h1
    obtain ⟨a9, l9, c9, L9, hcs, _, hR⟩ := open_kcalls (si := 3) Try.underlying24 Try.underlying54 (by kernel_rfl) rfl rfl rfl (by kernel_rfl) (by kernel_rfl) (by kernel_rfl) (by kernel_rfl) (by kernel_rfl) Try.underlying41 rfl rfl rfl rfl (by kernel_rfl) (by kernel_rfl) (by kernel_rfl) (by kernel_rfl) (by kernel_rfl) (by kernel_rfl) (by kernel_rfl) (by kernel_rfl) (by kernel_rfl) (by kernel_rfl) hf
    simp [Value.cells] at hcs
    obtain ⟨rfl, rfl, rfl⟩ := hcs
    exact ⟨L9, hR⟩
  clear hA0 hval0
  refine (walk c0 a1 len1 cap1 z1 W w0 w1).mono fun e W' ⟨he, bel⟩ => ?_
  subst he
  exact ⟨_, rfl, _, _, _, [], _, [], hW', trodAll_mk1 (shut_bool Try.underlying4 _), (trodAll_cons_mk (Below.trod laidOut (by kernel_rfl) (of_decide_eq_true (by kernel_rfl)) k0 bel lt0) (trodAll_cons_mk (Below.trod laidOut (by kernel_rfl) (of_decide_eq_true (by kernel_rfl)) k1 bel lt1) trodAll_mk0)), rfl, bel.frame _, fun h => by cases h⟩

theorem over : Rows.catalogAgainRow.holds Try.pinned (OpenSpec.ofChange Rows.catalogAgainSpec) :=
  OpenClaim.holds_of_wide 3 Try.f3 rfl rfl rfl rfl rfl rfl rfl ⟨rfl, rfl, rfl, rfl, rfl⟩ rfl rfl rfl rfl rfl (by kernel_rfl) Try.func3 (by kernel_rfl)
    (of_decide_eq_true (by kernel_rfl)) (by unfold Func.isWrapper; first | (rw [if_pos (by decide +kernel)]; kernel_rfl) | (rw [if_neg (by decide +kernel)]; exact ⟨rfl, rfl⟩))
    (fun os started H enc _ => lifted os started H enc)

/-- ████ THE STATEMENT ████ -/
theorem proved : Rows.CatalogAgainSaid := over
end Go.Proofs.Ytndlfmofjmieaab.catalogAgain
namespace Go.Proofs.Ytndlfmofjmieaab
theorem catalogAgain_holds : Rows.CatalogAgainSaid := catalogAgain.proved
#print axioms catalogAgain_holds
end Go.Proofs.Ytndlfmofjmieaab
