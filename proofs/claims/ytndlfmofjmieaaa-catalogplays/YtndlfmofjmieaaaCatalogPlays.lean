/- PROVED: for every geometry g, every list of objects l and every script of calls the call CatalogPlays(g, l, script) returns true, and its arguments read behind it as before; no conditions. -/
import Derived.ProofKit
import Derived.ShutString
import Derived.ChangeOld
import Derived.Test.YtndlfmofjmieaaaPome24
namespace Go.Proofs.Ytndlfmofjmieaaa.catalogPlays
open Go.ChangeShapes Go.WideShapes Go.ChangeAt Go.RowKit
open Go.ChangeMaps (open_string shut_string)
set_option linter.unusedVariables false

theorem own : ownKnob Try.prog.godebug = none := by kernel_rfl
theorem laidOut : laidOutB Try.prog = true := by kernel_rfl

/-- WHAT THE WALK IS TOLD OF A SLICE OF INTEGERS THAT CAME IN: it is nil; or it leads to a row of 'cap' cells, the numbers 'zs' (the first 'len' are its elements, the rest its spare room), each fitting its kind. -/
def IsRow (k : IntKind) (w : World) (a : Option Addr) (len cap : Nat) (zs : List Int) : Prop :=
  (a = none ∧ len = 0 ∧ cap = 0 ∧ zs = []) ∨
  ∃ x, a = some x ∧ len ≤ cap ∧ cap ≤ maxLen ∧ zs.length = cap ∧ (∀ i, i < zs.length → w.cell? (x.add i) = some (.int k (zs.getD i 0))) ∧ ∀ n ∈ zs, (Lit.int k n).wf = true

open Gf
set_option linter.unusedSimpArgs false
theorem cp_neX {g : GeoS} {L : List ObS} (h : ¬ chG g = 0) : ¬ neCX g L = 0 := by
  unfold neCX
  by_cases k : okG g
  · exact absurd (if_pos k) h
  · rw [if_pos k]; decide
theorem cp_start {w u4 u5 : World} {cb mb rb : Nat} {g : GeoS} {Z M N : List ObV} {L : List ObS} {v : Value} {r : Nat} (hr : r ≤ 100) (hz : ∀ x ∈ Z, ObOk u4 x) (hs : ∀ x ∈ Z, x.o.st.length ≤ 1000) (b : Below w.heap.size w u4) (C : CatI u4 cb mb g M NoB) (lm : w.heap.size ≤ mb) (eM : neCL g [] (oL Z) = some (oL M)) (eL : neCL g [] (oL Z) = some L) (h : CatN u4 u5 rb g Z L v N r) : BothC w u5 cb mb rb g := by
  refine ⟨M, N, v, C.avoid h.be (fun q e => by rw [e]; exact h.le) (fun q e => by rw [e]; exact h.lt), CatR.start h hr hz hs, ?_, b.stepL h.be b.size, lm, Nat.le_trans b.size h.le⟩
  rw [h.eq]
  rw [eM] at eL
  exact (Option.some.inj eL).symm
theorem cp_st {N LV : List ObV} (e : oL N = oL LV) (h : ∀ c ∈ LV, c.o.st.length ≤ 256 ∧ c.o.key.length ≤ 64 ∧ 1 ≤ c.o.key.length) : ∀ i, i < N.length → (N.getD i default).o.st.length ≤ 1000000 := fun i hi => by
  have hm : (N.getD i default).o ∈ oL N := by
    rw [show N.getD i default = N[i] by simp [List.getD, hi]]
    exact List.mem_map_of_mem (List.getElem_mem hi)
  rw [e] at hm
  obtain ⟨c, hc, e2⟩ := List.mem_map.1 hm
  rw [← e2]
  exact Nat.le_trans (h c hc).1 (by decide)

set_option maxRecDepth 100000 in
set_option maxHeartbeats 4000000 in
theorem walk (c0 : GeoS) (a1 : Option Addr) (len1 cap1 : Nat) (z1 : List ObV) (a2 : Option Addr) (len2 cap2 : Nat) (z2 : List CallK) (w : World) (w0 : c0.Wf) (w1 : RdO w (.slice a1 len1 cap1) z1) (w2 : RdC19 w (.slice a2 len2 cap2) z2) :
    Calls Try.prog 4 #[aggG c0, .slice a1 len1 cap1, .slice a2 len2 cap2] w fun e w' => e = .returned (.bool true) ∧ Below w.heap.size w w' := by
  obtain rfl := w1.lenEq
  obtain rfl := w2.lenEq
  have HL := hidK w1
  have HV := hidK w2
  have HG := hidK w0
  obtain ⟨cx, hcx⟩ : ∃ x, Hid (chG c0 = x) := ⟨_, rfl⟩
  have KC := fun V => @lcheck_any V c0 w0 _ hcx.out
  have T3 : Hid (∀ V, Below (w.alloc (.cells (cellsG c0) 24)).heap.size (w.alloc (.cells (cellsG c0) 24)) V → GeoAt V w.heap.size c0 ∧ Below w.heap.size w V) := geo_laid w c0 24
  obtain ⟨X, hX⟩ : ∃ X, Hid (neCX c0 (oL z1) = X) := ⟨_, rfl⟩
  have XN : Hid (¬ cx = 0 → ¬ X = 0) := fun q => by
    rw [← hX.out]
    exact cp_neX (by rw [hcx.out]; exact q)
  clear w0 w1 w2 hcx
  obtain ⟨gk, gm, gz, gs, gt, go⟩ := c0
  obtain ⟨W, hW⟩ : ∃ W, W = w.alloc (.cells #[.int .i64 gk, .int .i64 gm, .int .i64 gz, .int .i64 gs, .int .i64 gt, .int .i64 go] 24) := ⟨_, rfl⟩
  have T4 : Hid (∀ V, Below W.heap.size W V → GeoAt V w.heap.size ⟨gk, gm, gz, gs, gt, go⟩ ∧ Below w.heap.size w V) := by rw [hW]; exact T3
  have KN1 : Hid (∀ V, Below w.heap.size w V → z1.length ≤ 70 → Calls Try.prog 12 #[aggG ⟨gk, gm, gz, gs, gt, go⟩, .slice a1 z1.length cap1] V (NewC19 V ⟨gk, gm, gz, gs, gt, go⟩ z1 X)) := fun V b q => cnew19_any HG.out (HL.out.below b) (by omega) hX.out
  have KN2 : Hid (∀ V, Below w.heap.size w V → z1.length ≤ 70 → LitT z1 z1.length → Calls Try.prog 13 #[aggG ⟨gk, gm, gz, gs, gt, go⟩, .slice a1 z1.length cap1] V (New19 V ⟨gk, gm, gz, gs, gt, go⟩ z1 X)) := fun V b q t => rnew19_any HG.out (HL.out.below b) (by omega) (fun x hx => by
    obtain ⟨i, hi, e⟩ := List.getElem_of_mem hx
    have h := (t i hi).2
    rw [show z1.getD i default = z1[i] by simp [List.getD, hi], e] at h
    omega) hX.out
  rw [aggE] at KC KN1 KN2 ⊢
  clear T3
  go_enter Try.func4, Try.ntmps4
  go_wp2_with fail
  rw [← hW]
  clear hW
  refine cawake_any.mono ?_
  rintro _ u1 ⟨rfl, b1⟩
  have B1 := hidK b1
  have K := clittle19_any (HL.out.below (T4.out u1 b1).2)
  clear b1
  go_wp2_with fail
  refine K.mono ?_
  clear K
  rintro _ u2 ⟨lb, rfl, hlit, b2⟩
  have B2 := hidK (B1.out.stepL b2 B1.out.size)
  have G2 := hidK (T4.out u2 B2.out).2
  clear b2 B1
  cases lb with
  | false =>
    clear T4 HV HG HL KC KN1 KN2 hlit B2
    go_wp2
    go_ret
    exact ⟨rfl, G2.out⟩
  | true =>
  obtain ⟨h70, hT0⟩ := hlit rfl
  have hT := hidK hT0
  clear hlit hT0
  obtain ⟨⟨y0, y1, y2, y3, y4, y5⟩, _⟩ := T4.out u2 B2.out
  simp only at y0 y1 y2 y3 y4 y5
  have K := KC u2
  clear KC
  go_wp2_with fail
  refine K.mono ?_
  clear K y0 y1 y2 y3 y4 y5
  rintro _ u3 ⟨rfl, b3⟩
  have B3 := hidK (B2.out.stepL b3 B2.out.size)
  have G3 := hidK (T4.out u3 B3.out).2
  clear b3 B2 G2
  obtain ⟨⟨y0, y1, y2, y3, y4, y5⟩, _⟩ := T4.out u3 B3.out
  simp only at y0 y1 y2 y3 y4 y5
  by_cases hx : cx = 0
  rotate_left
  · have n1 : (cx == 0) = false := beq_eq_false_iff_ne.2 hx
    have NX := XN.out hx
    have n2 : (X == 0) = false := beq_eq_false_iff_ne.2 NX
    have K1 := KN1.out u3 G3.out h70
    clear KN1 XN HV HG HL hX
    go_wp2_with fail
    refine K1.mono ?_
    clear K1 y0 y1 y2 y3 y4 y5
    rintro _ u4 (⟨h, _⟩ | ⟨_, rfl, b4⟩)
    · exact absurd h NX
    have B4 := hidK (B3.out.stepL b4 B3.out.size)
    have G4 := hidK (T4.out u4 B4.out).2
    clear b4 B3 G3
    obtain ⟨⟨y0, y1, y2, y3, y4, y5⟩, _⟩ := T4.out u4 B4.out
    simp only at y0 y1 y2 y3 y4 y5
    have K2 := KN2.out u4 G4.out h70 hT.out
    clear KN2 hT
    go_wp2_with fail
    refine K2.mono ?_
    clear K2 y0 y1 y2 y3 y4 y5
    rintro _ u5 (⟨h, _⟩ | ⟨_, rfl, b5⟩)
    · exact absurd h NX
    have F := hidK (T4.out u5 (B4.out.stepL b5 B4.out.size)).2
    clear b5 B4 G4 T4
    go_wp2
    go_ret
    exact ⟨rfl, F.out⟩
  subst hx
  by_cases h40 : gs > 40
  · clear T4 HV HG HL KN1 KN2 hT XN hX B3
    go_wp2
    go_ret
    exact ⟨rfl, G3.out⟩
  have K1 := KN1.out u3 G3.out h70
  clear KN1 XN
  go_wp2_with fail
  refine K1.mono ?_
  clear K1 y0 y1 y2 y3 y4 y5
  rintro _ u4 (⟨hX0, cb, mb, M0, rfl, eM, C4, lc, lm, b4⟩ | ⟨NX, rfl, b4⟩)
  rotate_left
  · have n2 : (X == 0) = false := beq_eq_false_iff_ne.2 NX
    have B4 := hidK (B3.out.stepL b4 B3.out.size)
    have G4 := hidK (T4.out u4 B4.out).2
    clear b4 B3 G3
    obtain ⟨⟨y0, y1, y2, y3, y4, y5⟩, _⟩ := T4.out u4 B4.out
    simp only at y0 y1 y2 y3 y4 y5
    have K2 := KN2.out u4 G4.out h70 hT.out
    clear KN2 hT HV HG HL hX
    go_wp2_with fail
    refine K2.mono ?_
    clear K2 y0 y1 y2 y3 y4 y5
    rintro _ u5 (⟨h, _⟩ | ⟨_, rfl, b5⟩)
    · exact absurd h NX
    have F := hidK (T4.out u5 (B4.out.stepL b5 B4.out.size)).2
    clear b5 B4 G4 T4
    go_wp2
    go_ret
    exact ⟨rfl, F.out⟩
  subst hX0
  have LM : Hid (w.heap.size ≤ mb) := Nat.le_trans G3.out.size lm
  have CI4 := hidK C4
  have EM := hidK eM
  have B4 := hidK (B3.out.stepL b4 B3.out.size)
  have G4 := hidK (T4.out u4 B4.out).2
  clear b4 B3 G3 C4 lm lc eM
  obtain ⟨⟨y0, y1, y2, y3, y4, y5⟩, _⟩ := T4.out u4 B4.out
  simp only at y0 y1 y2 y3 y4 y5
  have K2 := KN2.out u4 G4.out h70 hT.out
  clear KN2
  go_wp2_with fail
  refine K2.mono ?_
  clear K2 y0 y1 y2 y3 y4 y5
  rintro _ u5 (⟨_, rb, L0, v0, N0, rfl, eL, CN⟩ | ⟨h, _⟩)
  rotate_left
  · exact absurd rfl h
  have START : Hid (BothC w u5 cb mb rb ⟨gk, gm, gz, gs, gt, go⟩) := cp_start (Nat.le_trans h70 (by decide)) (rdO_ok (HL.out.below G4.out)) (fun x hx => by
    obtain ⟨i, hi, e⟩ := List.getElem_of_mem hx
    have h := (hT.out i hi).2
    rw [show z1.getD i default = z1[i] by simp [List.getD, hi], e] at h
    omega) G4.out CI4.out LM.out EM.out eL CN
  clear eL CN LM CI4 EM B4 G4 T4 HL HG hX hT
  go_wp2_with fail
  go_loopw [12] (fun iv wr => ∃ r : Nat, r ≤ 40 ∧ iv = .int .i64 (r : Int) ∧ Hid (BothC w wr cb mb rb ⟨gk, gm, gz, gs, gt, go⟩)) (fun iv _ => 40 - (intOf iv).toNat)
  case atStart => exact ⟨0, Nat.zero_le _, rfl, START.out⟩
  case round =>
    clear START
    obtain ⟨r, hr, rfl, hB⟩ := hrel
    have FB : Hid (Below w.heap.size w wr) := by
      obtain ⟨_, _, _, _, _, _, b, _⟩ := hB.out
      exact b
    by_cases hlt : r < z2.length
    rotate_left
    · have hge : ¬ (r : Int) < (z2.length : Int) := by omega
      clear hB HV
      go_wp2
      go_ret
      exact ⟨rfl, FB.out⟩
    have hlt' : (r : Int) < (z2.length : Int) := by omega
    by_cases h41 : r < 40
    rotate_left
    · have hge : ¬ (r : Int) < 40 := by omega
      clear hB HV
      go_wp2
      go_ret
      exact ⟨rfl, FB.out⟩
    have h41' : (r : Int) < 40 := by omega
    obtain ⟨b, off, ea, hb, cz⟩ := HV.out.at hlt
    subst ea
    obtain ⟨x, hx⟩ : ∃ x, z2.getD r default = x := ⟨_, rfl⟩
    rw [hx] at cz
    clear hx
    have CZ : Hid (∀ V, Below w.heap.size w V → CallAtK V b (off + r * 6) x) := fun V bV => cz.below hb bV
    obtain ⟨kd, ⟨⟨rk, ky, ln, st⟩, vs⟩, ep⟩ := x
    obtain ⟨sa, sc, es⟩ := cz.rr.rs.form
    simp only at es
    subst es
    have SF : Hid (∀ V, Below w.heap.size w V → V.cell? ⟨b, off + r * 6, none⟩ = some (.int .i64 kd) ∧ V.cell? ⟨b, off + r * 6 + 1, none⟩ = some (.int .i64 rk) ∧ V.cell? ⟨b, off + r * 6 + 2, none⟩ = some (.string ⟨ky.toArray⟩) ∧ V.cell? ⟨b, off + r * 6 + 3, none⟩ = some (.int .i64 ln) ∧ V.cell? ⟨b, off + r * 6 + 4, none⟩ = some (.slice sa st.length sc) ∧ V.cell? ⟨b, off + r * 6 + 5, none⟩ = some (.int .i64 ep)) := fun V bV => by
      have q := CZ.out V bV
      exact ⟨q.s0, q.s1, q.s2, q.s3, q.s4, q.s5⟩
    obtain ⟨sm, hsm⟩ : ∃ y, Hid (smK ⟨kd, ⟨⟨rk, ky, ln, st⟩, .slice sa st.length sc⟩, ep⟩ = y) := ⟨_, rfl⟩
    have K2 := csmall19_any (x := ⟨kd, ⟨⟨rk, ky, ln, st⟩, .slice sa st.length sc⟩, ep⟩) (cz.rr.below FB.out) hsm.out
    rw [show aggK ⟨kd, ⟨⟨rk, ky, ln, st⟩, .slice sa st.length sc⟩, ep⟩ = .agg #[.int .i64 kd, .int .i64 rk, .string ⟨ky.toArray⟩, .int .i64 ln, .slice sa st.length sc, .int .i64 ep] from rfl] at K2
    obtain ⟨q0, q1, q2, q3, q4, q5⟩ := SF.out wr FB.out
    clear cz
    go_wp2_with fail
    refine K2.mono ?_
    clear K2 q0 q1 q2 q3 q4 q5
    rintro _ w3 ⟨rfl, b3⟩
    have B3 := hidK (hB.out.below b3)
    have F3 := hidK (FB.out.stepL b3 FB.out.size)
    clear b3 hB FB
    cases sm with
    | false =>
      clear SF CZ hsm HV F3
      go_wp2
      go_roundw
      case rel => exact ⟨r + 1, by omega, by go_num, B3⟩
      case measure => simp [intOf]; omega
    | true =>
    have CC := CZ.out _ F3.out
    have K3 := cdid_any B3.out (by show gs ≤ 40; omega) (x := ⟨kd, ⟨⟨rk, ky, ln, st⟩, .slice sa st.length sc⟩, ep⟩) CC.rr CC.cp CC.we hsm.out
    rw [show aggK ⟨kd, ⟨⟨rk, ky, ln, st⟩, .slice sa st.length sc⟩, ep⟩ = .agg #[.int .i64 kd, .int .i64 rk, .string ⟨ky.toArray⟩, .int .i64 ln, .slice sa st.length sc, .int .i64 ep] from rfl] at K3
    obtain ⟨q0, q1, q2, q3, q4, q5⟩ := SF.out w3 F3.out
    clear CC CZ SF hsm F3 B3
    go_wp2_with fail
    refine K3.mono ?_
    clear K3 q0 q1 q2 q3 q4 q5
    rintro _ w4 ⟨rfl, B4⟩
    have BH := hidK B4
    obtain ⟨LV, MV, v, hC, hR, hm, b4, lm, lr⟩ := B4
    obtain ⟨va, vc, ev, _⟩ := hR.ow.form19
    subst ev
    have bd : Below w4.heap.size w4 w4.drew := (Below.refl _ _).drew
    have KA := hidK (call19_any (hC.below bd))
    have C6 : Hid (∀ V, Below w4.heap.size w4 V → V.cell? ⟨rb, 6, none⟩ = some (.slice va MV.length vc)) := fun V b => (hR.below b).c6
    have KO : Hid (∀ V (N : List ObV) (oa : Option Addr) (oc : Nat), Below w4.heap.size w4 V → RdO V (.slice oa N.length oc) N → oL N = oL LV → Calls Try.prog 16 #[.slice oa N.length oc, .slice va MV.length vc] V (Says16 (oL N = oL MV) V)) := fun V N oa oc bV hN e => by
      have l1 : N.length ≤ 64 := by
        have h1 := hC.few.2
        have h2 := congrArg List.length e
        rw [oL_length, oL_length] at h2
        omega
      exact robjs16_any hN ((hR.below bV).cat.ro) (by omega) (cp_st e hC.sts) (cp_st hm hC.sts)
    have EO : Hid (∀ N : List ObV, oL N = oL LV → oL N = oL MV ∧ N.length ≤ 64) := fun N e => ⟨e.trans hm.symm, by
      have h1 := hC.few.2
      have h2 := congrArg List.length e
      rw [oL_length, oL_length] at h2
      omega⟩
    have BD := hidK bd
    have CD := C6.out _ bd
    clear hC hR hm b4 lm lr bd
    go_wp2_with fail
    refine wp_region_held_drew (S := fun V => V.cell? ⟨rb, 6, none⟩ = some (.slice va MV.length vc)) (by kernel_rfl) CD (fun hHeld => ?_)
    clear CD
    refine tkH 0 ?_
    refine tkH 2 ?_
    refine tkH 3 ?_
    refine tkH 4 ?_
    refine tkH 5 ?_
    refine rnH 1 (fun K' hK => ?_)
    go_simp
    go_at_call 17
    refine KA.out.mono ?_
    clear KA
    rintro _ w5 ⟨vl, N, rfl, oN, eN, b5⟩
    obtain ⟨eN2, lN⟩ := EO.out N eN
    obtain ⟨oa, oc, ev, _⟩ := oN.form19'
    subst ev
    dsimp only
    have B5 := hidK (BD.out.stepL b5 BD.out.size)
    have K4 := hidK (KO.out w5 N oa oc B5.out (oN.rd (by omega)) eN)
    have EN := hidK eN2
    refine koH hK (C6.out w5 B5.out) fun hHeld => ?_
    clear hK K' b5 oN eN eN2 KO EO BD
    refine rnH 6 (fun K' hK => ?_)
    go_simp
    go_at_call 16
    refine K4.out.mono ?_
    clear K4
    rintro _ w6 ⟨bs, rfl, hbs, b6⟩
    obtain rfl : bs = true := hbs.2 EN.out
    dsimp only
    have B6 := hidK (B5.out.stepL b6 B5.out.size)
    refine koH hK (C6.out w6 B6.out) fun hHeld => ?_
    clear hK K' b6 B5 EN hbs C6
    refine tkH 7 ?_
    refine wpAnyH_done (by kernel_rfl) ?_ _
    clear hHeld
    have BB := hidK (BH.out.below B6.out)
    clear BH B6
    obtain ⟨LV2, MV2, v2, hC2, hR2, hm2, _⟩ := BB.out
    obtain ⟨fr, hfr⟩ : ∃ z, (frC ⟨gk, gm, gz, gs, gt, go⟩ (oL LV2) : Int) = z := ⟨_, rfl⟩
    have K5 := cfrees19_any hC2 hfr
    have KR : Hid (∀ V, Below w6.heap.size w6 V → Calls Try.prog 19 #[.pointer (some ⟨rb, 0, none⟩)] V fun e w' => e = .returned (.int .i64 fr) ∧ Below V.heap.size V w') := fun V bV => rfree19_any (hR2.below bV).cat (by show gs ≤ 1000000; omega) (by rw [hm2]; exact hfr)
    clear hC2 hR2 hm2 hfr
    go_wp2_with fail
    refine K5.mono ?_
    clear K5
    rintro _ w7 ⟨rfl, b7⟩
    have K6 := KR.out w7 b7
    have B7 := hidK b7
    clear KR b7
    go_wp2_with fail
    refine K6.mono ?_
    clear K6
    rintro _ w8 ⟨rfl, b8⟩
    have B8 := hidK (BB.out.below (B7.out.stepL b8 B7.out.size))
    clear b8 B7 BB
    go_wp2
    go_roundw
    case rel => exact ⟨r + 1, by omega, by go_num, B8⟩
    case measure => simp [intOf]; omega

/-! ### THE ROW's STEP: WRITTEN OUT: LEAVE IT -/
set_option maxRecDepth 100000 in
set_option maxHeartbeats 2000000 in
theorem lifted (os : Os) (started : os.Started) (H : Type) (enc : TypeId × Value → H) :
    ReturnsInHanded {} Try.checked os 4 .any (Rows.catalogPlaysSpec.pre6 enc Try.prog Try.f4 Rows.catalogPlaysRow.domain false) (Rows.catalogPlaysSpec.post enc Try.prog Try.f4 false true false false) := by
  refine returnsInHanded_of_change (C := Try.checked) own started (by kernel_rfl) Try.func4
    (ChangeSpec.witness6 (enc := enc) (C := Try.checked) false ⟨#[], #[.agg #[.int .i64 0, .int .i64 0, .int .i64 0, .int .i64 0, .int .i64 0, .int .i64 0], .slice none 0 0, .slice none 0 0], []⟩ 8 (by kernel_rfl) (by kernel_rfl) (by kernel_rfl) (by kernel_rfl)) ?_
  intro W base args ds gs before hval0 hW hcnd _
  have hval : ∀ (j : Nat) t v, Try.f4.params[j]? = some t → args[j]? = some v → Value.okWide Try.prog W .any base t v := hval0
  have hW' := hW
  obtain ⟨p, q, hA0, hV, rfl, hfz, hnd⟩ := hW
  have hA : DataW.TrodAll enc Try.prog W 0 (fun _ => true) true Try.f4.params.toList args.toList ds p := hA0
  rw [Try.params4] at hA hval
  obtain ⟨v0, vs0, d0, ds0, p0, q0, hargs, rfl, rfl, h0, r0⟩ := trodAll_cons hA
  obtain ⟨v1, vs1, d1, ds1, p1, q1, rfl, rfl, rfl, h1, r1⟩ := trodAll_cons r0
  obtain ⟨v2, vs2, d2, ds2, p2, q2, rfl, rfl, rfl, h2, r2⟩ := trodAll_cons r1
  obtain ⟨rfl, rfl, rfl⟩ := trodAll_nil r2
  obtain rfl : args = #[v0, v1, v2] := by cases args; simp_all
  obtain ⟨rfl, rfl⟩ := trodVars_none hV
  have k0 := h0
  have lt0 : ∀ x ∈ p0, x.block < W.heap.size := by obtain ⟨m, hm⟩ := k0; exact DataW.trod_lt m _ _ _ hm
  obtain ⟨c0, rfl, w0⟩ := open_geo Try.underlying24 (by kernel_rfl) rfl rfl rfl rfl rfl rfl (by kernel_rfl) (by kernel_rfl) (by kernel_rfl) (by kernel_rfl) (by kernel_rfl) (by kernel_rfl) (by kernel_rfl) (by kernel_rfl) (by kernel_rfl) (by kernel_rfl) (by kernel_rfl) (by kernel_rfl) (hval 0 24 v0 rfl rfl) h0
  obtain ⟨a1, len1, cap1, rfl⟩ := okWide_slice Try.underlying25 (hval 1 25 v1 rfl rfl)
  have k1 := h1
  have lt1 : ∀ x ∈ p1, x.block < W.heap.size := by obtain ⟨m, hm⟩ := k1; exact DataW.trod_lt m _ _ _ hm
  obtain ⟨z1, w1⟩ : ∃ zs, RdO W (.slice a1 len1 cap1) zs := by
    obtain ⟨fuel, hf⟩ := h1
    obtain ⟨a9, l9, c9, L9, hcs, _, hR⟩ := open_objs (si := 3) Try.underlying25 Try.underlying52 (by kernel_rfl) rfl rfl rfl rfl (by kernel_rfl) (by kernel_rfl) (by kernel_rfl) (by kernel_rfl) (by kernel_rfl) (by kernel_rfl) (by kernel_rfl) (by kernel_rfl) (by kernel_rfl) (by kernel_rfl) hf
    simp [Value.cells] at hcs
    obtain ⟨rfl, rfl, rfl⟩ := hcs
    exact ⟨L9, hR⟩
  obtain ⟨a2, len2, cap2, rfl⟩ := okWide_slice Try.underlying26 (hval 2 26 v2 rfl rfl)
  have k2 := h2
  have lt2 : ∀ x ∈ p2, x.block < W.heap.size := by obtain ⟨m, hm⟩ := k2; exact DataW.trod_lt m _ _ _ hm
  obtain ⟨z2, w2⟩ : ∃ zs, RdC19 W (.slice a2 len2 cap2) zs := by
    obtain ⟨fuel, hf⟩ := h2
    obtain ⟨a9, l9, c9, L9, hcs, _, hR⟩ := open_kcalls (si := 3) Try.underlying26 Try.underlying41 (by kernel_rfl) rfl rfl rfl (by kernel_rfl) (by kernel_rfl) (by kernel_rfl) (by kernel_rfl) (by kernel_rfl) Try.underlying39 rfl rfl rfl rfl (by kernel_rfl) (by kernel_rfl) (by kernel_rfl) (by kernel_rfl) (by kernel_rfl) (by kernel_rfl) (by kernel_rfl) (by kernel_rfl) (by kernel_rfl) (by kernel_rfl) hf
    simp [Value.cells] at hcs
    obtain ⟨rfl, rfl, rfl⟩ := hcs
    exact ⟨L9, hR⟩
  clear hA0 hval0
  refine (walk c0 a1 len1 cap1 z1 a2 len2 cap2 z2 W w0 w1 w2).mono fun e W' ⟨he, bel⟩ => ?_
  subst he
  exact ⟨_, rfl, _, _, _, [], _, [], hW', trodAll_mk1 (shut_bool Try.underlying4 _), (trodAll_cons_mk (Below.trod laidOut (by kernel_rfl) (of_decide_eq_true (by kernel_rfl)) k0 bel lt0) (trodAll_cons_mk (Below.trod laidOut (by kernel_rfl) (of_decide_eq_true (by kernel_rfl)) k1 bel lt1) (trodAll_cons_mk (Below.trod laidOut (by kernel_rfl) (of_decide_eq_true (by kernel_rfl)) k2 bel lt2) trodAll_mk0))), rfl, bel.frame _, fun h => by cases h⟩

theorem over : Rows.catalogPlaysRow.holds Try.pinned (OpenSpec.ofChange Rows.catalogPlaysSpec) :=
  OpenClaim.holds_of_wide 4 Try.f4 rfl rfl rfl rfl rfl rfl rfl ⟨rfl, rfl, rfl, rfl, rfl⟩ rfl rfl rfl rfl rfl (by kernel_rfl) Try.func4 (by kernel_rfl)
    (of_decide_eq_true (by kernel_rfl)) (by unfold Func.isWrapper; first | (rw [if_pos (by decide +kernel)]; kernel_rfl) | (rw [if_neg (by decide +kernel)]; exact ⟨rfl, rfl⟩))
    (fun os started H enc _ => lifted os started H enc)

/-- ████ THE STATEMENT ████ -/
theorem proved : Rows.CatalogPlaysSaid := over
end Go.Proofs.Ytndlfmofjmieaaa.catalogPlays
namespace Go.Proofs.Ytndlfmofjmieaaa
theorem catalogPlays_holds : Rows.CatalogPlaysSaid := catalogPlays.proved
#print axioms catalogPlays_holds
end Go.Proofs.Ytndlfmofjmieaaa
