/- TEXTS JOINED: CtCN, CtCH, CtCl. -/
import Derived.Test.YtndlfmofjmieaabTome10
import Derived.Deep.Grids
namespace Go.Proofs.Ytndlfmofjmieaab.Gf
set_option linter.unusedVariables false
set_option linter.unusedSimpArgs false
open Go.RowKit
open Go.Maps (Keyed)
def NoB : Nat → Prop := fun _ => False
def NewC19 (w : World) (g : GeoS) (LV : List ObV) (X : Int) (e : Ending) (w' : World) : Prop :=
  (X = 0 ∧ ∃ cb mb M, e = .returned (.tuple #[.pointer (some ⟨cb, 0, none⟩), .int .i64 0]) ∧ neCL g [] (oL LV) = some (oL M) ∧ CatI w' cb mb g M NoB ∧ w.heap.size ≤ cb ∧ w.heap.size ≤ mb ∧ Below w.heap.size w w') ∨ (¬ X = 0 ∧ e = .returned (.tuple #[.pointer none, .int .i64 X]) ∧ Below w.heap.size w w')
theorem CatI.start {w w1 w2 : World} {g : GeoS} (hg : okG g) (gw : g.Wf) {b : Nat} (hb : b = w.heap.size) (h1 : w1 = w.alloc (.map #[] 0)) (h2 : w2 = w1.alloc (.cells #[.int .i64 g.k, .int .i64 g.m, .int .i64 g.z, .int .i64 g.s, .int .i64 g.t, .int .i64 g.o, .map (some b)] 62)) : CatI w2 w1.heap.size b g [] NoB ∧ Below w.heap.size w w2 := by
  subst hb
  have zc : ∀ j, w2.cell? ⟨w1.heap.size, j, none⟩ = (#[Value.int .i64 g.k, .int .i64 g.m, .int .i64 g.z, .int .i64 g.s, .int .i64 g.t, .int .i64 g.o, .map (some w.heap.size)] : Array Value)[j]? := fun j => by rw [h2]; exact World.cell?_alloc_new _ _ _ _
  have b1 : Below w.heap.size w w1 := by rw [h1]; exact belL _ _
  have b2 : Below w1.heap.size w1 w2 := by rw [h2]; exact belL _ _
  have m1 : MapS Try.prog 9 w1 w.heap.size (fun _ => none) := by rw [h1]; exact MapS.made _ _ _
  refine ⟨⟨⟨zc 0, zc 1, zc 2, zc 3, zc 4, zc 5⟩, zc 6, (m1.below b2).congr fun x => rfl, (fun c hc => by cases hc), InvC.nil hg, hg, gw, by rw [h2]; simp, (fun c hc => by cases hc), fun q hq => hq.elim, fun q => q, fun q => q⟩, b1.stepL b2 b1.size⟩
set_option maxRecDepth 100000 in
set_option maxHeartbeats 4000000 in
theorem cnew19_any {w : World} {g : GeoS} (hgw : g.Wf) {va : Option Addr} {vc : Nat} {LV : List ObV} (hv : RdO w (.slice va LV.length vc) LV) (ll : LV.length ≤ 1000) {X : Int} (hX : neCX g (oL LV) = X) :
    Calls Try.prog 8 #[aggG g, .slice va LV.length vc] w (NewC19 w g LV X) := by
  obtain ⟨cx, hcx⟩ : ∃ x, Hid (chG g = x) := ⟨_, rfl⟩
  have KC := fun V => @lcheck_any V g hgw _ hcx.out
  have HX1 : Hid (¬ cx = 0 → X = cx) := fun q => by
    rw [← hX, ← hcx.out]
    unfold neCX
    by_cases k : okG g
    · exact absurd (by rw [← hcx.out]; exact if_pos k) q
    · rw [if_pos k]; exact (if_neg k).symm
  have HOK : Hid (cx = 0 → okG g) := fun q => by
    by_cases k : okG g
    · exact k
    · have h : chG g = 50 := if_neg k
      rw [hcx.out, q] at h
      cases h
  have HN : Hid (okG g → (neCL g [] (oL LV) = none ∨ g.o < (LV.length : Int)) → X = 1) := fun q q2 => by
    rw [← hX]
    unfold neCX
    rw [if_neg (fun w => w q), oL_length]
    by_cases k : g.o < (LV.length : Int)
    · rw [if_pos k]
    · rw [if_neg k, if_pos (q2.resolve_right k)]
  have HY : Hid (okG g → (LV.length : Int) ≤ g.o → ∀ L, neCL g [] (oL LV) = some L → X = 0) := fun q q2 L e => by
    rw [← hX]
    unfold neCX
    rw [if_neg (fun w => w q), oL_length, if_neg (by omega), if_neg (by rw [e]; exact fun w => by cases w)]
  have HV := hidK hv
  have HG := hidK hgw
  have T3 : Hid (∀ V, Below (w.alloc (.cells (cellsG g) 23)).heap.size (w.alloc (.cells (cellsG g) 23)) V → GeoAt V w.heap.size g ∧ Below w.heap.size w V) := geo_laid w g 23
  clear hX hcx hv hgw
  obtain ⟨k, m, z, s, t, o⟩ := g
  obtain ⟨W, hW⟩ : ∃ W, W = w.alloc (.cells #[.int .i64 k, .int .i64 m, .int .i64 z, .int .i64 s, .int .i64 t, .int .i64 o] 23) := ⟨_, rfl⟩
  have T4 : Hid (∀ V, Below W.heap.size W V → GeoAt V w.heap.size ⟨k, m, z, s, t, o⟩ ∧ Below w.heap.size w V) := by rw [hW]; exact T3
  rw [aggE] at KC ⊢
  obtain ⟨⟨y0, y1, y2, y3, y4, y5⟩, _⟩ := T4.out W (Below.refl _ _)
  simp only at y0 y1 y2 y3 y4 y5
  clear T3
  have hmm := @run_makeMap Try.prog
  go_enter Try.func8, Try.ntmps8
  go_wp2_with fail
  rw [← hW]
  clear hW
  refine (KC _).mono ?_
  clear KC y0 y1 y2 y3 y4 y5
  rintro _ w1 ⟨rfl, b1⟩
  obtain ⟨⟨y0, y1, y2, y3, y4, y5⟩, BW⟩ := T4.out w1 b1
  simp only at y0 y1 y2 y3 y4 y5
  by_cases hx : cx = 0
  rotate_left
  · have q1 : (cx == 0) = false := beq_eq_false_iff_ne.2 hx
    have q2 : (cx != 0) = true := by simp [bne, q1]
    have F : Hid (NewC19 w ⟨k, m, z, s, t, o⟩ LV X (.returned (.tuple #[.pointer none, .int .i64 cx])) w1) := by
      have e := HX1.out hx
      rw [e]
      exact Or.inr ⟨hx, rfl, BW⟩
    clear HX1 HN HY HOK T4 BW hmm
    go_wp2
    exact bodyPost_ret (v := .tuple #[.pointer none, .int .i64 cx]) (by simp [results, Try.results8, go_sem]) rfl F.out
  subst hx
  have OK := hidK (HOK.out rfl)
  have N1 := hidK (HN.out OK.out)
  have Y1 := hidK (HY.out OK.out)
  clear HX1 HN HY HOK T4 b1
  go_wp2_with fail
  obtain ⟨w2, hw2⟩ : ∃ x, x = w1.alloc (.map #[] 0) := ⟨_, rfl⟩
  obtain ⟨w3, hw3⟩ : ∃ x, x = w2.alloc (.cells #[.int .i64 k, .int .i64 m, .int .i64 z, .int .i64 s, .int .i64 t, .int .i64 o, .map (some w1.heap.size)] 62) := ⟨_, rfl⟩
  obtain ⟨mb, hmb⟩ : ∃ x, x = w1.heap.size := ⟨_, rfl⟩
  obtain ⟨C3, B3⟩ := CatI.start (w2 := w3) (g := ⟨k, m, z, s, t, o⟩) OK.out HG.out hmb hw2 (by rw [hmb]; exact hw3)
  have e2 : w2.heap.size = w1.heap.size + 1 := by rw [hw2]; simp
  obtain ⟨cb, hcb⟩ : ∃ x, x = w1.heap.size + 1 := ⟨_, rfl⟩
  rw [e2, ← hcb] at C3
  have BW3 := hidK (BW.stepL B3 BW.size)
  have LB : Hid (w.heap.size ≤ cb ∧ w.heap.size ≤ mb) := by
    have := BW.size
    exact ⟨by rw [hcb]; omega, by rw [hmb]; exact this⟩
  have CI3 := hidK C3
  rw [← hw2, ← hw3, ← hcb, ← hmb]
  clear hw2 hw3 hcb hmb e2 C3 B3 BW y0 y1 y2 y3 y4 y5 hmm
  go_loopw [21] (fun i wr => ∃ (r : Nat) (M : List ObV), r ≤ LV.length ∧ i = .int .i64 (r : Int) ∧ Hid (neCL ⟨k, m, z, s, t, o⟩ [] (oL (LV.take r)) = some (oL M)) ∧ Hid (CatI wr cb mb ⟨k, m, z, s, t, o⟩ M NoB) ∧ Hid (Below w.heap.size w wr) ∧ Hid (M.length = r)) (fun i _ => LV.length - (intOf i).toNat)
  case atStart => exact ⟨0, [], Nat.zero_le _, rfl, rfl, CI3.out, BW3.out, rfl⟩
  case round =>
    clear CI3 BW3
    obtain ⟨r, M, hr, rfl, hN, hC, hB, hL⟩ := hrel
    by_cases hlt : r < LV.length
    · have hlt' : (r : Int) < (LV.length : Int) := by omega
      obtain ⟨b, off, ea, hb, cz⟩ := (HV.out.below hB.out).at hlt
      subst ea
      obtain ⟨ST1, ST2⟩ := ne_step (g := ⟨k, m, z, s, t, o⟩) hlt hN.out
      generalize LV.getD r default = c at cz ST1 ST2
      have OKc := cz.ok19
      obtain ⟨⟨ky, ln, ep, st⟩, vs⟩ := c
      obtain ⟨sa, sc, esv⟩ := cz.rs.form
      simp only at esv ST1 ST2
      subst esv
      have S1 := hidK ST1
      have S2 := hidK ST2
      have z0 : wr.cell? ⟨b, off + r * 4, none⟩ = some (.string ⟨ky.toArray⟩) := cz.c0
      have z1 : wr.cell? ⟨b, off + r * 4 + 1, none⟩ = some (.int .i64 ln) := cz.c1
      have z2 : wr.cell? ⟨b, off + r * 4 + 2, none⟩ = some (.int .i64 ep) := cz.c2
      have z3 : wr.cell? ⟨b, off + r * 4 + 3, none⟩ = some (.slice sa st.length sc) := cz.c3
      obtain ⟨V, hV⟩ : ∃ V, V = wr.alloc (.cells #[.string ⟨ky.toArray⟩, .int .i64 ln, .int .i64 ep, .slice sa st.length sc] 39) := ⟨_, rfl⟩
      have TV : Hid (∀ X, Below V.heap.size V X → Below wr.heap.size wr X ∧ X.cell? ⟨wr.heap.size, 0, none⟩ = some (.string ⟨ky.toArray⟩) ∧ X.cell? ⟨wr.heap.size, 1, none⟩ = some (.int .i64 ln) ∧ X.cell? ⟨wr.heap.size, 2, none⟩ = some (.int .i64 ep) ∧ X.cell? ⟨wr.heap.size, 3, none⟩ = some (.slice sa st.length sc) ∧ ∀ j, X.frozen? ⟨wr.heap.size, j, none⟩ = false) := by rw [hV]; exact box4 _ _ _ _ _ _
      have BV := (TV.out V (Below.refl _ _)).1
      obtain ⟨hs, hhs⟩ : ∃ x, Hid ((finV M ky).isSome = x) := ⟨_, rfl⟩
      obtain ⟨px, hpx⟩ : ∃ x, Hid (puX ⟨k, m, z, s, t, o⟩ (oL M) ⟨ky, ln, ep, st⟩ = x) := ⟨_, rfl⟩
      have K1 := chas19_any (hC.out.below BV) OKc.ky hhs.out
      have OKH := hidK OKc
      clear cz hb ST1 ST2 OKc BV
      go_wp2_with fail
      rw [← hV]
      clear hV
      refine K1.mono ?_
      clear K1 z0 z1 z2 z3
      rintro _ w4 ⟨rfl, b4⟩
      obtain ⟨B4, q0, q1, q2, q3, _⟩ := TV.out w4 b4
      cases hs with
      | true =>
        have nf : ¬ finK (oL M) ky = none := fun q => by
          have h1 := hhs.out
          rw [finV_none.2 q] at h1
          cases h1
        obtain rfl := N1.out (Or.inl (S2.out fun q => nf q.2))
        have F : Hid (NewC19 w ⟨k, m, z, s, t, o⟩ LV 1 (.returned (.tuple #[.pointer none, .int .i64 1])) w4) := Or.inr ⟨by decide, rfl, hB.out.stepL B4 hB.out.size⟩
        clear S1 S2 N1 Y1 TV hC hB hN hL hhs hpx nf b4 B4 OKH
        go_wp2
        exact bodyPost_ret (v := .tuple #[.pointer none, .int .i64 1]) (by simp [results, Try.results8, go_sem]) rfl F.out
      | false =>
      have nf : finK (oL M) ky = none := finV_none.1 (by
        have h1 := hhs.out
        cases e : finV M ky with
        | none => rfl
        | some c => rw [e] at h1; cases h1)
      have NF := hidK nf
      have K2 := cput19_any (c := ⟨⟨ky, ln, ep, st⟩, .slice sa st.length sc⟩) (hC.out.below B4) (OKH.out.bel B4) hpx.out
      have BB := hidK (hB.out.stepL B4 hB.out.size)
      clear nf b4 B4 TV hhs
      go_wp2_with fail
      refine K2.mono ?_
      clear K2 q0 q1 q2 q3
      rintro _ w5 ⟨M5, rfl, C5, e5, t5⟩
      have B5 := hidK (BB.out.trans (t5.below (fun y hy => by rw [hy]; exact LB.out.2) BB.out.size))
      by_cases hp : px = 0
      rotate_left
      · have q1 : (px == 0) = false := beq_eq_false_iff_ne.2 hp
        have q2 : (px != 0) = true := by simp [bne, q1]
        have XX : X = 1 := by
          by_cases rm : finK (oL M) (⟨ky, ln, ep, st⟩ : ObS).key ≠ none ∨ ((oL M).length : Int) < o
          · by_cases f : fitC ⟨k, m, z, s, t, o⟩ (oL M) ⟨ky, ln, ep, st⟩
            · exact absurd (hpx.out.symm.trans (puX_ok rm f)) hp
            · exact N1.out (Or.inl (S2.out fun q => f q.1))
          · refine N1.out (Or.inr ?_)
            have h1 : ¬ ((oL M).length : Int) < o := fun q => rm (Or.inr q)
            rw [oL_length, hL.out] at h1
            show o < _
            omega
        subst XX
        have F : Hid (NewC19 w ⟨k, m, z, s, t, o⟩ LV 1 (.returned (.tuple #[.pointer none, .int .i64 1])) w5) := Or.inr ⟨by decide, rfl, B5.out⟩
        clear S1 S2 N1 Y1 hC hB hN hL hpx NF C5 e5 t5 OKH BB
        go_wp2
        exact bodyPost_ret (v := .tuple #[.pointer none, .int .i64 1]) (by simp [results, Try.results8, go_sem]) rfl F.out
      · subst hp
        rw [if_pos rfl] at e5
        have FT : fitC ⟨k, m, z, s, t, o⟩ (oL M) ⟨ky, ln, ep, st⟩ := by
          by_cases f : fitC ⟨k, m, z, s, t, o⟩ (oL M) ⟨ky, ln, ep, st⟩
          · exact f
          · exfalso
            have h1 := hpx.out
            unfold puX at h1
            by_cases rm : finK (oL M) (⟨ky, ln, ep, st⟩ : ObS).key ≠ none ∨ ((oL M).length : Int) < o
            · rw [if_neg (fun q => q rm), if_pos f] at h1; cases h1
            · rw [if_pos rm] at h1; cases h1
        have NN : Hid (neCL ⟨k, m, z, s, t, o⟩ [] (oL (LV.take (r + 1))) = some (oL M5)) := by
          show _ = _
          rw [e5]
          exact S1.out ⟨FT, NF.out⟩
        have L5 : Hid (M5.length = r + 1) := by
          show _ = _
          have h1 := congrArg List.length e5
          rw [oL_length, wiC_length hC.out.inv.rise, if_pos NF.out, oL_length, hL.out] at h1
          exact h1
        have C6 := hidK C5
        clear S1 S2 hC hB hN hL hpx NF C5 e5 t5 OKH BB FT
        go_wp2
        go_roundw
        case rel => exact ⟨r + 1, M5, by omega, by go_num, NN, C6, B5, L5⟩
        case measure => simp [intOf]; omega
    · obtain rfl : r = LV.length := by omega
      have hge : ¬ (LV.length : Int) < (LV.length : Int) := by omega
      have e := hN.out
      rw [List.take_length] at e
      have XX : X = 0 := Y1.out (by have := hC.out.few.1; rw [hL.out] at this; exact this) _ e
      subst XX
      have F : Hid (NewC19 w ⟨k, m, z, s, t, o⟩ LV 0 (.returned (.tuple #[.pointer (some ⟨cb, 0, none⟩), .int .i64 0])) wr) := Or.inl ⟨rfl, cb, mb, M, rfl, e, hC.out, LB.out.1, LB.out.2, hB.out⟩
      clear N1 Y1 hN hC hB hL e
      go_wp2
      exact bodyPost_ret (v := .tuple #[.pointer (some ⟨cb, 0, none⟩), .int .i64 0]) (by simp [results, Try.results8, go_sem]) rfl F.out
end Go.Proofs.Ytndlfmofjmieaab.Gf

namespace Go.Proofs.Ytndlfmofjmieaab.Gf
set_option linter.unusedVariables false
set_option linter.unusedSimpArgs false
open Go.RowKit
set_option maxRecDepth 100000 in
set_option maxHeartbeats 2000000 in
theorem capply19_any {w : World} {cb mb : Nat} {g : GeoS} {LV : List ObV} {P : Nat → Prop} (h : CatI w cb mb g LV P) {c : RcV} (hc : c.In w) {ep : Int} (he : (Lit.int .i64 ep).wf = true) {X : Int} {L : List ObS} (hX : apCX g (oL LV) c.r ep = X) (hL : apCS g (oL LV) c.r ep = L) :
    Calls Try.prog 11 #[.pointer (some ⟨cb, 0, none⟩), aggR c, .int .i64 ep] w (Put19 w cb mb g P X L) := by
  obtain ⟨⟨kd, ky, ln, st⟩, vs⟩ := c
  have HC := hidK hc
  obtain ⟨sa, sc, e⟩ := hc.rs.form
  simp only at e hX hL
  subst e
  have H := hidK h
  clear h hc
  obtain ⟨ck, hck⟩ : ∃ z, Hid (chR ⟨kd, ky, ln, st⟩ = z) := ⟨_, rfl⟩
  have KC : ∀ V, Below w.heap.size w V → Calls Try.prog 28 #[.agg #[.int .i64 kd, .string ⟨ky.toArray⟩, .int .i64 ln, .slice sa st.length sc]] V fun e w' => e = .returned (.int .i64 ck) ∧ Below V.heap.size V w' := fun V bV =>
    chk16_any (c := ⟨⟨kd, ky, ln, st⟩, .slice sa st.length sc⟩) (HC.out.below bV) hck.out
  have CKO : ck = 0 ↔ OkR ⟨kd, ky, ln, st⟩ := by
    rw [← hck.out]
    unfold chR
    by_cases q : OkR ⟨kd, ky, ln, st⟩
    · rw [if_pos q]; exact ⟨fun _ => q, fun _ => rfl⟩
    · rw [if_neg q]; exact ⟨fun k => absurd k (by decide), fun k => absurd k q⟩
  have KD : ∀ V, Below w.heap.size w V → Calls Try.prog 29 #[.pointer (some ⟨cb, 0, none⟩), .string ⟨ky.toArray⟩] V (Leaves19 V cb mb g P (if finV LV ky = none then 193 else 0) (deV LV ky)) := fun V bV => cdrop19_any (H.out.below bV) HC.out.ky rfl
  have KP : ∀ V, Below w.heap.size w V → Calls Try.prog 24 #[.pointer (some ⟨cb, 0, none⟩), .agg #[.string ⟨ky.toArray⟩, .int .i64 ln, .int .i64 ep, .slice sa st.length sc]] V (Put19 V cb mb g P (puX g (oL LV) ⟨ky, ln, ep, st⟩) (if puX g (oL LV) ⟨ky, ln, ep, st⟩ = 0 then wiC (oL LV) ⟨ky, ln, ep, st⟩ else oL LV)) := fun V bV => by
    have hV := HC.out.below bV
    exact cput19_any (c := ⟨⟨ky, ln, ep, st⟩, .slice sa st.length sc⟩) (H.out.below bV) ⟨hV.wl, he, hV.ky, hV.rs, hV.wi⟩ rfl
  have A1 : Hid (¬ ck = 0 → X = 1 ∧ oL LV = L) := fun q => by
    have e : apCX g (oL LV) ⟨kd, ky, ln, st⟩ ep = 1 := by unfold apCX; rw [if_pos fun k => q (CKO.2 k)]
    refine ⟨hX.symm.trans e, ?_⟩
    rw [← hL]
    unfold apCS
    rw [e, if_neg (by decide)]
  have A2 : Hid (ck = 0 → kd = 2 → X = (if finV LV ky = none then 193 else 0) ∧ oL (deV LV ky) = L) := fun q q2 => by
    have ok := CKO.1 q
    have e : apCX g (oL LV) ⟨kd, ky, ln, st⟩ ep = if finV LV ky = none then 193 else 0 := by
      unfold apCX
      rw [if_neg (fun k => k ok), if_pos q2]
      by_cases z : finV LV ky = none
      · rw [if_pos z, if_pos (finV_none.1 z)]
      · rw [if_neg z, if_neg (fun k => z (finV_none.2 k))]
    refine ⟨hX.symm.trans e, ?_⟩
    rw [← hL, oL_deV]
    unfold apCS
    rw [e]
    by_cases z : finV LV ky = none
    · rw [if_pos z, if_neg (by decide), ← oL_deV, deV_none z]
    · rw [if_neg z, if_pos rfl, if_pos q2]
  have A3 : Hid (ck = 0 → ¬ kd = 2 → X = puX g (oL LV) ⟨ky, ln, ep, st⟩ ∧ (if puX g (oL LV) ⟨ky, ln, ep, st⟩ = 0 then wiC (oL LV) ⟨ky, ln, ep, st⟩ else oL LV) = L) := fun q q2 => by
    have ok := CKO.1 q
    have e : apCX g (oL LV) ⟨kd, ky, ln, st⟩ ep = puX g (oL LV) ⟨ky, ln, ep, st⟩ := by
      by_cases z : finK (oL LV) ky = none ∧ g.o ≤ ((oL LV).length : Int)
      · rw [puX_room (o := ⟨ky, ln, ep, st⟩) (by rintro (k | k); exact k z.1; have := z.2; omega)]
        unfold apCX
        rw [if_neg (fun k => k ok), if_neg q2, if_pos z]
      · have y : finK (oL LV) (⟨ky, ln, ep, st⟩ : ObS).key ≠ none ∨ ((oL LV).length : Int) < g.o := by
          by_cases y : finK (oL LV) ky = none
          · exact Or.inr (by have : ¬ g.o ≤ ((oL LV).length : Int) := fun a => z ⟨y, a⟩; omega)
          · exact Or.inl y
        unfold apCX
        rw [if_neg (fun k => k ok), if_neg q2, if_neg z]
        by_cases f : fitC g (oL LV) ⟨ky, ln, ep, st⟩
        · rw [puX_ok y f]; exact if_neg (fun k => k f)
        · rw [puX_fit y f]; exact if_pos f
    refine ⟨hX.symm.trans e, ?_⟩
    rw [← hL]
    unfold apCS
    rw [e, if_neg q2]
    rfl
  obtain ⟨pX, hpX⟩ : ∃ z, z = puX g (oL LV) ⟨ky, ln, ep, st⟩ := ⟨_, rfl⟩
  obtain ⟨pL, hpL⟩ : ∃ z, z = (if puX g (oL LV) ⟨ky, ln, ep, st⟩ = 0 then wiC (oL LV) ⟨ky, ln, ep, st⟩ else oL LV) := ⟨_, rfl⟩
  obtain ⟨dX, hdX⟩ : ∃ z : Int, z = (if finV LV ky = none then 193 else 0) := ⟨_, rfl⟩
  rw [← hpL, ← hpX] at KP A3
  rw [← hdX] at KD A2
  clear hpX hpL hdX CKO hX hL hck
  obtain ⟨W, hW⟩ : ∃ W, W = w.alloc (.cells #[.int .i64 kd, .string ⟨ky.toArray⟩, .int .i64 ln, .slice sa st.length sc] 41) := ⟨_, rfl⟩
  have TA : Hid (∀ V, Below W.heap.size W V → Below w.heap.size w V ∧ V.cell? ⟨w.heap.size, 0, none⟩ = some (.int .i64 kd) ∧ V.cell? ⟨w.heap.size, 1, none⟩ = some (.string ⟨ky.toArray⟩) ∧ V.cell? ⟨w.heap.size, 2, none⟩ = some (.int .i64 ln) ∧ V.cell? ⟨w.heap.size, 3, none⟩ = some (.slice sa st.length sc) ∧ ∀ j, V.frozen? ⟨w.heap.size, j, none⟩ = false) := by rw [hW]; exact box4 _ _ _ _ _ _
  have K1 := KC W (TA.out W (Below.refl _ _)).1
  clear KC
  show Calls Try.prog 11 #[.pointer (some ⟨cb, 0, none⟩), .agg #[.int .i64 kd, .string ⟨ky.toArray⟩, .int .i64 ln, .slice sa st.length sc], .int .i64 ep] w _
  go_enter Try.func11, Try.ntmps11
  go_wp2_with fail
  rw [← hW]
  clear hW
  refine K1.mono ?_
  clear K1
  rintro _ w2 ⟨rfl, b2⟩
  obtain ⟨B2, q0, q1, q2, q3, _⟩ := TA.out w2 b2
  by_cases hck : ck = 0
  rotate_left
  · obtain ⟨rfl, e⟩ := A1.out hck
    have n1 : (ck == 0) = false := beq_eq_false_iff_ne.2 hck
    have n2 : (ck != 0) = true := by simp [bne, n1]
    have F : Hid (Put19 w cb mb g P 1 L (.returned (.int .i64 1)) w2) := ⟨LV, rfl, H.out.below B2, e, Below.turnG B2 _⟩
    clear A1 A2 A3 KD KP TA H HC b2 B2 q0 q1 q2 q3 e
    go_wp2
    go_ret
    exact F.out
  subst hck
  have BB := hidK B2
  by_cases hkd : kd = 2
  · obtain ⟨rfl, e⟩ := A2.out rfl hkd
    subst hkd
    have HE := hidK e
    have K2 := KD w2 B2
    clear A1 A2 A3 KD KP TA H HC b2 B2 q2 q3 e
    go_wp2_with fail
    refine K2.mono ?_
    clear K2
    rintro _ w3 ⟨rfl, C3, t3⟩
    have F : Hid (Put19 w cb mb g P X L (.returned (.int .i64 X)) w3) := ⟨_, rfl, C3, HE.out, (Below.turnG BB.out _).trans t3⟩
    clear C3 t3 q0 q1
    go_wp2
    go_ret
    exact F.out
  · obtain ⟨rfl, e⟩ := A3.out rfl hkd
    have HE := hidK e
    have n1 : (kd == 2) = false := beq_eq_false_iff_ne.2 hkd
    have K2 := KP w2 B2
    clear A1 A2 A3 KD KP TA H HC b2 B2 e
    go_wp2_with fail
    refine K2.mono ?_
    clear K2
    rintro _ w3 ⟨M, rfl, C3, e3, t3⟩
    have F : Hid (Put19 w cb mb g P X L (.returned (.int .i64 X)) w3) := ⟨M, rfl, C3, e3.trans HE.out, (Below.turnG BB.out _).trans t3⟩
    clear C3 t3 q0 q1 q2 q3 e3
    go_wp2
    go_ret
    exact F.out
end Go.Proofs.Ytndlfmofjmieaab.Gf

namespace Go.Proofs.Ytndlfmofjmieaab.Gf
set_option linter.unusedVariables false
set_option linter.unusedSimpArgs false
open Go.RowKit
open Go.ChangeShapes
structure CallK where
  kind : Int
  r : RcV
  ep : Int
instance : Inhabited CallK := ⟨⟨0, default, 0⟩⟩
structure CallAtK (w : World) (b off : Nat) (x : CallK) : Prop where
  s0 : w.cell? ⟨b, off, none⟩ = some (.int .i64 x.kind)
  s1 : w.cell? ⟨b, off + 1, none⟩ = some (.int .i64 x.r.r.kind)
  s2 : w.cell? ⟨b, off + 2, none⟩ = some (sv x.r.r.key)
  s3 : w.cell? ⟨b, off + 3, none⟩ = some (.int .i64 x.r.r.len)
  s4 : w.cell? ⟨b, off + 4, none⟩ = some x.r.vs
  s5 : w.cell? ⟨b, off + 5, none⟩ = some (.int .i64 x.ep)
  wk : (Lit.int .i64 x.kind).wf = true
  we : (Lit.int .i64 x.ep).wf = true
  rr : x.r.In w
theorem CallAtK.below {w w' : World} {b off : Nat} {x : CallK} (h : CallAtK w b off x) (hb : b < w.heap.size) (hw : Below w.heap.size w w') : CallAtK w' b off x := by
  have k : ∀ j, w'.cell? ⟨b, j, none⟩ = w.cell? ⟨b, j, none⟩ := fun j => hw.cell (p := ⟨b, j, none⟩) hb
  exact ⟨(k _).trans h.s0, (k _).trans h.s1, (k _).trans h.s2, (k _).trans h.s3, (k _).trans h.s4, (k _).trans h.s5, h.wk, h.we, h.rr.below hw⟩
def RdC19 (w : World) (v : Value) (L : List CallK) : Prop :=
  (∃ ao cap, L = [] ∧ v = .slice ao 0 cap) ∨ (∃ b off cap, L ≠ [] ∧ v = .slice (some ⟨b, off, none⟩) L.length cap ∧ L.length ≤ maxLen ∧ b < w.heap.size ∧ ∀ i, i < L.length → CallAtK w b (off + i * 6) (L.getD i default))
theorem RdC19.below {w w' : World} {v : Value} {L : List CallK} (h : RdC19 w v L) (hb : Below w.heap.size w w') : RdC19 w' v L := by
  rcases h with h | ⟨b, off, cap, h1, h2, h3, h5, h6⟩
  · exact Or.inl h
  · exact Or.inr ⟨b, off, cap, h1, h2, h3, Nat.lt_of_lt_of_le h5 hb.size, fun i hi => (h6 i hi).below h5 hb⟩
theorem RdC19.form {w : World} {v : Value} {L : List CallK} (h : RdC19 w v L) : ∃ a c, v = .slice a L.length c := by
  rcases h with ⟨a, c, rfl, rfl⟩ | ⟨b, off, c, _, rfl, _⟩
  · exact ⟨a, c, rfl⟩
  · exact ⟨_, c, rfl⟩
theorem RdC19.lenEq {w : World} {a : Option Addr} {len cap : Nat} {L : List CallK} (h : RdC19 w (.slice a len cap) L) : len = L.length := by
  obtain ⟨_, _, e⟩ := h.form
  simp at e
  exact e.2.1
theorem RdC19.at {w : World} {a : Option Addr} {c : Nat} {L : List CallK} (h : RdC19 w (.slice a L.length c) L) {k : Nat} (hk : k < L.length) : ∃ b off, a = some ⟨b, off, none⟩ ∧ b < w.heap.size ∧ CallAtK w b (off + k * 6) (L.getD k default) := by
  rcases h with ⟨_, _, h1, _⟩ | ⟨b, off, c, h1, h2, h3, h4, h5⟩
  · rw [h1] at hk; simp at hk
  · simp at h2
    exact ⟨b, off, h2.1, h4, h5 k hk⟩
theorem six19 {cs : List Value} (h : cs.length = 6) : ∃ v0 v1 v2 v3 v4 v5, cs = [v0, v1, v2, v3, v4, v5] := by
  match cs, h with
  | [a, b, c, d, e, f], _ => exact ⟨a, b, c, d, e, f, rfl⟩
section
variable {H : Type} {enc : TypeId × Value → H} {P : Program} {w : World} {base : Nat} {held : Bool}
/-- a record within a struct -/
theorem open_rcell19 {t si : TypeId} {f0 f1 f2 f3 : Field} {fuel : Nat} {cs : List Value} {x : DataW H × List MemPlace} (he : P.underlying t = some (.struct #[f0, f1, f2, f3])) (ce : P.cellsOf t = 4)
    (o0 : f0.offset = 0) (o1 : f1.offset = 1) (o2 : f2.offset = 2) (o3 : f3.offset = 3)
    (t0 : P.underlying f0.type = some (.int .i64)) (t1 : P.underlying f1.type = some .string) (t2 : P.underlying f2.type = some (.int .i64)) (t3 : P.underlying f3.type = some (.slice si)) (ti : P.underlying si = some (.int .i64)) (ci : P.cellsOf si = 1)
    (n0 : P.cellsOf f0.type = 1) (n1 : P.cellsOf f1.type = 1) (n2 : P.cellsOf f2.type = 1) (n3 : P.cellsOf f3.type = 1)
    (hf : DataW.trod enc P w base (fun _ => true) held fuel t cs = some x) : ∃ c : RcV, cs = [.int .i64 c.r.kind, sv c.r.key, .int .i64 c.r.len, c.vs] ∧ c.In w := by
  obtain ⟨xs, n', _, _, hlen, hxl, hfd⟩ := DataW.trod_struct he hf
  rw [ce] at hlen
  obtain ⟨v0, v1, v2, v3, rfl⟩ := four16 hlen
  have hxl' : xs.length = 4 := hxl
  have g : ∀ k, k < 4 → ∃ y, xs[k]? = some y := fun k hk => ⟨xs[k], List.getElem?_eq_getElem (by omega)⟩
  obtain ⟨y0, e0⟩ := g 0 (by omega)
  obtain ⟨y1, e1⟩ := g 1 (by omega)
  obtain ⟨y2, e2⟩ := g 2 (by omega)
  obtain ⟨y3, e3⟩ := g 3 (by omega)
  have q0 := hfd 0 f0 rfl
  have q1 := hfd 1 f1 rfl
  have q2 := hfd 2 f2 rfl
  have q3 := hfd 3 f3 rfl
  rw [o0, n0, e0] at q0
  rw [o1, n1, e1] at q1
  rw [o2, n2, e2] at q2
  rw [o3, n3, e3] at q3
  obtain ⟨z0, r0, _, w0⟩ := DataW.trod_int t0 q0
  obtain ⟨s, r1, _, ls⟩ := DataW.trod_string t1 q1
  obtain ⟨z2, r2, _, w2⟩ := DataW.trod_int t2 q2
  simp at r0 r1 r2
  subst r0 r1 r2
  obtain ⟨pk, hk, hw⟩ := open_ints16 t3 ti ci q3
  exact ⟨⟨⟨z0, s.data.toList, z2, pk⟩, v3⟩, rfl, w0, w2, by simpa using ls, hk, hw⟩
/-- an argument that is a script of calls on a catalog -/
theorem open_kcalls {t e si : TypeId} {e0 e1 e2 r0 r1 r2 r3 : Field} {fuel : Nat} {cs : List Value} {x : DataW H × List MemPlace} (ht : P.underlying t = some (.slice e)) (he : P.underlying e = some (.struct #[e0, e1, e2])) (ce : P.cellsOf e = 6)
    (p0 : e0.offset = 0) (p1 : e1.offset = 1) (p2 : e2.offset = 5)
    (u0 : P.underlying e0.type = some (.int .i64)) (u2 : P.underlying e2.type = some (.int .i64))
    (m0 : P.cellsOf e0.type = 1) (m1 : P.cellsOf e1.type = 4) (m2 : P.cellsOf e2.type = 1)
    (hr : P.underlying e1.type = some (.struct #[r0, r1, r2, r3])) (ro0 : r0.offset = 0) (ro1 : r1.offset = 1) (ro2 : r2.offset = 2) (ro3 : r3.offset = 3) (rt0 : P.underlying r0.type = some (.int .i64)) (rt1 : P.underlying r1.type = some .string) (rt2 : P.underlying r2.type = some (.int .i64)) (rt3 : P.underlying r3.type = some (.slice si)) (ti : P.underlying si = some (.int .i64)) (ci : P.cellsOf si = 1) (rn0 : P.cellsOf r0.type = 1) (rn1 : P.cellsOf r1.type = 1) (rn2 : P.cellsOf r2.type = 1) (rn3 : P.cellsOf r3.type = 1)
    (h : DataW.trod enc P w base (fun _ => true) held fuel t cs = some x) : ∃ a len cap L, cs = [.slice a len cap] ∧ len = L.length ∧ RdC19 w (.slice a len cap) L := by
  rcases Go.Deep.open_slice ht h with ⟨rfl, _⟩ | ⟨a, len, cap, m, n, D, Pl, rfl, hb, hl, hm, hmm, rfl, hx⟩
  · exact ⟨none, 0, 0, [], rfl, rfl, Or.inl ⟨none, 0, rfl, rfl⟩⟩
  simp only [if_true] at hmm
  by_cases hl0 : len = 0
  · subst hl0
    exact ⟨some a, 0, cap, [], rfl, rfl, Or.inl ⟨_, _, rfl, rfl⟩⟩
  obtain ⟨bb, off, spot⟩ := a
  have hspot : spot = none := by
    obtain ⟨cs', h1, _⟩ := hx 0 (by omega)
    rw [ce] at h1
    have hc := World.cells?_some h1
    have h2 := hc.2.2 0 (by omega)
    obtain ⟨v, hv⟩ : ∃ v, cs'[0]? = some v := ⟨cs'[0]'(by omega), List.getElem?_eq_getElem (by omega)⟩
    rw [hv] at h2
    have := World.cell?_spot h2
    simpa [Addr.add] using this
  subst hspot
  have each : ∀ i, i < len → ∃ c : CallK, CallAtK w bb (off + i * 6) c := by
    intro i hi
    obtain ⟨cs', h1, h2⟩ := hx i (by omega)
    obtain ⟨xs, n', _, _, hlen, hxl, hf⟩ := DataW.trod_struct he h2
    rw [ce] at hlen h1
    obtain ⟨v0, v1, v2, v3, v4, v5, rfl⟩ := six19 hlen
    have hxl' : xs.length = 3 := hxl
    have g : ∀ k, k < 3 → ∃ y, xs[k]? = some y := fun k hk => ⟨xs[k], List.getElem?_eq_getElem (by omega)⟩
    obtain ⟨y0, q0e⟩ := g 0 (by omega)
    obtain ⟨y1, q1e⟩ := g 1 (by omega)
    obtain ⟨y2, q2e⟩ := g 2 (by omega)
    have q0 := hf 0 e0 rfl
    have q1 := hf 1 e1 rfl
    have q2 := hf 2 e2 rfl
    rw [p0, m0, q0e] at q0
    rw [p1, m1, q1e] at q1
    rw [p2, m2, q2e] at q2
    obtain ⟨z0, k0, _, w0⟩ := DataW.trod_int u0 q0
    obtain ⟨z2, k2, _, w2⟩ := DataW.trod_int u2 q2
    simp at k0 k2
    subst k0 k2
    obtain ⟨rc, hc4, hin⟩ := open_rcell19 hr m1 ro0 ro1 ro2 ro3 rt0 rt1 rt2 rt3 ti ci rn0 rn1 rn2 rn3 q1
    simp at hc4
    obtain ⟨rfl, rfl, rfl, rfl⟩ := hc4
    obtain ⟨hbase, _, hc⟩ := World.cells?_some h1
    have kk : ∀ k, k < 6 → w.cell? ⟨bb, off + i * 6 + k, none⟩ = [Value.int .i64 z0, .int .i64 rc.r.kind, sv rc.r.key, .int .i64 rc.r.len, rc.vs, .int .i64 z2][k]? := by
      intro k hk
      have := hc k hk
      rw [Go.Deep.add_add, add_at, ← Nat.add_assoc] at this
      exact this
    exact ⟨⟨z0, rc, z2⟩, kk 0 (by omega), kk 1 (by omega), kk 2 (by omega), kk 3 (by omega), kk 4 (by omega), kk 5 (by omega), w0, w2, hin⟩
  obtain ⟨F, hF⟩ := Go.Deep.choose_lt each
  have hlen : ((List.range len).map F).length = len := by simp
  refine ⟨some ⟨bb, off, none⟩, len, cap, (List.range len).map F, rfl, hlen.symm, ?_⟩
  have hc0 := (hF 0 (by omega)).s0
  have hbw : bb < w.heap.size := by
    unfold World.cell? at hc0
    by_cases hb : bb < w.heap.size
    · exact hb
    · rw [Array.getElem?_eq_none (by show w.heap.size ≤ bb; omega)] at hc0; cases hc0
  refine Or.inr ⟨bb, off, cap, fun e => by rw [e] at hlen; simp at hlen; omega, by rw [hlen], by rw [hlen]; omega, hbw, fun i hi => ?_⟩
  rw [hlen] at hi
  have e1 : ((List.range len).map F).getD i default = F i := by simp [List.getD, hi]
  rw [e1]
  exact hF i hi
end
end Go.Proofs.Ytndlfmofjmieaab.Gf
