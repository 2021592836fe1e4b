/- TEXTS JOINED: CtCN, CtCI. -/
import Derived.Test.YtndlfmofjmieaaaTome9
namespace Go.Proofs.Ytndlfmofjmieaaa.Gf
set_option linter.unusedVariables false
set_option linter.unusedSimpArgs false
open Go.RowKit
open Go.Maps (Keyed)
def NoB : Nat → Prop := fun _ => False
def NewC19 (w : World) (g : GeoS) (LV : List ObV) (X : Int) (e : Ending) (w' : World) : Prop :=
  (X = 0 ∧ ∃ cb mb M, e = .returned (.tuple #[.pointer (some ⟨cb, 0, none⟩), .int .i64 0]) ∧ neCL g [] (oL LV) = some (oL M) ∧ CatI w' cb mb g M NoB ∧ w.heap.size ≤ cb ∧ w.heap.size ≤ mb ∧ Below w.heap.size w w') ∨ (¬ X = 0 ∧ e = .returned (.tuple #[.pointer none, .int .i64 X]) ∧ Below w.heap.size w w')
theorem CatI.start {w w1 w2 : World} {g : GeoS} (hg : okG g) (gw : g.Wf) {b : Nat} (hb : b = w.heap.size) (h1 : w1 = w.alloc (.map #[] 0)) (h2 : w2 = w1.alloc (.cells #[.int .i64 g.k, .int .i64 g.m, .int .i64 g.z, .int .i64 g.s, .int .i64 g.t, .int .i64 g.o, .map (some b)] 72)) : CatI w2 w1.heap.size b g [] NoB ∧ Below w.heap.size w w2 := by
  subst hb
  have zc : ∀ j, w2.cell? ⟨w1.heap.size, j, none⟩ = (#[Value.int .i64 g.k, .int .i64 g.m, .int .i64 g.z, .int .i64 g.s, .int .i64 g.t, .int .i64 g.o, .map (some w.heap.size)] : Array Value)[j]? := fun j => by rw [h2]; exact World.cell?_alloc_new _ _ _ _
  have b1 : Below w.heap.size w w1 := by rw [h1]; exact belL _ _
  have b2 : Below w1.heap.size w1 w2 := by rw [h2]; exact belL _ _
  have m1 : MapS Try.prog 9 w1 w.heap.size (fun _ => none) := by rw [h1]; exact MapS.made _ _ _
  refine ⟨⟨⟨zc 0, zc 1, zc 2, zc 3, zc 4, zc 5⟩, zc 6, (m1.below b2).congr fun x => rfl, (fun c hc => by cases hc), InvC.nil hg, hg, gw, by rw [h2]; simp, (fun c hc => by cases hc), fun q hq => hq.elim, fun q => q, fun q => q⟩, b1.stepL b2 b1.size⟩
set_option maxRecDepth 100000 in
set_option maxHeartbeats 4000000 in
theorem cnew19_any {w : World} {g : GeoS} (hgw : g.Wf) {va : Option Addr} {vc : Nat} {LV : List ObV} (hv : RdO w (.slice va LV.length vc) LV) (ll : LV.length ≤ 1000) {X : Int} (hX : neCX g (oL LV) = X) :
    Calls Try.prog 12 #[aggG g, .slice va LV.length vc] w (NewC19 w g LV X) := by
  obtain ⟨cx, hcx⟩ : ∃ x, Hid (chG g = x) := ⟨_, rfl⟩
  have KC := fun V => @lcheck_any V g hgw _ hcx.out
  have HX1 : Hid (¬ cx = 0 → X = cx) := fun q => by
    rw [← hX, ← hcx.out]
    unfold neCX
    by_cases k : okG g
    · exact absurd (by rw [← hcx.out]; exact if_pos k) q
    · rw [if_pos k]; exact (if_neg k).symm
  have HOK : Hid (cx = 0 → okG g) := fun q => by
    by_cases k : okG g
    · exact k
    · have h : chG g = 50 := if_neg k
      rw [hcx.out, q] at h
      cases h
  have HN : Hid (okG g → (neCL g [] (oL LV) = none ∨ g.o < (LV.length : Int)) → X = 1) := fun q q2 => by
    rw [← hX]
    unfold neCX
    rw [if_neg (fun w => w q), oL_length]
    by_cases k : g.o < (LV.length : Int)
    · rw [if_pos k]
    · rw [if_neg k, if_pos (q2.resolve_right k)]
  have HY : Hid (okG g → (LV.length : Int) ≤ g.o → ∀ L, neCL g [] (oL LV) = some L → X = 0) := fun q q2 L e => by
    rw [← hX]
    unfold neCX
    rw [if_neg (fun w => w q), oL_length, if_neg (by omega), if_neg (by rw [e]; exact fun w => by cases w)]
  have HV := hidK hv
  have HG := hidK hgw
  have T3 : Hid (∀ V, Below (w.alloc (.cells (cellsG g) 24)).heap.size (w.alloc (.cells (cellsG g) 24)) V → GeoAt V w.heap.size g ∧ Below w.heap.size w V) := geo_laid w g 24
  clear hX hcx hv hgw
  obtain ⟨k, m, z, s, t, o⟩ := g
  obtain ⟨W, hW⟩ : ∃ W, W = w.alloc (.cells #[.int .i64 k, .int .i64 m, .int .i64 z, .int .i64 s, .int .i64 t, .int .i64 o] 24) := ⟨_, rfl⟩
  have T4 : Hid (∀ V, Below W.heap.size W V → GeoAt V w.heap.size ⟨k, m, z, s, t, o⟩ ∧ Below w.heap.size w V) := by rw [hW]; exact T3
  rw [aggE] at KC ⊢
  obtain ⟨⟨y0, y1, y2, y3, y4, y5⟩, _⟩ := T4.out W (Below.refl _ _)
  simp only at y0 y1 y2 y3 y4 y5
  clear T3
  have hmm := @run_makeMap Try.prog
  go_enter Try.func12, Try.ntmps12
  go_wp2_with fail
  rw [← hW]
  clear hW
  refine (KC _).mono ?_
  clear KC y0 y1 y2 y3 y4 y5
  rintro _ w1 ⟨rfl, b1⟩
  obtain ⟨⟨y0, y1, y2, y3, y4, y5⟩, BW⟩ := T4.out w1 b1
  simp only at y0 y1 y2 y3 y4 y5
  by_cases hx : cx = 0
  rotate_left
  · have q1 : (cx == 0) = false := beq_eq_false_iff_ne.2 hx
    have q2 : (cx != 0) = true := by simp [bne, q1]
    have F : Hid (NewC19 w ⟨k, m, z, s, t, o⟩ LV X (.returned (.tuple #[.pointer none, .int .i64 cx])) w1) := by
      have e := HX1.out hx
      rw [e]
      exact Or.inr ⟨hx, rfl, BW⟩
    clear HX1 HN HY HOK T4 BW hmm
    go_wp2
    exact bodyPost_ret (v := .tuple #[.pointer none, .int .i64 cx]) (by simp [results, Try.results12, go_sem]) rfl F.out
  subst hx
  have OK := hidK (HOK.out rfl)
  have N1 := hidK (HN.out OK.out)
  have Y1 := hidK (HY.out OK.out)
  clear HX1 HN HY HOK T4 b1
  go_wp2_with fail
  obtain ⟨w2, hw2⟩ : ∃ x, x = w1.alloc (.map #[] 0) := ⟨_, rfl⟩
  obtain ⟨w3, hw3⟩ : ∃ x, x = w2.alloc (.cells #[.int .i64 k, .int .i64 m, .int .i64 z, .int .i64 s, .int .i64 t, .int .i64 o, .map (some w1.heap.size)] 72) := ⟨_, rfl⟩
  obtain ⟨mb, hmb⟩ : ∃ x, x = w1.heap.size := ⟨_, rfl⟩
  obtain ⟨C3, B3⟩ := CatI.start (w2 := w3) (g := ⟨k, m, z, s, t, o⟩) OK.out HG.out hmb hw2 (by rw [hmb]; exact hw3)
  have e2 : w2.heap.size = w1.heap.size + 1 := by rw [hw2]; simp
  obtain ⟨cb, hcb⟩ : ∃ x, x = w1.heap.size + 1 := ⟨_, rfl⟩
  rw [e2, ← hcb] at C3
  have BW3 := hidK (BW.stepL B3 BW.size)
  have LB : Hid (w.heap.size ≤ cb ∧ w.heap.size ≤ mb) := by
    have := BW.size
    exact ⟨by rw [hcb]; omega, by rw [hmb]; exact this⟩
  have CI3 := hidK C3
  rw [← hw2, ← hw3, ← hcb, ← hmb]
  clear hw2 hw3 hcb hmb e2 C3 B3 BW y0 y1 y2 y3 y4 y5 hmm
  go_loopw [21] (fun i wr => ∃ (r : Nat) (M : List ObV), r ≤ LV.length ∧ i = .int .i64 (r : Int) ∧ Hid (neCL ⟨k, m, z, s, t, o⟩ [] (oL (LV.take r)) = some (oL M)) ∧ Hid (CatI wr cb mb ⟨k, m, z, s, t, o⟩ M NoB) ∧ Hid (Below w.heap.size w wr) ∧ Hid (M.length = r)) (fun i _ => LV.length - (intOf i).toNat)
  case atStart => exact ⟨0, [], Nat.zero_le _, rfl, rfl, CI3.out, BW3.out, rfl⟩
  case round =>
    clear CI3 BW3
    obtain ⟨r, M, hr, rfl, hN, hC, hB, hL⟩ := hrel
    by_cases hlt : r < LV.length
    · have hlt' : (r : Int) < (LV.length : Int) := by omega
      obtain ⟨b, off, ea, hb, cz⟩ := (HV.out.below hB.out).at hlt
      subst ea
      obtain ⟨ST1, ST2⟩ := ne_step (g := ⟨k, m, z, s, t, o⟩) hlt hN.out
      generalize LV.getD r default = c at cz ST1 ST2
      have OKc := cz.ok19
      obtain ⟨⟨ky, ln, ep, st⟩, vs⟩ := c
      obtain ⟨sa, sc, esv⟩ := cz.rs.form
      simp only at esv ST1 ST2
      subst esv
      have S1 := hidK ST1
      have S2 := hidK ST2
      have z0 : wr.cell? ⟨b, off + r * 4, none⟩ = some (.string ⟨ky.toArray⟩) := cz.c0
      have z1 : wr.cell? ⟨b, off + r * 4 + 1, none⟩ = some (.int .i64 ln) := cz.c1
      have z2 : wr.cell? ⟨b, off + r * 4 + 2, none⟩ = some (.int .i64 ep) := cz.c2
      have z3 : wr.cell? ⟨b, off + r * 4 + 3, none⟩ = some (.slice sa st.length sc) := cz.c3
      obtain ⟨V, hV⟩ : ∃ V, V = wr.alloc (.cells #[.string ⟨ky.toArray⟩, .int .i64 ln, .int .i64 ep, .slice sa st.length sc] 52) := ⟨_, rfl⟩
      have TV : Hid (∀ X, Below V.heap.size V X → Below wr.heap.size wr X ∧ X.cell? ⟨wr.heap.size, 0, none⟩ = some (.string ⟨ky.toArray⟩) ∧ X.cell? ⟨wr.heap.size, 1, none⟩ = some (.int .i64 ln) ∧ X.cell? ⟨wr.heap.size, 2, none⟩ = some (.int .i64 ep) ∧ X.cell? ⟨wr.heap.size, 3, none⟩ = some (.slice sa st.length sc) ∧ ∀ j, X.frozen? ⟨wr.heap.size, j, none⟩ = false) := by rw [hV]; exact box4 _ _ _ _ _ _
      have BV := (TV.out V (Below.refl _ _)).1
      obtain ⟨hs, hhs⟩ : ∃ x, Hid ((finV M ky).isSome = x) := ⟨_, rfl⟩
      obtain ⟨px, hpx⟩ : ∃ x, Hid (puX ⟨k, m, z, s, t, o⟩ (oL M) ⟨ky, ln, ep, st⟩ = x) := ⟨_, rfl⟩
      have K1 := chas19_any (hC.out.below BV) OKc.ky hhs.out
      have OKH := hidK OKc
      clear cz hb ST1 ST2 OKc BV
      go_wp2_with fail
      rw [← hV]
      clear hV
      refine K1.mono ?_
      clear K1 z0 z1 z2 z3
      rintro _ w4 ⟨rfl, b4⟩
      obtain ⟨B4, q0, q1, q2, q3, _⟩ := TV.out w4 b4
      cases hs with
      | true =>
        have nf : ¬ finK (oL M) ky = none := fun q => by
          have h1 := hhs.out
          rw [finV_none.2 q] at h1
          cases h1
        obtain rfl := N1.out (Or.inl (S2.out fun q => nf q.2))
        have F : Hid (NewC19 w ⟨k, m, z, s, t, o⟩ LV 1 (.returned (.tuple #[.pointer none, .int .i64 1])) w4) := Or.inr ⟨by decide, rfl, hB.out.stepL B4 hB.out.size⟩
        clear S1 S2 N1 Y1 TV hC hB hN hL hhs hpx nf b4 B4 OKH
        go_wp2
        exact bodyPost_ret (v := .tuple #[.pointer none, .int .i64 1]) (by simp [results, Try.results12, go_sem]) rfl F.out
      | false =>
      have nf : finK (oL M) ky = none := finV_none.1 (by
        have h1 := hhs.out
        cases e : finV M ky with
        | none => rfl
        | some c => rw [e] at h1; cases h1)
      have NF := hidK nf
      have K2 := cput19_any (c := ⟨⟨ky, ln, ep, st⟩, .slice sa st.length sc⟩) (hC.out.below B4) (OKH.out.bel B4) hpx.out
      have BB := hidK (hB.out.stepL B4 hB.out.size)
      clear nf b4 B4 TV hhs
      go_wp2_with fail
      refine K2.mono ?_
      clear K2 q0 q1 q2 q3
      rintro _ w5 ⟨M5, rfl, C5, e5, t5⟩
      have B5 := hidK (BB.out.trans (t5.below (fun y hy => by rw [hy]; exact LB.out.2) BB.out.size))
      by_cases hp : px = 0
      rotate_left
      · have q1 : (px == 0) = false := beq_eq_false_iff_ne.2 hp
        have q2 : (px != 0) = true := by simp [bne, q1]
        have XX : X = 1 := by
          by_cases rm : finK (oL M) (⟨ky, ln, ep, st⟩ : ObS).key ≠ none ∨ ((oL M).length : Int) < o
          · by_cases f : fitC ⟨k, m, z, s, t, o⟩ (oL M) ⟨ky, ln, ep, st⟩
            · exact absurd (hpx.out.symm.trans (puX_ok rm f)) hp
            · exact N1.out (Or.inl (S2.out fun q => f q.1))
          · refine N1.out (Or.inr ?_)
            have h1 : ¬ ((oL M).length : Int) < o := fun q => rm (Or.inr q)
            rw [oL_length, hL.out] at h1
            show o < _
            omega
        subst XX
        have F : Hid (NewC19 w ⟨k, m, z, s, t, o⟩ LV 1 (.returned (.tuple #[.pointer none, .int .i64 1])) w5) := Or.inr ⟨by decide, rfl, B5.out⟩
        clear S1 S2 N1 Y1 hC hB hN hL hpx NF C5 e5 t5 OKH BB
        go_wp2
        exact bodyPost_ret (v := .tuple #[.pointer none, .int .i64 1]) (by simp [results, Try.results12, go_sem]) rfl F.out
      · subst hp
        rw [if_pos rfl] at e5
        have FT : fitC ⟨k, m, z, s, t, o⟩ (oL M) ⟨ky, ln, ep, st⟩ := by
          by_cases f : fitC ⟨k, m, z, s, t, o⟩ (oL M) ⟨ky, ln, ep, st⟩
          · exact f
          · exfalso
            have h1 := hpx.out
            unfold puX at h1
            by_cases rm : finK (oL M) (⟨ky, ln, ep, st⟩ : ObS).key ≠ none ∨ ((oL M).length : Int) < o
            · rw [if_neg (fun q => q rm), if_pos f] at h1; cases h1
            · rw [if_pos rm] at h1; cases h1
        have NN : Hid (neCL ⟨k, m, z, s, t, o⟩ [] (oL (LV.take (r + 1))) = some (oL M5)) := by
          show _ = _
          rw [e5]
          exact S1.out ⟨FT, NF.out⟩
        have L5 : Hid (M5.length = r + 1) := by
          show _ = _
          have h1 := congrArg List.length e5
          rw [oL_length, wiC_length hC.out.inv.rise, if_pos NF.out, oL_length, hL.out] at h1
          exact h1
        have C6 := hidK C5
        clear S1 S2 hC hB hN hL hpx NF C5 e5 t5 OKH BB FT
        go_wp2
        go_roundw
        case rel => exact ⟨r + 1, M5, by omega, by go_num, NN, C6, B5, L5⟩
        case measure => simp [intOf]; omega
    · obtain rfl : r = LV.length := by omega
      have hge : ¬ (LV.length : Int) < (LV.length : Int) := by omega
      have e := hN.out
      rw [List.take_length] at e
      have XX : X = 0 := Y1.out (by have := hC.out.few.1; rw [hL.out] at this; exact this) _ e
      subst XX
      have F : Hid (NewC19 w ⟨k, m, z, s, t, o⟩ LV 0 (.returned (.tuple #[.pointer (some ⟨cb, 0, none⟩), .int .i64 0])) wr) := Or.inl ⟨rfl, cb, mb, M, rfl, e, hC.out, LB.out.1, LB.out.2, hB.out⟩
      clear N1 Y1 hN hC hB hL e
      go_wp2
      exact bodyPost_ret (v := .tuple #[.pointer (some ⟨cb, 0, none⟩), .int .i64 0]) (by simp [results, Try.results12, go_sem]) rfl F.out
end Go.Proofs.Ytndlfmofjmieaaa.Gf

namespace Go.Proofs.Ytndlfmofjmieaaa.Gf
set_option linter.unusedVariables false
set_option linter.unusedSimpArgs false
open Go.RowKit
open Go.Maps (Keyed)
open Go.ChangeMaps Go.MapKept
set_option maxRecDepth 100000 in
set_option maxHeartbeats 1000000 in
theorem cindex19_any {w : World} {v : Value} {st : List Int} (h : RdI w v st) (hl : st.length ≤ 1000) (s : Int) : Calls Try.prog 61 #[v, .int .i64 s] w fun e w' => (∃ r : Int, e = .returned (.int .i64 r) ∧ (0 ≤ r ↔ s ∈ st)) ∧ w' = w := by
  obtain ⟨a, c, rfl⟩ := h.form
  have H := hidK h
  clear h
  go_enter Try.func61, Try.ntmps61
  go_wp2_with fail
  go_loopw [8] (fun i wr => ∃ r : Nat, r ≤ st.length ∧ i = .int .i64 (r : Int) ∧ wr = w ∧ Hid (∀ j, j < r → st.getD j 0 ≠ s)) (fun i _ => st.length - (intOf i).toNat)
  case atStart => exact ⟨0, Nat.zero_le _, rfl, rfl, fun j hj => absurd hj (Nat.not_lt_zero _)⟩
  case round =>
    obtain ⟨r, hr, rfl, hw, hj⟩ := hrel
    rw [hw]
    clear hw wr
    by_cases hlt : r < st.length
    · have hlt' : (r : Int) < (st.length : Int) := by omega
      obtain ⟨b, off, rfl, _, cs⟩ := H.out.at hlt
      have MEM : Hid (st.getD r 0 ∈ st) := by
        show _ ∈ _
        rw [show st.getD r 0 = st[r] by simp [List.getD, hlt]]
        exact List.getElem_mem hlt
      have NX : Hid (st.getD r 0 ≠ s → ∀ j, j < r + 1 → st.getD j 0 ≠ s) := fun e j hj3 => by
        by_cases e2 : j = r
        · rw [e2]; exact e
        · exact hj.out j (by omega)
      generalize st.getD r 0 = y at cs NX MEM
      by_cases e : s = y
      · subst e
        have F : Hid (∃ r' : Int, Ending.returned (.int .i64 (r : Int)) = .returned (.int .i64 r') ∧ (0 ≤ r' ↔ s ∈ st)) := ⟨_, rfl, fun _ => MEM.out, fun _ => Int.natCast_nonneg _⟩
        clear NX MEM hj H
        go_wp2
        exact bodyPost_ret (v := .int .i64 (r : Int)) (by simp [results, Try.results61, go_sem]) rfl ⟨F.out, rfl⟩
      · have e2 : (s == y) = false := beq_eq_false_iff_ne.2 e
        have N2 := hidK (NX.out fun q => e q.symm)
        clear NX MEM hj
        go_wp2
        go_roundw
        case rel => exact ⟨r + 1, by omega, by go_num, (by first | rfl | trivial), N2⟩
        case measure => simp [intOf]; omega
    · obtain rfl : r = st.length := by omega
      have hge : ¬ (st.length : Int) < (st.length : Int) := by omega
      have F : Hid (∃ r' : Int, Ending.returned (.int .i64 (-1)) = .returned (.int .i64 r') ∧ (0 ≤ r' ↔ s ∈ st)) := ⟨_, rfl, fun q => absurd q (by decide), fun hm => by
        obtain ⟨i, hi, e⟩ := List.getElem_of_mem hm
        exact absurd (by rw [← e]; simp [List.getD, hi]) (hj.out i hi)⟩
      clear hj H
      go_wp2
      exact bodyPost_ret (v := .int .i64 (-1)) (by simp [results, Try.results61, go_sem]) rfl ⟨F.out, rfl⟩
set_option maxRecDepth 100000 in
theorem ccontains19_any {w : World} {v : Value} {st : List Int} (h : RdI w v st) (hl : st.length ≤ 1000) (s : Int) {x : Bool} (hx : decide (s ∈ st) = x) : Calls Try.prog 47 #[v, .int .i64 s] w fun e w' => e = .returned (.bool x) ∧ w' = w := by
  have K := cindex19_any h hl s
  obtain ⟨a, c, rfl⟩ := h.form
  have HX := hidK hx
  clear h hx
  go_enter Try.func47, Try.ntmps47
  go_wp2_with fail
  refine K.mono ?_
  clear K
  rintro _ wq ⟨⟨r, rfl, hr⟩, eq⟩
  rw [eq]
  clear eq wq
  have e : x = decide (r ≥ 0) := by
    rw [← HX.out, decide_eq_decide]
    exact hr.symm
  subst e
  clear hr HX
  go_wp2
  go_ret
  exact ⟨rfl, rfl⟩
set_option maxRecDepth 100000 in
theorem cowner19_nil {w : World} {s : Int} : Calls Try.prog 22 #[.pointer none, .int .i64 s] w fun e w' => e = .returned (.tuple #[.int .i64 0, .bool false]) ∧ w' = w := by
  go_enter Try.func22, Try.ntmps22
  go_wp2
  exact bodyPost_ret (v := .tuple #[.int .i64 0, .bool false]) (by simp [results, Try.results22, go_sem]) rfl ⟨rfl, rfl⟩
set_option maxRecDepth 100000 in
set_option maxHeartbeats 4000000 in
theorem cowner19_any {w : World} {cb mb : Nat} {g : GeoS} {LV : List ObV} {P : Nat → Prop} (h : CatI w cb mb g LV P) (s : Int) {E : Int} {B : Bool} (hE : (owK (oL LV) s).getD 0 = E) (hB : (owK (oL LV) s).isSome = B) :
    Calls Try.prog 22 #[.pointer (some ⟨cb, 0, none⟩), .int .i64 s] w fun e w' => e = .returned (.tuple #[.int .i64 E, .bool B]) ∧ Below w.heap.size w w' := by
  have H := hidK h
  have c6 := h.c6
  obtain ⟨D, hown, hk, hf⟩ := h.mp
  have HN : Hid ((∀ c ∈ LV, s ∉ c.o.st) → E = 0 ∧ B = false) := fun q => by
    have e : owK (oL LV) s = none := owK_none.2 fun o ho => by
      obtain ⟨c, hc, rfl⟩ := List.mem_map.1 ho
      exact q c hc
    rw [← hE, ← hB, e]
    exact ⟨rfl, rfl⟩
  have HY : Hid (∀ c ∈ LV, s ∈ c.o.st → E = c.o.ep ∧ B = true) := fun c hc q => by
    have e := owK_of H.out.inv.apart (List.mem_map_of_mem hc) q
    rw [← hE, ← hB, e]
    exact ⟨rfl, rfl⟩
  clear h hE hB
  go_enter Try.func22, Try.ntmps22
  go_wp2_with (first | (at_range; go_loud (refine wpList_range_own _ rfl _ 70 rfl 9 52 keyed_str under_omap RV mb (Maps.size D) D rfl hown ?_); intro w0 hrg0 hg0 hs0) | go_in)
  go_frame
  have B0 : Below w.heap.size w w0 := ⟨hg0.os, hg0.tape, hg0.output, hg0.size, fun k hk => hg0.block k hk (by simp)⟩
  obtain ⟨it, hit⟩ : ∃ it, Hid (it = w.heap.size) := ⟨_, rfl⟩
  have CF : Hid (∀ X, TurnG (fun x => x = it) w0 X → CatI X cb mb g LV P) := fun X t => by
    have q4 := H.out.lt
    have q5 := H.out.mp.lt
    have q1 := hit.out
    refine (H.out.below B0).turn t (by omega) (by omega) fun c hc x m e ev => ?_
    rcases (H.out.ok c hc).rs.lays x m e ev with q | q
    · exact Or.inl q
    · exact Or.inr (by omega)
  have START : Hid (∀ c ∈ LV, Maps.has D (.string c.o.key) = false → s ∉ c.o.st) := fun c hc q => by
    rcases hf c.o.key with ⟨_, q2⟩ | ⟨_, _, q2, _⟩
    · have := (keysC_mem (L := LV) (d := c.o.key)).1 (List.mem_map_of_mem hc)
      rw [← mpF_some, q2] at this
      cases this
    · rw [q2] at q; cases q
  have RISE := hidK H.out.inv.rise
  have HF := hidK hf
  have BW0 := hidK B0
  have ZI : Hid (w.heap.size = it) := hit.out.symm
  have S0 := hs0
  rw [← hit.out] at hrg0
  rw [ZI.out]
  have lw0 : it < w0.heap.size := by rw [S0, hit.out]; omega
  clear hk hf hown B0 hg0 hs0 S0 hit H c6
  go_loopw [16] (fun _ wq => ∃ (left : Lit → Bool) (cn : Nat), wq.ranges Try.prog 9 RV mb it (Maps.size D) D left cn ∧ Hid (∀ c ∈ LV, left (.string c.o.key) = false → s ∉ c.o.st) ∧ Hid (TurnG (fun x => x = it) w0 wq)) (fun _ wq => wq.rangeLeft mb it)
  case atStart => exact ⟨_, _, hrg0, START, TurnG.refl _ _⟩
  case round =>
    clear hrg0 START
    obtain ⟨left, cn, hrg, hNo, hT⟩ := hrel
    go_wp2_with (first | (at_next; go_loud (refine wpList_next_ranges _ rfl _ rfl 9 keyed_str RV (fun d : List UInt8 => Value.string ⟨d.toArray⟩) id (fun key kl h => by obtain ⟨d, e, _⟩ := invKs key kl h; exact ⟨d, e⟩) (fun v y _ => ⟨v, rfl⟩) mb it (Maps.size D) D left cn rfl hrg ?_ ?_)) | go_in)
    · intro hc0 hl0
      obtain ⟨rfl, rfl⟩ := HN.out fun c hc => hNo.out c hc (hl0 _)
      have FIN : Hid (Below w.heap.size w wr) := BW0.out.trans (hT.out.below (fun x hx => by rw [hx, ZI.out]; exact Nat.le_refl _) (by rw [ZI.out]; omega))
      clear hNo hT hrg hl0 hc0 CF BW0 HF RISE HN HY
      go_wp2
      exact bodyPost_ret (v := .tuple #[.int .i64 0, .bool false]) (by simp [results, Try.results22, go_sem]) rfl ⟨rfl, FIN.out⟩
    · intro d v kl yd ys w1 cn1 hkey hlk hv hat hrg1 hlt1 hg1 hs1 hen
      obtain ⟨d', ek, ekl⟩ := invKs _ _ hkey
      have ed : d = d' := by simpa using ek
      subst ed
      subst ekl
      have eyd : yd = .held v := RV_inv hv
      subst eyd
      obtain ⟨o, ho, ek2, ev⟩ := entry19 HF.out (d := d) (v := v) (fun zd => hat zd)
      subst ek2
      subst ev
      obtain ⟨V1, hV1⟩ : ∃ V1, V1 = w1.alloc (.cells #[.string ⟨o.o.key.toArray⟩, .int .i64 o.o.len, .int .i64 o.o.ep, o.vs] 52) := ⟨_, rfl⟩
      have bV1 : Below w1.heap.size w1 V1 := by rw [hV1]; exact belL _ _
      have V3 : V1.cell? ⟨w1.heap.size, 3, none⟩ = some o.vs := by rw [hV1, World.cell?_alloc_new]; rfl
      have V2 : V1.cell? ⟨w1.heap.size, 2, none⟩ = some (.int .i64 o.o.ep) := by rw [hV1, World.cell?_alloc_new]; rfl
      have g1 : TurnG (fun x => x = it) wr w1 := ⟨hg1.os, hg1.tape, hg1.output, hg1.size, fun j hj hne => hg1.block j hj (by intro q; simp at q; exact hne q)⟩
      have hT1 : TurnG (fun x => x = it) w0 V1 := (hT.out.trans g1).trans (Below.turnG bV1 _)
      have C1 := CF.out V1 hT1
      have lit1 : it < w1.heap.size := hrg1.lt
      have rV : Hid (V1.ranges Try.prog 9 RV mb it (Maps.size D) D (fun z => left z && !z.sameKey (.string o.o.key)) cn1) := ranges_blocks19 hrg1 (bV1.block mb hrg1.owns.lt) (bV1.block it lit1)
      have RD := hidK (C1.ok o ho).rs
      have SL := (C1.sts o ho).1
      have HYo := hidK (HY.out o ho)
      have STEP : Hid (s ∉ o.o.st → ∀ c ∈ LV, (left (.string c.o.key) && !(Lit.string c.o.key).sameKey (.string o.o.key)) = false → s ∉ c.o.st) := fun q c hc e => by
        cases q2 : left (.string c.o.key) with
        | false => exact hNo.out c hc q2
        | true =>
          rw [q2] at e
          simp at e
          have e3 := WideAt.sameKey_eq e
          simp at e3
          have f1 := finV_some RISE.out hc
          have f2 := finV_some RISE.out ho
          rw [e3, f2] at f1
          cases f1
          exact q
      have MEAS : Hid (V1.rangeLeft mb it < wr.rangeLeft mb it) := by show _ < _; rw [rV.out.left_eq, hrg.left_eq]; exact hlt1
      have hT2 := hidK hT1
      have FIN : Hid (Below w.heap.size w V1) := BW0.out.trans (hT1.below (fun x hx => by rw [hx, ZI.out]; exact Nat.le_refl _) (by rw [ZI.out]; omega))
      obtain ⟨sa, sc, evs⟩ := RD.out.form
      obtain ⟨⟨ky, ln, ep, st⟩, vs⟩ := o
      simp only at evs V2 V3 hV1 RD STEP rV SL HYo
      subst evs
      obtain ⟨x, hx⟩ : ∃ x, decide (s ∈ st) = x := ⟨_, rfl⟩
      have K := ccontains19_any RD.out (by omega) s hx
      have hen' : (Instr.entry (.pointer (some ⟨it, 0, none⟩))).run Try.prog w1 = .ok (.tuple #[.string ⟨ky.toArray⟩, .agg #[.string ⟨ky.toArray⟩, .int .i64 ln, .int .i64 ep, .slice sa st.length sc]]) w1 := hen
      have HX := hidK hx
      clear hkey hlk hv hat hrg1 hlt1 hg1 hs1 hen hT1 hT bV1 g1 C1 hrg HF ho ek lit1 CF BW0 RISE HN HY hNo RD hx
      go_wp2_with fail
      rw [← hV1]
      clear hen' hV1
      refine K.mono ?_
      clear K
      rintro _ wq ⟨rfl, eq⟩
      rw [eq]
      clear eq wq
      cases x with
      | true =>
        obtain ⟨rfl, rfl⟩ := HYo.out (of_decide_eq_true HX.out)
        clear HYo STEP MEAS hT2 rV HX
        go_wp2
        exact bodyPost_ret (v := .tuple #[.int .i64 E, .bool true]) (by simp [results, Try.results22, go_sem]) rfl ⟨rfl, FIN.out⟩
      | false =>
        have NO := hidK (STEP.out (of_decide_eq_false HX.out))
        clear HYo STEP HX FIN V2 V3
        go_wp2
        go_roundw
        case rel => exact ⟨_, _, rV.out, NO, hT2⟩
        case measure => exact MEAS.out
end Go.Proofs.Ytndlfmofjmieaaa.Gf
