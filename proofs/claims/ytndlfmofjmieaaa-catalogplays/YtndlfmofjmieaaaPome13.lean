/- TEXTS JOINED: CtCF, CtCN. -/
import Derived.Test.YtndlfmofjmieaaaPome10
import Derived.Test.YtndlfmofjmieaaaPome12
namespace Go.Proofs.Ytndlfmofjmieaaa.Gf
set_option linter.unusedVariables false
set_option linter.unusedSimpArgs false
open Go.RowKit
open Go.Maps (Keyed)
theorem CatI.puts {w : World} {cb mb : Nat} {g : GeoS} {LV : List ObV} {P : Nat → Prop} (h : CatI w cb mb g LV P) {c : ObV} (hc : ObOk w c) (ho : ApartG P c.vs) (hf : fitC g (oL LV) c.o) (hr : finV LV c.o.key ≠ none ∨ (LV.length : Int) < g.o) :
    ∃ w', (Instr.mapUpdate 70 (.map (some mb)) (.string ⟨c.o.key.toArray⟩) (.agg #[.string ⟨c.o.key.toArray⟩, .int .i64 c.o.len, .int .i64 c.o.ep, c.vs])).run Try.prog w = .ok () w' ∧ CatI w' cb mb g (wiV LV c) P ∧ TurnG (fun k => k = mb) w w' := by
  have l4 := h.few.2
  obtain ⟨w', hrun, hm, ht⟩ := h.mp.store keyed_str under_omap (keysC_nodup h.inv.rise) mpF_keys (by rw [keysC_length]; unfold maxLen; omega) (key_str hc.ky) (aggO c)
  have t := mt_turn ht
  refine ⟨w', hrun, ?_, t⟩
  have ne : ¬ cb = mb := h.ne
  obtain ⟨⟨x0, x1, x2, x3, x4, x5⟩, c6, mp, ok, inv, gok, gw, lt, off, lp, pc, pm⟩ := h
  have kc : ∀ j, w'.cell? ⟨cb, j, none⟩ = w.cell? ⟨cb, j, none⟩ := fun j => t.cell (p := ⟨cb, j, none⟩) lt ne
  refine ⟨⟨(kc _).trans x0, (kc _).trans x1, (kc _).trans x2, (kc _).trans x3, (kc _).trans x4, (kc _).trans x5⟩, (kc _).trans c6, hm.congr fun d => ?_, fun d hd => ?_, ?_, gok, gw, Nat.lt_of_lt_of_le lt t.size, fun d hd => ?_, fun q hq => Nat.lt_of_lt_of_le (lp q hq) t.size, pc, pm⟩
  · unfold putS mpF
    rw [wiV_fin]
    by_cases e : d = c.o.key
    · rw [if_pos e, if_pos e]; rfl
    · rw [if_neg e, if_neg e]
  · rcases wiV_mem hd with rfl | hd
    · exact hc.offG (hc.rs.notMap mp.isMap) t
    · have q := ok d hd
      exact q.offG (q.rs.notMap mp.isMap) t
  · rw [oL_wiV]
    refine inv.put hf ?_
    rw [oL_length]
    exact hr.imp (fun k q => k (finV_none.2 q)) id
  · rcases wiV_mem hd with rfl | hd
    · exact ho
    · exact off d hd
/-- what 'put' answers -/
def puX (g : GeoS) (L : List ObS) (o : ObS) : Int := if ¬ (finK L o.key ≠ none ∨ (L.length : Int) < g.o) then 191 else if ¬ fitC g L o then 1 else 0
def Put19 (w : World) (cb mb : Nat) (g : GeoS) (P : Nat → Prop) (X : Int) (L : List ObS) (e : Ending) (w' : World) : Prop :=
  ∃ M, e = .returned (.int .i64 X) ∧ CatI w' cb mb g M P ∧ oL M = L ∧ TurnG (fun k => k = mb) w w'
theorem puX_room {g : GeoS} {L : List ObS} {o : ObS} (h : ¬ (finK L o.key ≠ none ∨ (L.length : Int) < g.o)) : puX g L o = 191 := if_pos h
theorem puX_fit {g : GeoS} {L : List ObS} {o : ObS} (h : finK L o.key ≠ none ∨ (L.length : Int) < g.o) (k : ¬ fitC g L o) : puX g L o = 1 := by
  unfold puX; rw [if_neg fun q => q h, if_pos k]
theorem puX_ok {g : GeoS} {L : List ObS} {o : ObS} (h : finK L o.key ≠ none ∨ (L.length : Int) < g.o) (k : fitC g L o) : puX g L o = 0 := by
  unfold puX; rw [if_neg fun q => q h, if_neg fun q => q k]
set_option maxRecDepth 100000 in
set_option maxHeartbeats 2000000 in
theorem cput19_any {w : World} {cb mb : Nat} {g : GeoS} {LV : List ObV} {P : Nat → Prop} (h : CatI w cb mb g LV P) {c : ObV} (hc : ObOk w c) {X : Int} (hX : puX g (oL LV) c.o = X) :
    Calls Try.prog 32 #[.pointer (some ⟨cb, 0, none⟩), aggO c] w (Put19 w cb mb g P X (if X = 0 then wiC (oL LV) c.o else oL LV)) := by
  obtain ⟨L, hL⟩ : ∃ L, L = (if X = 0 then wiC (oL LV) c.o else oL LV) := ⟨_, rfl⟩
  rw [← hL]
  obtain ⟨⟨ky, ln, ep, st⟩, vs⟩ := c
  have HC := hidK hc
  obtain ⟨sa, sc, e⟩ := hc.rs.form
  simp only at e hX hL
  subst e
  have H := hidK h
  clear h hc
  obtain ⟨rm, hrm⟩ : ∃ b, Hid (decide (finV LV ky ≠ none ∨ (LV.length : Int) < g.o) = b) := ⟨_, rfl⟩
  obtain ⟨ft, hft⟩ : ∃ b, Hid (decide (fitC g (oL LV) ⟨ky, ln, ep, st⟩) = b) := ⟨_, rfl⟩
  have RM : (finK (oL LV) ky ≠ none ∨ ((oL LV).length : Int) < g.o) ↔ (finV LV ky ≠ none ∨ (LV.length : Int) < g.o) := by
    rw [oL_length]
    exact or_congr (not_congr finV_none.symm) Iff.rfl
  have KR : ∀ V, Below w.heap.size w V → Calls Try.prog 49 #[.pointer (some ⟨cb, 0, none⟩), .string ⟨ky.toArray⟩] V fun e w' => e = .returned (.bool rm) ∧ Below V.heap.size V w' := fun V bV => croom19_any (H.out.below bV) HC.out.ky hrm.out
  have KF : ∀ V, Below w.heap.size w V → Calls Try.prog 52 #[.pointer (some ⟨cb, 0, none⟩), .agg #[.string ⟨ky.toArray⟩, .int .i64 ln, .int .i64 ep, .slice sa st.length sc]] V fun e w' => e = .returned (.bool ft) ∧ Below V.heap.size V w' := fun V bV => cfits19_any (c := ⟨⟨ky, ln, ep, st⟩, .slice sa st.length sc⟩) (H.out.below bV) (HC.out.bel bV) hft.out
  have E1 : Hid (rm = false → X = 191 ∧ oL LV = L) := fun q => by
    have := of_decide_eq_false (hrm.out.trans q)
    have e : X = 191 := hX.symm.trans (puX_room (o := ⟨ky, ln, ep, st⟩) fun k => this (RM.1 k))
    exact ⟨e, by rw [hL, e]; exact (if_neg (by decide)).symm⟩
  have E2 : Hid (rm = true → ft = false → X = 1 ∧ oL LV = L) := fun q q2 => by
    have := of_decide_eq_true (hrm.out.trans q)
    have e : X = 1 := hX.symm.trans (puX_fit (o := ⟨ky, ln, ep, st⟩) (RM.2 this) (of_decide_eq_false (hft.out.trans q2)))
    exact ⟨e, by rw [hL, e]; exact (if_neg (by decide)).symm⟩
  have E3 : Hid (rm = true → ft = true → X = 0 ∧ wiC (oL LV) ⟨ky, ln, ep, st⟩ = L) := fun q q2 => by
    have := of_decide_eq_true (hrm.out.trans q)
    have e : X = 0 := hX.symm.trans (puX_ok (o := ⟨ky, ln, ep, st⟩) (RM.2 this) (of_decide_eq_true (hft.out.trans q2)))
    exact ⟨e, by rw [hL, e]; exact (if_pos rfl).symm⟩
  obtain ⟨W, hW⟩ : ∃ W, W = w.alloc (.cells #[.string ⟨ky.toArray⟩, .int .i64 ln, .int .i64 ep, .slice sa st.length sc] 52) := ⟨_, rfl⟩
  have TA : Hid (∀ V, Below W.heap.size W V → Below w.heap.size w V ∧ V.cell? ⟨w.heap.size, 0, none⟩ = some (.string ⟨ky.toArray⟩) ∧ V.cell? ⟨w.heap.size, 1, none⟩ = some (.int .i64 ln) ∧ V.cell? ⟨w.heap.size, 2, none⟩ = some (.int .i64 ep) ∧ V.cell? ⟨w.heap.size, 3, none⟩ = some (.slice sa st.length sc) ∧ ∀ j, V.frozen? ⟨w.heap.size, j, none⟩ = false) := by rw [hW]; exact box4 _ _ _ _ _ _
  have hlW : Hid (w.heap.size < W.heap.size) := by show _ < _; rw [hW]; simp
  obtain ⟨BW, q0, _⟩ := TA.out W (Below.refl _ _)
  have K1 := KR W BW
  clear hX hL RM KR q0
  show Calls Try.prog 32 #[.pointer (some ⟨cb, 0, none⟩), .agg #[.string ⟨ky.toArray⟩, .int .i64 ln, .int .i64 ep, .slice sa st.length sc]] w _
  go_enter Try.func32, Try.ntmps32
  go_wp2_with fail
  rw [← hW]
  clear hW
  refine K1.mono ?_
  clear K1
  rintro _ w2 ⟨rfl, b2⟩
  cases rm with
  | false =>
    obtain ⟨rfl, e⟩ := E1.out (by first | rfl | trivial)
    have F : Hid (Put19 w cb mb g P 191 L (.returned (.int .i64 191)) w2) := by
      have B := (TA.out w2 b2).1
      exact ⟨LV, rfl, H.out.below B, e, Below.turnG B _⟩
    clear E1 E2 E3 e KF TA H HC hrm hft BW b2
    go_wp2
    go_ret
    exact F.out
  | true =>
  have B2 := hidK b2
  obtain ⟨BB, q0, q1, q2, q3, _⟩ := TA.out w2 b2
  have K2 := KF w2 BB
  clear KF E1 b2 BW BB
  go_wp2_with fail
  refine K2.mono ?_
  clear K2 q0 q1 q2 q3
  rintro _ w3 ⟨rfl, b3⟩
  have B3 := hidK (B2.out.stepL b3 B2.out.size)
  clear B2 b3
  cases ft with
  | false =>
    obtain ⟨rfl, e⟩ := E2.out (by first | rfl | trivial) (by first | rfl | trivial)
    have F : Hid (Put19 w cb mb g P 1 L (.returned (.int .i64 1)) w3) := by
      have B := (TA.out w3 B3.out).1
      exact ⟨LV, rfl, H.out.below B, e, Below.turnG B _⟩
    clear E2 E3 e TA H HC hrm hft B3
    go_wp2
    go_ret
    exact F.out
  | true =>
  obtain ⟨rfl, e⟩ := E3.out (by first | rfl | trivial) (by first | rfl | trivial)
  have HL := hidK e
  have HR := hidK (of_decide_eq_true hrm.out)
  have HFT := hidK (of_decide_eq_true hft.out)
  clear E2 E3 e hrm hft
  have SF : Hid (∀ V, Below W.heap.size W V → V.cell? ⟨w.heap.size, 0, none⟩ = some (.string ⟨ky.toArray⟩) ∧ V.cell? ⟨w.heap.size, 1, none⟩ = some (.int .i64 ln) ∧ V.cell? ⟨w.heap.size, 2, none⟩ = some (.int .i64 ep) ∧ V.cell? ⟨w.heap.size, 3, none⟩ = some (.slice sa st.length sc) ∧ V.cell? ⟨cb, 6, none⟩ = some (.map (some mb))) := fun V bV => by
    obtain ⟨b0, p0, p1, p2, p3, _⟩ := TA.out V bV
    exact ⟨p0, p1, p2, p3, (H.out.below b0).c6⟩
  have SL : st.length ≤ 1000 := by have := HFT.out.1.1.2.2.2.2.2.1; show _ ≤ _; exact Nat.le_trans this (by decide)
  have BD := hidK (B3.out.stepL (Below.refl _ _).drew B3.out.size)
  have K4 := cown19_any (c := ⟨⟨ky, ln, ep, st⟩, .slice sa st.length sc⟩) (HC.out.bel (TA.out _ BD.out).1) SL
  go_wp2_with fail
  refine wp_region_held_drew (S := fun V => V.cell? ⟨w.heap.size, 0, none⟩ = some (.string ⟨ky.toArray⟩) ∧ V.cell? ⟨w.heap.size, 1, none⟩ = some (.int .i64 ln) ∧ V.cell? ⟨w.heap.size, 2, none⟩ = some (.int .i64 ep) ∧ V.cell? ⟨w.heap.size, 3, none⟩ = some (.slice sa st.length sc) ∧ V.cell? ⟨cb, 6, none⟩ = some (.map (some mb))) (by kernel_rfl) (SF.out _ BD.out) (fun hHeld => ?_)
  refine tkH 0 ?_
  refine tkH 1 ?_
  refine tkH 2 ?_
  refine tkH 3 ?_
  refine tkH 4 ?_
  refine tkH 5 ?_
  refine tkH 6 ?_
  clear hHeld
  refine rnH 7 (fun K' hK => ?_)
  go_simp
  go_at_call 45
  refine K4.mono ?_
  clear K4
  rintro _ w5 ⟨v', rfl, ok5, nw5, b5⟩
  obtain ⟨pa, pc, ev'⟩ := ok5.rs.form
  simp only at ev'
  subst ev'
  dsimp only
  rw [show aggO ⟨⟨ky, ln, ep, st⟩, .slice pa st.length pc⟩ = .agg #[.string ⟨ky.toArray⟩, .int .i64 ln, .int .i64 ep, .slice pa st.length pc] from rfl]
  have B5 := hidK (BD.out.stepL b5 BD.out.size)
  refine koH hK (SF.out _ B5.out) fun hHeld => ?_
  clear hK K'
  have CI5 := H.out.below (TA.out _ B5.out).1
  obtain ⟨w6, hrun, CI6, T6⟩ := CI5.puts ok5 (fun x m e ev => Or.inr fun q => by
    have h1 := nw5 x m e ev
    have h2 := H.out.lp _ q
    have h3 := (TA.out _ BD.out).1.size
    omega) HFT.out HR.out
  simp only at hrun
  have SFX : Hid (∀ V, TurnG (fun k => k = mb) w5 V → V.cell? ⟨w.heap.size, 0, none⟩ = some (.string ⟨ky.toArray⟩) ∧ V.cell? ⟨w.heap.size, 1, none⟩ = some (.int .i64 ln) ∧ V.cell? ⟨w.heap.size, 2, none⟩ = some (.int .i64 ep) ∧ V.cell? ⟨w.heap.size, 3, none⟩ = some (.slice sa st.length sc) ∧ V.cell? ⟨cb, 6, none⟩ = some (.map (some mb))) := fun V t => by
    obtain ⟨p0, p1, p2, p3, p6⟩ := SF.out w5 B5.out
    have lm := H.out.mp.lt
    have lc := H.out.lt
    have ls := B5.out.size
    have lW : w.heap.size < W.heap.size := hlW.out
    have k : ∀ j, V.cell? ⟨w.heap.size, j, none⟩ = w5.cell? ⟨w.heap.size, j, none⟩ := fun j => t.cell (p := ⟨w.heap.size, j, none⟩) (by show w.heap.size < _; omega) (by show ¬ w.heap.size = mb; omega)
    exact ⟨(k 0).trans p0, (k 1).trans p1, (k 2).trans p2, (k 3).trans p3, (t.cell (p := ⟨cb, 6, none⟩) (by show cb < _; omega) (by show ¬ cb = mb; exact H.out.ne)).trans p6⟩
  clear hHeld
  refine rnH 8 (fun K' hK => ?_)
  go_simp
  refine koH hK (SFX.out w6 T6) fun hHeld => ?_
  clear hK K' hHeld
  refine wpAnyH_done (by kernel_rfl) ?_ _
  have F : Hid (Put19 w cb mb g P 0 L (.returned (.int .i64 0)) w6) := by
    have B := (TA.out w5 B5.out).1
    exact ⟨_, rfl, CI6, (oL_wiV _ _).trans HL.out, (Below.turnG B _).trans T6⟩
  clear CI6 T6 CI5 B5 ok5 nw5 hrun SFX SF TA H HC HL HR HFT BD B3 b5
  go_wp2
  go_ret
  exact F.out
end Go.Proofs.Ytndlfmofjmieaaa.Gf

namespace Go.Proofs.Ytndlfmofjmieaaa.Gf
set_option linter.unusedVariables false
set_option linter.unusedSimpArgs false
open Go.RowKit
open Go.Maps (Keyed)
def NoB : Nat → Prop := fun _ => False
def NewC19 (w : World) (g : GeoS) (LV : List ObV) (X : Int) (e : Ending) (w' : World) : Prop :=
  (X = 0 ∧ ∃ cb mb M, e = .returned (.tuple #[.pointer (some ⟨cb, 0, none⟩), .int .i64 0]) ∧ neCL g [] (oL LV) = some (oL M) ∧ CatI w' cb mb g M NoB ∧ w.heap.size ≤ cb ∧ w.heap.size ≤ mb ∧ Below w.heap.size w w') ∨ (¬ X = 0 ∧ e = .returned (.tuple #[.pointer none, .int .i64 X]) ∧ Below w.heap.size w w')
theorem CatI.start {w w1 w2 : World} {g : GeoS} (hg : okG g) (gw : g.Wf) {b : Nat} (hb : b = w.heap.size) (h1 : w1 = w.alloc (.map #[] 0)) (h2 : w2 = w1.alloc (.cells #[.int .i64 g.k, .int .i64 g.m, .int .i64 g.z, .int .i64 g.s, .int .i64 g.t, .int .i64 g.o, .map (some b)] 72)) : CatI w2 w1.heap.size b g [] NoB ∧ Below w.heap.size w w2 := by
  subst hb
  have zc : ∀ j, w2.cell? ⟨w1.heap.size, j, none⟩ = (#[Value.int .i64 g.k, .int .i64 g.m, .int .i64 g.z, .int .i64 g.s, .int .i64 g.t, .int .i64 g.o, .map (some w.heap.size)] : Array Value)[j]? := fun j => by rw [h2]; exact World.cell?_alloc_new _ _ _ _
  have b1 : Below w.heap.size w w1 := by rw [h1]; exact belL _ _
  have b2 : Below w1.heap.size w1 w2 := by rw [h2]; exact belL _ _
  have m1 : MapS Try.prog 9 w1 w.heap.size (fun _ => none) := by rw [h1]; exact MapS.made _ _ _
  refine ⟨⟨⟨zc 0, zc 1, zc 2, zc 3, zc 4, zc 5⟩, zc 6, (m1.below b2).congr fun x => rfl, (fun c hc => by cases hc), InvC.nil hg, hg, gw, by rw [h2]; simp, (fun c hc => by cases hc), fun q hq => hq.elim, fun q => q, fun q => q⟩, b1.stepL b2 b1.size⟩
set_option maxRecDepth 100000 in
set_option maxHeartbeats 4000000 in
theorem cnew19_any {w : World} {g : GeoS} (hgw : g.Wf) {va : Option Addr} {vc : Nat} {LV : List ObV} (hv : RdO w (.slice va LV.length vc) LV) (ll : LV.length ≤ 1000) {X : Int} (hX : neCX g (oL LV) = X) :
    Calls Try.prog 12 #[aggG g, .slice va LV.length vc] w (NewC19 w g LV X) := by
  obtain ⟨cx, hcx⟩ : ∃ x, Hid (chG g = x) := ⟨_, rfl⟩
  have KC := fun V => @lcheck_any V g hgw _ hcx.out
  have HX1 : Hid (¬ cx = 0 → X = cx) := fun q => by
    rw [← hX, ← hcx.out]
    unfold neCX
    by_cases k : okG g
    · exact absurd (by rw [← hcx.out]; exact if_pos k) q
    · rw [if_pos k]; exact (if_neg k).symm
  have HOK : Hid (cx = 0 → okG g) := fun q => by
    by_cases k : okG g
    · exact k
    · have h : chG g = 50 := if_neg k
      rw [hcx.out, q] at h
      cases h
  have HN : Hid (okG g → (neCL g [] (oL LV) = none ∨ g.o < (LV.length : Int)) → X = 1) := fun q q2 => by
    rw [← hX]
    unfold neCX
    rw [if_neg (fun w => w q), oL_length]
    by_cases k : g.o < (LV.length : Int)
    · rw [if_pos k]
    · rw [if_neg k, if_pos (q2.resolve_right k)]
  have HY : Hid (okG g → (LV.length : Int) ≤ g.o → ∀ L, neCL g [] (oL LV) = some L → X = 0) := fun q q2 L e => by
    rw [← hX]
    unfold neCX
    rw [if_neg (fun w => w q), oL_length, if_neg (by omega), if_neg (by rw [e]; exact fun w => by cases w)]
  have HV := hidK hv
  have HG := hidK hgw
  have T3 : Hid (∀ V, Below (w.alloc (.cells (cellsG g) 24)).heap.size (w.alloc (.cells (cellsG g) 24)) V → GeoAt V w.heap.size g ∧ Below w.heap.size w V) := geo_laid w g 24
  clear hX hcx hv hgw
  obtain ⟨k, m, z, s, t, o⟩ := g
  obtain ⟨W, hW⟩ : ∃ W, W = w.alloc (.cells #[.int .i64 k, .int .i64 m, .int .i64 z, .int .i64 s, .int .i64 t, .int .i64 o] 24) := ⟨_, rfl⟩
  have T4 : Hid (∀ V, Below W.heap.size W V → GeoAt V w.heap.size ⟨k, m, z, s, t, o⟩ ∧ Below w.heap.size w V) := by rw [hW]; exact T3
  rw [aggE] at KC ⊢
  obtain ⟨⟨y0, y1, y2, y3, y4, y5⟩, _⟩ := T4.out W (Below.refl _ _)
  simp only at y0 y1 y2 y3 y4 y5
  clear T3
  have hmm := @run_makeMap Try.prog
  go_enter Try.func12, Try.ntmps12
  go_wp2_with fail
  rw [← hW]
  clear hW
  refine (KC _).mono ?_
  clear KC y0 y1 y2 y3 y4 y5
  rintro _ w1 ⟨rfl, b1⟩
  obtain ⟨⟨y0, y1, y2, y3, y4, y5⟩, BW⟩ := T4.out w1 b1
  simp only at y0 y1 y2 y3 y4 y5
  by_cases hx : cx = 0
  rotate_left
  · have q1 : (cx == 0) = false := beq_eq_false_iff_ne.2 hx
    have q2 : (cx != 0) = true := by simp [bne, q1]
    have F : Hid (NewC19 w ⟨k, m, z, s, t, o⟩ LV X (.returned (.tuple #[.pointer none, .int .i64 cx])) w1) := by
      have e := HX1.out hx
      rw [e]
      exact Or.inr ⟨hx, rfl, BW⟩
    clear HX1 HN HY HOK T4 BW hmm
    go_wp2
    exact bodyPost_ret (v := .tuple #[.pointer none, .int .i64 cx]) (by simp [results, Try.results12, go_sem]) rfl F.out
  subst hx
  have OK := hidK (HOK.out rfl)
  have N1 := hidK (HN.out OK.out)
  have Y1 := hidK (HY.out OK.out)
  clear HX1 HN HY HOK T4 b1
  go_wp2_with fail
  obtain ⟨w2, hw2⟩ : ∃ x, x = w1.alloc (.map #[] 0) := ⟨_, rfl⟩
  obtain ⟨w3, hw3⟩ : ∃ x, x = w2.alloc (.cells #[.int .i64 k, .int .i64 m, .int .i64 z, .int .i64 s, .int .i64 t, .int .i64 o, .map (some w1.heap.size)] 72) := ⟨_, rfl⟩
  obtain ⟨mb, hmb⟩ : ∃ x, x = w1.heap.size := ⟨_, rfl⟩
  obtain ⟨C3, B3⟩ := CatI.start (w2 := w3) (g := ⟨k, m, z, s, t, o⟩) OK.out HG.out hmb hw2 (by rw [hmb]; exact hw3)
  have e2 : w2.heap.size = w1.heap.size + 1 := by rw [hw2]; simp
  obtain ⟨cb, hcb⟩ : ∃ x, x = w1.heap.size + 1 := ⟨_, rfl⟩
  rw [e2, ← hcb] at C3
  have BW3 := hidK (BW.stepL B3 BW.size)
  have LB : Hid (w.heap.size ≤ cb ∧ w.heap.size ≤ mb) := by
    have := BW.size
    exact ⟨by rw [hcb]; omega, by rw [hmb]; exact this⟩
  have CI3 := hidK C3
  rw [← hw2, ← hw3, ← hcb, ← hmb]
  clear hw2 hw3 hcb hmb e2 C3 B3 BW y0 y1 y2 y3 y4 y5 hmm
  go_loopw [21] (fun i wr => ∃ (r : Nat) (M : List ObV), r ≤ LV.length ∧ i = .int .i64 (r : Int) ∧ Hid (neCL ⟨k, m, z, s, t, o⟩ [] (oL (LV.take r)) = some (oL M)) ∧ Hid (CatI wr cb mb ⟨k, m, z, s, t, o⟩ M NoB) ∧ Hid (Below w.heap.size w wr) ∧ Hid (M.length = r)) (fun i _ => LV.length - (intOf i).toNat)
  case atStart => exact ⟨0, [], Nat.zero_le _, rfl, rfl, CI3.out, BW3.out, rfl⟩
  case round =>
    clear CI3 BW3
    obtain ⟨r, M, hr, rfl, hN, hC, hB, hL⟩ := hrel
    by_cases hlt : r < LV.length
    · have hlt' : (r : Int) < (LV.length : Int) := by omega
      obtain ⟨b, off, ea, hb, cz⟩ := (HV.out.below hB.out).at hlt
      subst ea
      obtain ⟨ST1, ST2⟩ := ne_step (g := ⟨k, m, z, s, t, o⟩) hlt hN.out
      generalize LV.getD r default = c at cz ST1 ST2
      have OKc := cz.ok19
      obtain ⟨⟨ky, ln, ep, st⟩, vs⟩ := c
      obtain ⟨sa, sc, esv⟩ := cz.rs.form
      simp only at esv ST1 ST2
      subst esv
      have S1 := hidK ST1
      have S2 := hidK ST2
      have z0 : wr.cell? ⟨b, off + r * 4, none⟩ = some (.string ⟨ky.toArray⟩) := cz.c0
      have z1 : wr.cell? ⟨b, off + r * 4 + 1, none⟩ = some (.int .i64 ln) := cz.c1
      have z2 : wr.cell? ⟨b, off + r * 4 + 2, none⟩ = some (.int .i64 ep) := cz.c2
      have z3 : wr.cell? ⟨b, off + r * 4 + 3, none⟩ = some (.slice sa st.length sc) := cz.c3
      obtain ⟨V, hV⟩ : ∃ V, V = wr.alloc (.cells #[.string ⟨ky.toArray⟩, .int .i64 ln, .int .i64 ep, .slice sa st.length sc] 52) := ⟨_, rfl⟩
      have TV : Hid (∀ X, Below V.heap.size V X → Below wr.heap.size wr X ∧ X.cell? ⟨wr.heap.size, 0, none⟩ = some (.string ⟨ky.toArray⟩) ∧ X.cell? ⟨wr.heap.size, 1, none⟩ = some (.int .i64 ln) ∧ X.cell? ⟨wr.heap.size, 2, none⟩ = some (.int .i64 ep) ∧ X.cell? ⟨wr.heap.size, 3, none⟩ = some (.slice sa st.length sc) ∧ ∀ j, X.frozen? ⟨wr.heap.size, j, none⟩ = false) := by rw [hV]; exact box4 _ _ _ _ _ _
      have BV := (TV.out V (Below.refl _ _)).1
      obtain ⟨hs, hhs⟩ : ∃ x, Hid ((finV M ky).isSome = x) := ⟨_, rfl⟩
      obtain ⟨px, hpx⟩ : ∃ x, Hid (puX ⟨k, m, z, s, t, o⟩ (oL M) ⟨ky, ln, ep, st⟩ = x) := ⟨_, rfl⟩
      have K1 := chas19_any (hC.out.below BV) OKc.ky hhs.out
      have OKH := hidK OKc
      clear cz hb ST1 ST2 OKc BV
      go_wp2_with fail
      rw [← hV]
      clear hV
      refine K1.mono ?_
      clear K1 z0 z1 z2 z3
      rintro _ w4 ⟨rfl, b4⟩
      obtain ⟨B4, q0, q1, q2, q3, _⟩ := TV.out w4 b4
      cases hs with
      | true =>
        have nf : ¬ finK (oL M) ky = none := fun q => by
          have h1 := hhs.out
          rw [finV_none.2 q] at h1
          cases h1
        obtain rfl := N1.out (Or.inl (S2.out fun q => nf q.2))
        have F : Hid (NewC19 w ⟨k, m, z, s, t, o⟩ LV 1 (.returned (.tuple #[.pointer none, .int .i64 1])) w4) := Or.inr ⟨by decide, rfl, hB.out.stepL B4 hB.out.size⟩
        clear S1 S2 N1 Y1 TV hC hB hN hL hhs hpx nf b4 B4 OKH
        go_wp2
        exact bodyPost_ret (v := .tuple #[.pointer none, .int .i64 1]) (by simp [results, Try.results12, go_sem]) rfl F.out
      | false =>
      have nf : finK (oL M) ky = none := finV_none.1 (by
        have h1 := hhs.out
        cases e : finV M ky with
        | none => rfl
        | some c => rw [e] at h1; cases h1)
      have NF := hidK nf
      have K2 := cput19_any (c := ⟨⟨ky, ln, ep, st⟩, .slice sa st.length sc⟩) (hC.out.below B4) (OKH.out.bel B4) hpx.out
      have BB := hidK (hB.out.stepL B4 hB.out.size)
      clear nf b4 B4 TV hhs
      go_wp2_with fail
      refine K2.mono ?_
      clear K2 q0 q1 q2 q3
      rintro _ w5 ⟨M5, rfl, C5, e5, t5⟩
      have B5 := hidK (BB.out.trans (t5.below (fun y hy => by rw [hy]; exact LB.out.2) BB.out.size))
      by_cases hp : px = 0
      rotate_left
      · have q1 : (px == 0) = false := beq_eq_false_iff_ne.2 hp
        have q2 : (px != 0) = true := by simp [bne, q1]
        have XX : X = 1 := by
          by_cases rm : finK (oL M) (⟨ky, ln, ep, st⟩ : ObS).key ≠ none ∨ ((oL M).length : Int) < o
          · by_cases f : fitC ⟨k, m, z, s, t, o⟩ (oL M) ⟨ky, ln, ep, st⟩
            · exact absurd (hpx.out.symm.trans (puX_ok rm f)) hp
            · exact N1.out (Or.inl (S2.out fun q => f q.1))
          · refine N1.out (Or.inr ?_)
            have h1 : ¬ ((oL M).length : Int) < o := fun q => rm (Or.inr q)
            rw [oL_length, hL.out] at h1
            show o < _
            omega
        subst XX
        have F : Hid (NewC19 w ⟨k, m, z, s, t, o⟩ LV 1 (.returned (.tuple #[.pointer none, .int .i64 1])) w5) := Or.inr ⟨by decide, rfl, B5.out⟩
        clear S1 S2 N1 Y1 hC hB hN hL hpx NF C5 e5 t5 OKH BB
        go_wp2
        exact bodyPost_ret (v := .tuple #[.pointer none, .int .i64 1]) (by simp [results, Try.results12, go_sem]) rfl F.out
      · subst hp
        rw [if_pos rfl] at e5
        have FT : fitC ⟨k, m, z, s, t, o⟩ (oL M) ⟨ky, ln, ep, st⟩ := by
          by_cases f : fitC ⟨k, m, z, s, t, o⟩ (oL M) ⟨ky, ln, ep, st⟩
          · exact f
          · exfalso
            have h1 := hpx.out
            unfold puX at h1
            by_cases rm : finK (oL M) (⟨ky, ln, ep, st⟩ : ObS).key ≠ none ∨ ((oL M).length : Int) < o
            · rw [if_neg (fun q => q rm), if_pos f] at h1; cases h1
            · rw [if_pos rm] at h1; cases h1
        have NN : Hid (neCL ⟨k, m, z, s, t, o⟩ [] (oL (LV.take (r + 1))) = some (oL M5)) := by
          show _ = _
          rw [e5]
          exact S1.out ⟨FT, NF.out⟩
        have L5 : Hid (M5.length = r + 1) := by
          show _ = _
          have h1 := congrArg List.length e5
          rw [oL_length, wiC_length hC.out.inv.rise, if_pos NF.out, oL_length, hL.out] at h1
          exact h1
        have C6 := hidK C5
        clear S1 S2 hC hB hN hL hpx NF C5 e5 t5 OKH BB FT
        go_wp2
        go_roundw
        case rel => exact ⟨r + 1, M5, by omega, by go_num, NN, C6, B5, L5⟩
        case measure => simp [intOf]; omega
    · obtain rfl : r = LV.length := by omega
      have hge : ¬ (LV.length : Int) < (LV.length : Int) := by omega
      have e := hN.out
      rw [List.take_length] at e
      have XX : X = 0 := Y1.out (by have := hC.out.few.1; rw [hL.out] at this; exact this) _ e
      subst XX
      have F : Hid (NewC19 w ⟨k, m, z, s, t, o⟩ LV 0 (.returned (.tuple #[.pointer (some ⟨cb, 0, none⟩), .int .i64 0])) wr) := Or.inl ⟨rfl, cb, mb, M, rfl, e, hC.out, LB.out.1, LB.out.2, hB.out⟩
      clear N1 Y1 hN hC hB hL e
      go_wp2
      exact bodyPost_ret (v := .tuple #[.pointer (some ⟨cb, 0, none⟩), .int .i64 0]) (by simp [results, Try.results12, go_sem]) rfl F.out
end Go.Proofs.Ytndlfmofjmieaaa.Gf
