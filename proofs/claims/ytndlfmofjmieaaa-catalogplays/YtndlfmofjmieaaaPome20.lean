/- TEXTS JOINED: CtRefE, CtRefF. -/
import Derived.Test.YtndlfmofjmieaaaPome19
import Derived.Deep.CutRange
namespace Go.Proofs.Ytndlfmofjmieaaa.Gf
set_option linter.unusedVariables false
set_option linter.unusedSimpArgs false
open Go.RowKit
theorem OwnOb.turnO {w w' : World} {base : Nat} {u : Value} {M : List ObV} {G : Nat → Prop} (h : OwnOb w base u M) (t : TurnG G w w') (hq : ∀ q, u.ownBlock = some q → ¬ G q) (hi : ∀ c ∈ M, ObOk w' c) : OwnOb w' base u M := by
  refine ⟨?_, hi, fun c hc => (h.ap c hc).mono t.size⟩
  obtain ⟨h0, k | ⟨q, cap, cur, e, hg, hh, r⟩⟩ := h.row
  · exact ⟨h0, Or.inl k⟩
  · have hb : u.ownBlock = some q := by rw [e]; rfl
    have hlt : q < w.heap.size := (Array.getElem?_eq_some_iff.1 hh).1
    exact ⟨h0, Or.inr ⟨q, cap, cur, e, hg, by rw [t.block q hlt (hq q hb)]; exact hh, r⟩⟩
theorem OwnOb.cap {w : World} {base : Nat} {v : Value} {M : List ObV} (h : OwnOb w base v M) : CapO v := by
  intro a n' c e
  obtain ⟨_, ⟨h1, _⟩ | ⟨g, cap, cur, hv, _, _, hle, _⟩⟩ := h.row
  · rw [h1] at e; simp at e; obtain ⟨rfl, rfl, rfl⟩ := e; exact ⟨Nat.le_refl _, fun _ => rfl⟩
  · rw [hv] at e; simp at e; obtain ⟨rfl, rfl, rfl⟩ := e; exact ⟨hle, fun h => by cases h⟩
theorem OwnOb.form19 {w : World} {base : Nat} {v : Value} {M : List ObV} (h : OwnOb w base v M) : ∃ a c, v = .slice a M.length c ∧ (a = none ∨ ∃ b off, a = some ⟨b, off, none⟩) := by
  obtain ⟨_, ⟨h1, h2⟩ | ⟨g, cap, cur, hv, _⟩⟩ := h.row
  · exact ⟨none, 0, by rw [h1, h2], Or.inl rfl⟩
  · exact ⟨_, cap, hv, Or.inr ⟨g, 0, rfl⟩⟩
/-- the document's catalog as it lies, of its own -/
structure CatN (w wr : World) (rb : Nat) (g : GeoS) (LV : List ObV) (L : List ObS) (v : Value) (M : List ObV) (r : Nat) : Prop where
  ge : GeoAt wr rb g
  c6 : wr.cell? ⟨rb, 6, none⟩ = some v
  fz : wr.frozen? ⟨rb, 6, none⟩ = false
  ow : OwnOb wr 0 v M
  oq : ∀ q, v.ownBlock = some q → rb < q
  eq : oL M = L
  mem : ∀ x ∈ M, x ∈ LV
  lt : rb < wr.heap.size
  be : Below w.heap.size w wr
  le : w.heap.size ≤ rb
  few : M.length ≤ r
theorem CatN.below {w wr V : World} {rb : Nat} {g : GeoS} {LV : List ObV} {L : List ObS} {v : Value} {M : List ObV} {r : Nat} (h : CatN w wr rb g LV L v M r) (b : Below wr.heap.size wr V) : CatN w V rb g LV L v M r := by
  obtain ⟨⟨x0, x1, x2, x3, x4, x5⟩, c6, fz, ow, oq, eq, mem, lt, be, le, few⟩ := h
  have k : ∀ j, V.cell? ⟨rb, j, none⟩ = wr.cell? ⟨rb, j, none⟩ := fun j => b.cell (p := ⟨rb, j, none⟩) lt
  exact ⟨⟨(k _).trans x0, (k _).trans x1, (k _).trans x2, (k _).trans x3, (k _).trans x4, (k _).trans x5⟩, (k _).trans c6, (b.frozen (p := ⟨rb, 6, none⟩) lt).trans fz, ow.later b, oq, eq, mem, Nat.lt_of_lt_of_le lt b.size, be.step16 b be.size, le, few⟩
theorem CatN.cat {w wr : World} {rb : Nat} {g : GeoS} {LV : List ObV} {L : List ObS} {v : Value} {M : List ObV} {r : Nat} (h : CatN w wr rb g LV L v M r) (hr : r ≤ 100000) (hs : ∀ x ∈ LV, x.o.st.length ≤ 100000) : CatW wr rb g v M :=
  ⟨h.ge, h.c6, h.ow.rd (by have := h.few; omega), h.lt, by have := h.few; omega, fun i hi => by
    rw [show M.getD i default = M[i] by simp [List.getD, hi]]
    exact hs _ (h.mem _ (List.getElem_mem hi))⟩
/-- behind the store -/
theorem CatN.store {w wr V : World} {rb : Nat} {g : GeoS} {LV : List ObV} {L L2 : List ObS} {v v2 : Value} {M M2 : List ObV} {r r2 : Nat} (h : CatN w wr rb g LV L v M r) (b : Below wr.heap.size wr V) (hr : RdO w (.slice none 0 0) [] ∨ True) (ow : OwnOb V 0 v2 M2) (oq : ∀ q, v2.ownBlock = some q → wr.heap.size ≤ q) (eq : oL M2 = L2) (mem : ∀ x ∈ M2, x ∈ LV) (few : M2.length ≤ r2) (ok : ∀ x ∈ LV, ObOk w x) : CatN w (V.setCell ⟨rb, 6, none⟩ v2) rb g LV L2 v2 M2 r2 := by
  have hb := h.below b
  have o : Only rb V (V.setCell ⟨rb, 6, none⟩ v2) := (Only.refl rb V).setCell 6 v2
  obtain ⟨x0, x1, x2, x3, x4, x5⟩ := hb.ge
  have be : Below w.heap.size w (V.setCell ⟨rb, 6, none⟩ v2) := hb.be.trans (o.below hb.le)
  refine ⟨⟨(World.cell?_setCell_other _ _ _ _ (by simp)).trans x0, (World.cell?_setCell_other _ _ _ _ (by simp)).trans x1, (World.cell?_setCell_other _ _ _ _ (by simp)).trans x2, (World.cell?_setCell_other _ _ _ _ (by simp)).trans x3, (World.cell?_setCell_other _ _ _ _ (by simp)).trans x4, (World.cell?_setCell_other _ _ _ _ (by simp)).trans x5⟩, World.cell?_setCell_same _ _ _ hb.c6, by rw [World.frozen?_setCell]; exact hb.fz, ?_, fun q e => Nat.lt_of_lt_of_le h.lt (oq q e), eq, mem, by rw [o.size]; exact hb.lt, be, h.le, few⟩
  refine ow.turnO (G := fun k => k = rb) (o.turnG rfl) (fun q e e2 => ?_) (fun c hc => ?_)
  · have := oq q e
    have := h.lt
    omega
  · have z := ok c (mem c hc)
    exact ⟨z.wl, z.we, z.ky, z.rs.below be, z.wi⟩
theorem finI_neg19 (L : List ObS) (k : List UInt8) : finI L k < 0 ↔ finK L k = none := by
  rw [idK_fin]
  unfold finI
  by_cases q : idK L k < L.length
  · rw [if_pos q, if_pos q]
    constructor
    · intro h; omega
    · intro h; cases h
  · rw [if_neg q, if_neg q]
    constructor
    · intro _; rfl
    · intro _; decide
theorem wiC_length19 (L : List ObS) (o : ObS) : (wiC L o).length ≤ L.length + 1 := by
  induction L with
  | nil => exact Nat.le_refl _
  | cons y l ih =>
    unfold wiC
    split
    · simp; exact ih
    · split
      · simp
      · simp
def New19 (w : World) (g : GeoS) (LV : List ObV) (X : Int) (e : Ending) (w' : World) : Prop :=
  (X = 0 ∧ ∃ rb L v M, e = .returned (.tuple #[.pointer (some ⟨rb, 0, none⟩), .int .i64 0]) ∧ neCL g [] (oL LV) = some L ∧ CatN w w' rb g LV L v M LV.length) ∨ (¬ X = 0 ∧ e = .returned (.tuple #[.pointer none, .int .i64 X]) ∧ Below w.heap.size w w')
set_option maxRecDepth 100000 in
set_option maxHeartbeats 4000000 in
theorem rnew19_any {w : World} {g : GeoS} (hgw : g.Wf) {va : Option Addr} {vc : Nat} {LV : List ObV} (hv : RdO w (.slice va LV.length vc) LV) (ll : LV.length ≤ 1000) (hs : ∀ x ∈ LV, x.o.st.length ≤ 100000) {X : Int} (hX : neCX g (oL LV) = X) :
    Calls Try.prog 13 #[aggG g, .slice va LV.length vc] w (New19 w g LV X) := by
  obtain ⟨cx, hcx⟩ : ∃ x, Hid (chG g = x) := ⟨_, rfl⟩
  have KC := fun V => @rcheckL_any V g hgw _ hcx.out
  have LG := geo_laid w g 24
  obtain ⟨W, hW⟩ : ∃ W, W = w.alloc (.cells #[.int .i64 g.k, .int .i64 g.m, .int .i64 g.z, .int .i64 g.s, .int .i64 g.t, .int .i64 g.o] 24) := ⟨_, rfl⟩
  have T3 : Hid (∀ V, Below W.heap.size W V → GeoAt V w.heap.size g ∧ Below w.heap.size w V) := by rw [hW]; exact LG
  clear LG
  have HX1 : Hid (¬ cx = 0 → X = cx) := fun q => by
    rw [← hX, ← hcx.out]
    unfold neCX
    by_cases k : okG g
    · exact absurd (by rw [← hcx.out]; exact if_pos k) q
    · rw [if_pos k]; exact (if_neg k).symm
  have HOK : Hid (cx = 0 → okG g) := fun q => by
    by_cases k : okG g
    · exact k
    · have h : chG g = 50 := if_neg k
      rw [hcx.out, q] at h
      cases h
  have HX2 : Hid (okG g → g.o < (LV.length : Int) → X = 1) := fun q q2 => by
    rw [← hX]
    unfold neCX
    rw [if_neg (fun w => w q), oL_length, if_pos q2]
  have HX3 : Hid (okG g → ¬ g.o < (LV.length : Int) → (neCL g [] (oL LV) = none → X = 1) ∧ (∀ L, neCL g [] (oL LV) = some L → X = 0)) := fun q q2 => by
    rw [← hX]
    unfold neCX
    rw [if_neg (fun w => w q), oL_length, if_neg q2]
    exact ⟨fun e => if_pos e, fun L e => if_neg (by rw [e]; exact fun w => by cases w)⟩
  have HV := hidC hv
  have HS := hidC hs
  have HG := hidC hgw
  clear hX hcx hv hs hgw
  obtain ⟨k, m, z, s, t, o⟩ := g
  simp only at hW
  rw [aggE] at KC ⊢
  obtain ⟨⟨y0, y1, y2, y3, y4, y5⟩, _⟩ := T3.out W (Below.refl _ _)
  simp only at y0 y1 y2 y3 y4 y5
  go_enter Try.func13, Try.ntmps13
  go_wp2_with fail
  rw [← hW]
  clear hW
  refine (KC _).mono ?_
  clear KC y0 y1 y2 y3 y4 y5
  rintro _ w1 ⟨rfl, b1⟩
  obtain ⟨⟨y0, y1, y2, y3, y4, y5⟩, BW⟩ := T3.out w1 b1
  simp only at y0 y1 y2 y3 y4 y5
  by_cases hx : cx = 0
  rotate_left
  · have q1 : (cx == 0) = false := beq_eq_false_iff_ne.2 hx
    have q2 : (cx != 0) = true := by simp [bne, q1]
    have F : Hid (New19 w ⟨k, m, z, s, t, o⟩ LV X (.returned (.tuple #[.pointer none, .int .i64 cx])) w1) := by
      have e := HX1.out hx
      rw [e]
      exact Or.inr ⟨hx, rfl, BW⟩
    clear HX1 HX2 HX3 HOK T3 BW
    go_wp2
    exact bodyPost_ret (v := .tuple #[.pointer none, .int .i64 cx]) (by simp [results, Try.results13, go_sem]) rfl F.out
  subst hx
  have OK := hidC (HOK.out rfl)
  by_cases hl : (LV.length : Int) > o
  · have F : Hid (New19 w ⟨k, m, z, s, t, o⟩ LV X (.returned (.tuple #[.pointer none, .int .i64 1])) w1) := by
      have e := HX2.out OK.out hl
      rw [e]
      exact Or.inr ⟨by decide, rfl, BW⟩
    clear HX1 HX2 HX3 HOK T3 BW
    go_wp2
    exact bodyPost_ret (v := .tuple #[.pointer none, .int .i64 1]) (by simp [results, Try.results13, go_sem]) rfl F.out
  obtain ⟨HN, HSM⟩ := HX3.out OK.out (by simpa using hl)
  have HN1 := hidC HN
  have HN2 := hidC HSM
  obtain ⟨w2, hw2⟩ : ∃ x, x = w1.alloc (.cells #[.int .i64 k, .int .i64 m, .int .i64 z, .int .i64 s, .int .i64 t, .int .i64 o, .slice none 0 0] 46) := ⟨_, rfl⟩
  have CN : Hid (CatN w w2 w1.heap.size ⟨k, m, z, s, t, o⟩ LV [] (.slice none 0 0) [] 0) := by
    have zc : ∀ j, w2.cell? ⟨w1.heap.size, j, none⟩ = (#[Value.int .i64 k, .int .i64 m, .int .i64 z, .int .i64 s, .int .i64 t, .int .i64 o, .slice none 0 0] : Array Value)[j]? := fun j => by rw [hw2]; exact World.cell?_alloc_new _ _ _ _
    exact ⟨⟨zc 0, zc 1, zc 2, zc 3, zc 4, zc 5⟩, zc 6, (by rw [hw2]; exact World.frozen?_alloc_new _ _ _ _), OwnOb.nil _ _, (fun q e => by cases e), rfl, (fun x hx => by cases hx), (by rw [hw2]; simp), (by rw [hw2]; exact BW.step16 (belR _ _) BW.size), BW.size, Nat.le_refl _⟩
  obtain ⟨rb, hrb⟩ : ∃ x, x = w1.heap.size := ⟨_, rfl⟩
  rw [← hrb] at CN
  clear HN HSM HX1 HX2 HX3 HOK T3 BW b1
  go_wp2_with fail
  rw [← hw2, ← hrb]
  clear hw2 hrb y0 y1 y2 y3 y4 y5
  go_loopw [8] (fun i wr => ∃ (r : Nat) (L : List ObS) (v : Value) (M : List ObV), r ≤ LV.length ∧ i = .int .i64 (r : Int) ∧ Hid (neCL ⟨k, m, z, s, t, o⟩ [] (oL (LV.take r)) = some L) ∧ Hid (CatN w wr rb ⟨k, m, z, s, t, o⟩ LV L v M r)) (fun i _ => LV.length - (intOf i).toNat)
  case atStart => exact ⟨0, [], _, [], Nat.zero_le _, rfl, rfl, CN.out⟩
  case round =>
    clear CN
    obtain ⟨r, L, v, M, hr, rfl, hN, hC⟩ := hrel
    by_cases hlt : r < LV.length
    · have hlt' : (r : Int) < (LV.length : Int) := by omega
      have hv := HV.out.below hC.out.be
      obtain ⟨b, off, ea, hb, cz⟩ := hv.at hlt
      subst ea
      obtain ⟨ST1, ST2⟩ := ne_step (g := ⟨k, m, z, s, t, o⟩) hlt hN.out
      have MEMc : Hid (LV.getD r default ∈ LV) := by
        show _ ∈ _
        rw [show LV.getD r default = LV[r] by simp [List.getD, hlt]]
        exact List.getElem_mem hlt
      have CEL : Hid (∀ V, Below w.heap.size w V → ObAt V b (off + r * 4) (LV.getD r default)) := fun V bV => by
        obtain ⟨b9, off9, e9, _, z9⟩ := (HV.out.below bV).at hlt
        simp at e9
        obtain ⟨rfl, rfl⟩ := e9
        exact z9
      have HSC := HS.out _ MEMc.out
      have OK19 : Hid (∀ x ∈ LV, ObOk w x) := rdO_ok HV.out
      generalize LV.getD r default = c at cz ST1 ST2 MEMc CEL HSC
      obtain ⟨⟨ky, ln, ep, st⟩, vs⟩ := c
      obtain ⟨sa, sc, esv⟩ := cz.rs.form
      simp only at esv ST1 ST2 HSC
      subst esv
      have S1 := hidC ST1
      have S2 := hidC ST2
      have SF : Hid (∀ V, Below w.heap.size w V → (fun V => V.cell? ⟨b, off + r * 4, none⟩ = some (.string ⟨ky.toArray⟩) ∧ V.cell? ⟨b, off + r * 4 + 1, none⟩ = some (.int .i64 ln) ∧ V.cell? ⟨b, off + r * 4 + 2, none⟩ = some (.int .i64 ep) ∧ V.cell? ⟨b, off + r * 4 + 3, none⟩ = some (.slice sa st.length sc)) V) := fun V bV => by
        have q := CEL.out V bV
        exact ⟨q.c0, q.c1, q.c2, q.c3⟩
      have OC : Hid (∀ V, Below w.heap.size w V → ObOk V ⟨⟨ky, ln, ep, st⟩, .slice sa st.length sc⟩) := fun V bV => (CEL.out V bV).ok19
      have EQ := hidC hC.out.eq
      have K1 := rfits19_any (hC.out.cat (by omega) HS.out) HG.out (c := ⟨⟨ky, ln, ep, st⟩, .slice sa st.length sc⟩) cz.ok19 HSC rfl
      rw [EQ.out] at K1
      obtain ⟨fb, hfb⟩ : ∃ x, Hid (decide (fitC ⟨k, m, z, s, t, o⟩ L ⟨ky, ln, ep, st⟩) = x) := ⟨_, rfl⟩
      simp only at K1
      rw [hfb.out] at K1
      obtain ⟨c0, c1, c2, c3⟩ := SF.out wr hC.out.be
      clear ST1 ST2 cz CEL hv hb HSC
      go_wp2_with fail
      refine K1.mono ?_
      clear K1 c0 c1 c2 c3
      rintro _ w3 ⟨rfl, b3⟩
      have C3 := hidC (hC.out.below b3)
      clear hC b3
      cases fb with
      | false =>
        have nf : ¬ fitC ⟨k, m, z, s, t, o⟩ L ⟨ky, ln, ep, st⟩ := of_decide_eq_false hfb.out
        obtain rfl := HN1.out (S2.out fun q => nf q.1)
        have F : Hid (New19 w ⟨k, m, z, s, t, o⟩ LV 1 (.returned (.tuple #[.pointer none, .int .i64 1])) w3) := Or.inr ⟨by decide, rfl, C3.out.be⟩
        clear HN1 HN2 S1 S2 SF OC C3 nf hfb hN EQ
        go_wp2
        exact bodyPost_ret (v := .tuple #[.pointer none, .int .i64 1]) (by simp [results, Try.results13, go_sem]) rfl F.out
      | true =>
      have YF := hidC (of_decide_eq_true hfb.out)
      have K2 := rfind19_any (C3.out.cat (by omega) HS.out) ky
      obtain ⟨fx, hfx⟩ : ∃ x, Hid (finI (oL M) ky = x) := ⟨_, rfl⟩
      rw [hfx.out] at K2
      have FK : Hid (fx < 0 ↔ finK L ky = none) := by
        show _ ↔ _
        rw [← hfx.out, EQ.out]
        exact finI_neg19 _ _
      obtain ⟨c0, c1, c2, c3⟩ := SF.out w3 C3.out.be
      clear hfb hfx
      go_wp2_with fail
      refine K2.mono ?_
      clear K2 c0 c1 c2 c3
      rintro _ w4 ⟨rfl, b4⟩
      have C4 := hidC (C3.out.below b4)
      clear C3 b4
      by_cases h0 : fx ≥ 0
      · have nf : ¬ finK L ky = none := fun q => by have := FK.out.2 q; omega
        obtain rfl := HN1.out (S2.out fun q => nf q.2)
        have F : Hid (New19 w ⟨k, m, z, s, t, o⟩ LV 1 (.returned (.tuple #[.pointer none, .int .i64 1])) w4) := Or.inr ⟨by decide, rfl, C4.out.be⟩
        clear HN1 HN2 S1 S2 SF OC C4 nf hN EQ FK YF
        go_wp2
        exact bodyPost_ret (v := .tuple #[.pointer none, .int .i64 1]) (by simp [results, Try.results13, go_sem]) rfl F.out
      have NK := hidC (FK.out.1 (by omega))
      have NEXT := hidC (S1.out ⟨YF.out, NK.out⟩)
      clear S1 S2 FK YF NK HN1 HN2 hN
      obtain ⟨ma, mc, emv, hform⟩ := C4.out.ow.form19
      subst emv
      have c6 : w4.drew.cell? ⟨rb, 6, none⟩ = some (.slice ma M.length mc) := C4.out.c6
      have BD : Below w4.heap.size w4 w4.drew := (Below.refl _ _).drew
      have C5 := hidC (C4.out.below BD)
      have K3 := rwith19_any (C5.out.ow.rd (by have := C5.out.few; omega)) C5.out.ow.cap hform (by have := C5.out.few; omega) (c := ⟨⟨ky, ln, ep, st⟩, .slice sa st.length sc⟩) (OC.out _ C5.out.be)
      have CS := SF.out w4 C4.out.be
      go_wp2_with fail
      refine wp_region_held_drew (S := fun V => V.cell? ⟨b, off + r * 4, none⟩ = some (.string ⟨ky.toArray⟩) ∧ V.cell? ⟨b, off + r * 4 + 1, none⟩ = some (.int .i64 ln) ∧ V.cell? ⟨b, off + r * 4 + 2, none⟩ = some (.int .i64 ep) ∧ V.cell? ⟨b, off + r * 4 + 3, none⟩ = some (.slice sa st.length sc)) (by kernel_rfl) CS (fun hHeld => ?_)
      clear CS
      refine tkH 0 ?_
      refine tkH 1 ?_
      refine tkH 2 ?_
      refine tkH 3 ?_
      refine tkH 5 ?_
      refine tkH 6 ?_
      refine tkH 7 ?_
      refine tkH 8 ?_
      refine rnH 4 (fun K' hK => ?_)
      go_simp
      refine koH hK (SF.out _ C5.out.be) fun hHeld => ?_
      clear hK K' hHeld
      refine rnH 9 (fun K' hK => ?_)
      go_simp
      go_at_call 36
      refine K3.mono ?_
      clear K3 c6
      rintro _ w6 ⟨v2, M2, rfl, ow2, oq2, eq2, mm2, b6⟩
      dsimp only
      have C6 := hidC (C5.out.below b6)
      have c6 := C6.out.c6
      have fz := C6.out.fz
      have ST := hidC (C5.out.store b6 (Or.inr trivial) ow2 oq2 (eq2.trans (by rw [EQ.out])) (fun x hx => by
        rcases mm2 x hx with h | h
        · exact C5.out.mem x h
        · rw [h]; exact MEMc.out) (r2 := r + 1) (by
        have h1 := wiC_length19 (oL M) ⟨ky, ln, ep, st⟩
        rw [← eq2, oL_length, oL_length] at h1
        have := C5.out.few
        omega) OK19.out)
      obtain ⟨va2, vc2, e2, _⟩ := ow2.form19
      subst e2
      refine koH hK (SF.out _ C6.out.be) fun hHeld => ?_
      clear hK K'
      refine tkH 10 ?_
      refine tkH 11 ?_
      clear hHeld
      refine rnH 12 (fun K' hK => ?_)
      go_simp
      refine koH hK (SF.out _ ST.out.be) fun hHeld => ?_
      clear hK K' hHeld
      refine wpAnyH_done (by kernel_rfl) ?_ _
      clear c6 fz C4 C5 C6 OC SF ow2 oq2 eq2 mm2 b6 BD
      go_wp2
      go_roundw
      case rel => exact ⟨r + 1, _, _, _, by omega, by go_num, NEXT, ST⟩
      case measure => simp [intOf]; omega
    · obtain rfl : r = LV.length := by omega
      have hge : ¬ (LV.length : Int) < (LV.length : Int) := by omega
      have e := hN.out
      rw [List.take_length] at e
      obtain rfl := HN2.out L e
      have F : Hid (New19 w ⟨k, m, z, s, t, o⟩ LV 0 (.returned (.tuple #[.pointer (some ⟨rb, 0, none⟩), .int .i64 0])) wr) := Or.inl ⟨rfl, rb, L, v, M, rfl, e, hC.out⟩
      clear HN1 HN2 hN hC e
      go_wp2
      exact bodyPost_ret (v := .tuple #[.pointer (some ⟨rb, 0, none⟩), .int .i64 0]) (by simp [results, Try.results13, go_sem]) rfl F.out
end Go.Proofs.Ytndlfmofjmieaaa.Gf

namespace Go.Proofs.Ytndlfmofjmieaaa.Gf
set_option linter.unusedVariables false
set_option linter.unusedSimpArgs false
open Go.RowKit
/-- the document's catalog, of its own -/
structure CatR (w : World) (rb : Nat) (g : GeoS) (LV : List ObV) (v : Value) : Prop where
  ge : GeoAt w rb g
  c6 : w.cell? ⟨rb, 6, none⟩ = some v
  ow : OwnOb w 0 v LV
  nb : v.ownBlock ≠ some rb
  fz : w.frozen? ⟨rb, 6, none⟩ = false
  lt : rb < w.heap.size
  few : LV.length ≤ 100
  sts : ∀ c ∈ LV, c.o.st.length ≤ 1000
  off : ∀ c ∈ LV, ApartG (fun x => x = rb) c.vs
theorem CatR.cat {w : World} {rb : Nat} {g : GeoS} {LV : List ObV} {v : Value} (h : CatR w rb g LV v) : CatW w rb g v LV :=
  ⟨h.ge, h.c6, h.ow.rd (by have := h.few; omega), h.lt, by have := h.few; omega, fun i hi => by
    rw [show LV.getD i default = LV[i] by simp [List.getD, hi]]
    exact Nat.le_trans (h.sts _ (List.getElem_mem hi)) (by decide)⟩
theorem CatR.turn {w w' : World} {rb : Nat} {g : GeoS} {LV : List ObV} {v : Value} {G : Nat → Prop} (h : CatR w rb g LV v) (t : TurnG G w w') (gr : ¬ G rb) (gv : ∀ q, v.ownBlock = some q → ¬ G q) (gs : ∀ c ∈ LV, ApartG G c.vs) : CatR w' rb g LV v := by
  obtain ⟨⟨x0, x1, x2, x3, x4, x5⟩, c6, ow, nb, fz, lt, few, sts, off⟩ := h
  have k : ∀ j, w'.cell? ⟨rb, j, none⟩ = w.cell? ⟨rb, j, none⟩ := fun j => t.cell (p := ⟨rb, j, none⟩) lt gr
  exact ⟨⟨(k _).trans x0, (k _).trans x1, (k _).trans x2, (k _).trans x3, (k _).trans x4, (k _).trans x5⟩, (k _).trans c6, ow.turnO t gv fun c hc => (ow.ea c hc).offG (gs c hc) t, nb, (t.frozen (p := ⟨rb, 6, none⟩) lt gr).trans fz, Nat.lt_of_lt_of_le lt t.size, few, sts, off⟩
theorem CatR.below {w w' : World} {rb : Nat} {g : GeoS} {LV : List ObV} {v : Value} (h : CatR w rb g LV v) (b : Below w.heap.size w w') : CatR w' rb g LV v :=
  h.turn (Below.turnG b fun _ => False) (fun q => q) (fun _ _ q => q) fun c _ x n d e => Or.inr fun q => q
/-- a map turns: it is none of what the document's catalog reads -/
theorem CatR.mapped {w w' : World} {rb mb : Nat} {g : GeoS} {LV : List ObV} {v : Value} (h : CatR w rb g LV v) (im : IsMapB w mb) (t : TurnG (fun x => x = mb) w w') : CatR w' rb g LV v := by
  refine h.turn t (fun e => ?_) (fun q e e2 => ?_) fun c hc => (h.ow.ea c hc).rs.notMap im
  · have := h.c6
    rw [im.cell ⟨rb, 6, none⟩ e] at this
    cases this
  · obtain ⟨_, ⟨h1, _⟩ | ⟨gb, cap, cur, hv, _, hh, _⟩⟩ := h.ow.row
    · rw [h1] at e; cases e
    · rw [hv] at e
      have e3 : q = gb := (own_is19 e)
      obtain ⟨es, clock, hm⟩ := im
      rw [← e2, e3, hh] at hm
      cases hm
theorem CatR.start {w wr : World} {rb : Nat} {g : GeoS} {LV : List ObV} {L : List ObS} {v : Value} {M : List ObV} {r : Nat} (h : CatN w wr rb g LV L v M r) (hr : r ≤ 100) (ok : ∀ x ∈ LV, ObOk w x) (hs : ∀ x ∈ LV, x.o.st.length ≤ 1000) : CatR wr rb g M v :=
  ⟨h.ge, h.c6, h.ow, fun e => by have := h.oq _ e; omega, h.fz, h.lt, Nat.le_trans h.few hr, fun c hc => hs c (h.mem c hc), fun c hc x n d e => by
    rcases (ok c (h.mem c hc)).rs.lays x n d e with q | q
    · exact Or.inl q
    · exact Or.inr (by have := h.le; omega)⟩
/-- another list in its place -/
theorem CatR.store {w V : World} {rb : Nat} {g : GeoS} {LV : List ObV} {v v2 : Value} {M : List ObV} (h : CatR w rb g LV v) (b : Below w.heap.size w V) (ow : OwnOb V 0 v2 M) (oq : ∀ q, v2.ownBlock = some q → w.heap.size ≤ q) (few : M.length ≤ 100) (mem : ∀ x ∈ M, x.o.st.length ≤ 1000 ∧ ApartG (fun x => x = rb) x.vs) : CatR (V.setCell ⟨rb, 6, none⟩ v2) rb g M v2 ∧ TurnG (fun x => x = rb) w (V.setCell ⟨rb, 6, none⟩ v2) := by
  have hb := h.below b
  have o : Only rb V (V.setCell ⟨rb, 6, none⟩ v2) := (Only.refl rb V).setCell 6 v2
  have t := o.turnG (G := fun x => x = rb) rfl
  obtain ⟨x0, x1, x2, x3, x4, x5⟩ := hb.ge
  refine ⟨⟨⟨(World.cell?_setCell_other _ _ _ _ (by simp)).trans x0, (World.cell?_setCell_other _ _ _ _ (by simp)).trans x1, (World.cell?_setCell_other _ _ _ _ (by simp)).trans x2, (World.cell?_setCell_other _ _ _ _ (by simp)).trans x3, (World.cell?_setCell_other _ _ _ _ (by simp)).trans x4, (World.cell?_setCell_other _ _ _ _ (by simp)).trans x5⟩, World.cell?_setCell_same _ _ _ hb.c6, ?_, fun e => ?_, by rw [World.frozen?_setCell]; exact hb.fz, by rw [o.size]; exact hb.lt, few, fun c hc => (mem c hc).1, fun c hc => (mem c hc).2⟩, (Below.turnG b _).trans t⟩
  · refine ow.turnO t (fun q e e2 => ?_) fun c hc => (ow.ea c hc).offG (mem c hc).2 t
    have := oq q e
    have := h.lt
    omega
  · have := oq _ e
    have := h.lt
    omega
theorem idK_del {L : List ObS} {k : List UInt8} (h : idK L k < L.length) : deC L k = L.take (idK L k) ++ L.drop (idK L k + 1) := by
  induction L with
  | nil => cases h
  | cons x l ih =>
    unfold idK at h ⊢
    unfold deC
    by_cases e : x.key = k
    · rw [if_pos e, if_pos e]; rfl
    · rw [if_neg e] at h
      rw [if_neg e, if_neg e, ih (by simpa using h)]
      rfl
/-- a variable that holds an object of the call's own stripes -/
def ObBox19 (w : World) (o : ObS) (s : Value) (wx : World) : Prop := ∃ (ob : Nat) (v : Value), s = .pointer (some ⟨ob, 0, none⟩) ∧ Below w.heap.size w wx ∧ wx.cell? ⟨ob, 0, none⟩ = some (sv o.key) ∧ wx.cell? ⟨ob, 1, none⟩ = some (.int .i64 o.len) ∧ wx.cell? ⟨ob, 2, none⟩ = some (.int .i64 o.ep) ∧ wx.cell? ⟨ob, 3, none⟩ = some v ∧ ObOk wx ⟨o, v⟩ ∧ NewS w.heap.size v ∧ ob < wx.heap.size
theorem obox_end {w wz wy : World} {ob : Nat} {o : ObS} {v x0 x1 x2 x3 : Value} (BZ : Below w.heap.size w wz) (lo : w.heap.size ≤ ob) (lt : ob < wz.heap.size) (z0 : wz.cell? ⟨ob, 0, none⟩ = some x0) (z1 : wz.cell? ⟨ob, 1, none⟩ = some x1) (z2 : wz.cell? ⟨ob, 2, none⟩ = some x2) (z3 : wz.cell? ⟨ob, 3, none⟩ = some x3) (ok : ObOk wz ⟨o, v⟩) (nw : NewS w.heap.size v) (ne : ApartG (fun x => x = ob) v)
    (hy : wy = (((wz.setCell ⟨ob, 0, none⟩ (sv o.key)).setCell ⟨ob, 1, none⟩ (.int .i64 o.len)).setCell ⟨ob, 2, none⟩ (.int .i64 o.ep)).setCell ⟨ob, 3, none⟩ v) : ObBox19 w o (.pointer (some ⟨ob, 0, none⟩)) wy ∧ Below w.heap.size w wy := by
  obtain ⟨oX, s0, s1, s2, s3⟩ := set4 (a := sv o.key) (b := .int .i64 o.len) (c := .int .i64 o.ep) (d := v) z0 z1 z2 z3
  rw [← hy] at oX s0 s1 s2 s3
  have b := BZ.trans (oX.below lo)
  exact ⟨⟨ob, v, rfl, b, s0, s1, s2, s3, ok.offG ne (oX.turnG (G := fun x => x = ob) rfl), nw, by rw [oX.size]; exact lt⟩, b⟩
theorem zs_place {W w1 : World} {v v1 : Value} {base e : Nat} {zs : List Int} (g : Gro W v w1 v1) (o : OwnZ w1 base e v1 zs) : ∀ x n c, v1 = .slice (some x) n c → v.ownBlock = some x.block ∨ W.heap.size ≤ x.block := fun x n c ev => by
  obtain ⟨_, ⟨h1, _⟩ | ⟨gb, cap, cur, hv, _⟩⟩ := o
  · rw [h1] at ev; simp at ev
  · have h2 : v1.ownBlock = some gb := by rw [hv]; rfl
    rw [hv] at ev
    simp at ev
    obtain ⟨rfl, _, _⟩ := ev
    rcases g.pl with h | ⟨j, h, hj⟩
    · exact Or.inl (by rw [← h, h2])
    · rw [h2] at h
      simp at h
      exact Or.inr (by rw [h]; exact hj)
def RApp19 (w : World) (rb : Nat) (g : GeoS) (X : Int) (L : List ObS) (e : Ending) (w' : World) : Prop :=
  ∃ M v, e = .returned (.int .i64 X) ∧ CatR w' rb g M v ∧ oL M = L ∧ TurnG (fun x => x = rb) w w'
end Go.Proofs.Ytndlfmofjmieaaa.Gf
