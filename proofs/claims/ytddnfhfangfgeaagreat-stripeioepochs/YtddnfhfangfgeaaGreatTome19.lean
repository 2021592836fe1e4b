/- TEXTS JOINED: StCT, StCR, StCP. -/
import Derived.Test.YtddnfhfangfgeaaGreatTome18
import Derived.Deep.CutRange
namespace Go.Proofs.YtddnfhfangfgeaaGreat.Gf
set_option linter.unusedVariables false
set_option linter.unusedSimpArgs false
open Go.RowKit
/-- a geometry and a stripe's place, laid one behind the other -/
theorem two_laid (w : World) (pa pf : Option Addr) (g : GeoS) (st ep : Int) (e1 e2 : Nat) : ∀ W, Below ((w.alloc (.cells (cellsG g) e1)).alloc (.cells (cellsP pa pf g st ep) e2)).heap.size ((w.alloc (.cells (cellsG g) e1)).alloc (.cells (cellsP pa pf g st ep) e2)) W → SpotAt W (w.heap.size + 1) pa pf g st ep ∧ GeoAt W w.heap.size g ∧ Below w.heap.size w W := fun W hW => by
  have s1 := (spot_laid (w.alloc (.cells (cellsG g) e1)) pa pf g st ep e2 W hW).1
  rw [World.size_alloc] at s1
  have g0 := (geo_laid w g e1 _ (Below.refl _ _)).1
  have g1 := g0.below (w' := W) (by simp) ((belL (w.alloc (.cells (cellsG g) e1)) (.cells (cellsP pa pf g st ep) e2)).trans (hW.mono (by simp)))
  exact ⟨s1, g1, (belL w _).trans (((belL (w.alloc (.cells (cellsG g) e1)) (.cells (cellsP pa pf g st ep) e2)).mono (by simp)).trans (hW.mono (by simp; omega)))⟩
theorem rfX_geo {g : GeoS} {bs : List Bool} (h : ¬ okG g) : rfX g bs = 50 := if_neg h
theorem rfX_bad {g : GeoS} {bs : List Bool} (h : okG g) (hb : false ∈ bs) : rfX g bs = 1 := by unfold rfX; rw [if_pos h, if_pos hb]
theorem rfX_ok {g : GeoS} {bs : List Bool} (h : okG g) (hb : ¬ false ∈ bs) : rfX g bs = 0 := by unfold rfX; rw [if_pos h, if_neg hb]
theorem lenT_wrap {k m z s t o : Int} (h : okG ⟨k, m, z, s, t, o⟩) : IntKind.i64.wrap (k * z) = k * z := by
  obtain ⟨h1, h2, h3, h4, h5, _⟩ := h
  simp only at h1 h2 h3 h4 h5
  have a1 : 0 ≤ k * z := Int.mul_nonneg (by omega) (by omega)
  have a2 : k * z ≤ 32 * 4096 := Int.mul_le_mul (by omega) (by omega) (by omega) (by omega)
  rw [IntKind.wrap_i64]
  omega
/-- what is told of numbers alone -/
theorem rf_two {g : GeoS} {st ep : Int} : rfX g [decide (0 ≤ st ∧ st < g.s), decide (0 ≤ ep ∧ ep ≤ 2147483647)] = ckT g st ep := by
  by_cases h : okG g
  · by_cases hT : OkT g st ep
    · rw [ckT_ok hT, rfX_ok h]
      rw [decide_eq_true ⟨hT.2.1, hT.2.2.1⟩, decide_eq_true ⟨hT.2.2.2.1, hT.2.2.2.2⟩]
      simp
    · rw [ckT_arg h hT, rfX_bad h]
      by_cases h1 : 0 ≤ st ∧ st < g.s
      · rw [decide_eq_false (p := 0 ≤ ep ∧ ep ≤ 2147483647) (fun q => hT ⟨h, h1.1, h1.2, q.1, q.2⟩)]
        simp
      · rw [decide_eq_false h1]
        simp
  · rw [ckT_geo h, rfX_geo h]
set_option maxRecDepth 100000 in
set_option maxHeartbeats 4000000 in
theorem swrite_any {w : World} {ab fb : Nat} {GA : Nat → Prop} {a : ArS} (h : ArAt w ab GA a) (hF : FieldAt w fb) {g : GeoS} (hg : g.Wf) {st ep : Int} (hst : (Lit.int .i64 st).wf = true) {v : Value} {D : List UInt8} (hp : Rd w v D) (hz : okG g → g.z ≤ 300) :
    Calls Tryz.prog 18 #[.pointer (some ⟨ab, 0, none⟩), .pointer (some ⟨fb, 0, none⟩), aggG g, .int .i64 st, .int .i64 ep, v] w (LeavesA w ab GA (swS a g st ep D) (.int .i64 (swX a g st ep D))) := by
  obtain ⟨b1, hb1⟩ : ∃ b, Hid (decide (0 ≤ st ∧ st < g.s) = b) := ⟨_, rfl⟩
  obtain ⟨b2, hb2⟩ : ∃ b, Hid (decide (0 ≤ ep ∧ ep ≤ 2147483647) = b) := ⟨_, rfl⟩
  have KS := fun W => @piss_any W (some ⟨ab, 0, none⟩) (some ⟨fb, 0, none⟩) g st ep b1 hb1.out
  have KE := fun W => @pise_any W (some ⟨ab, 0, none⟩) (some ⟨fb, 0, none⟩) g st ep b2 hb2.out
  have KF := fun W (vv : Value) (bs : List Bool) (hr : RdB W vv bs) (hl : bs.length ≤ 1000) => @pref_any W g st ep ab fb hg vv bs hr hl _ rfl
  obtain ⟨c, hc⟩ : ∃ c, IntKind.i64.wrap (g.k * g.z) = c := ⟨_, rfl⟩
  obtain ⟨b3, hb3⟩ : ∃ b, ((D.length : Int) == c) = b := ⟨_, rfl⟩
  obtain ⟨x, hx⟩ : ∃ x, Hid (rfX g [b1, b2, b3] = x) := ⟨_, rfl⟩
  obtain ⟨k, m, z, s, t, o⟩ := g
  simp only at hc
  have LB := two_laid w (some ⟨ab, 0, none⟩) (some ⟨fb, 0, none⟩) ⟨k, m, z, s, t, o⟩ st ep 24 103
  rw [show aggG ⟨k, m, z, s, t, o⟩ = .agg #[.int .i64 k, .int .i64 m, .int .i64 z, .int .i64 s, .int .i64 t, .int .i64 o] from rfl]
  unfold aggP at KS KE KF
  simp only [cellsP, cellsG] at KS KE KF LB
  obtain ⟨va, vc, rfl⟩ := hp.form
  obtain ⟨dn, hdn⟩ : ∃ dn, Hid (dn = D.length) := ⟨_, rfl⟩
  rw [← hdn.out] at hb3 ⊢
  have LG := geo_laid w ⟨k, m, z, s, t, o⟩ 24
  obtain ⟨⟨y0, y1, y2, y3, y4, y5⟩, _⟩ := LG _ (Below.refl _ _)
  simp only [cellsG] at y0 y1 y2 y3 y4 y5
  obtain ⟨W1, hW1⟩ : ∃ W1, W1 = ((w.alloc (.cells #[.int .i64 k, .int .i64 m, .int .i64 z, .int .i64 s, .int .i64 t, .int .i64 o] 24)).alloc (.cells #[.pointer (some ⟨ab, 0, none⟩), .pointer (some ⟨fb, 0, none⟩), .int .i64 k, .int .i64 m, .int .i64 z, .int .i64 s, .int .i64 t, .int .i64 o, .int .i64 st, .int .i64 ep] 103)) := ⟨_, rfl⟩
  rw [← hW1] at LB
  have SE : Hid (∀ W, Below W1.heap.size W1 W → (W.cell? ⟨w.heap.size + 1, 0, none⟩ = some (.pointer (some ⟨ab, 0, none⟩)) ∧ W.cell? ⟨w.heap.size + 1, 1, none⟩ = some (.pointer (some ⟨fb, 0, none⟩)) ∧ W.cell? ⟨w.heap.size + 1, 2, none⟩ = some (.int .i64 k) ∧ W.cell? ⟨w.heap.size + 1, 3, none⟩ = some (.int .i64 m) ∧ W.cell? ⟨w.heap.size + 1, 4, none⟩ = some (.int .i64 z) ∧ W.cell? ⟨w.heap.size + 1, 5, none⟩ = some (.int .i64 s) ∧ W.cell? ⟨w.heap.size + 1, 6, none⟩ = some (.int .i64 t) ∧ W.cell? ⟨w.heap.size + 1, 7, none⟩ = some (.int .i64 o) ∧ W.cell? ⟨w.heap.size + 1, 8, none⟩ = some (.int .i64 st) ∧ W.cell? ⟨w.heap.size + 1, 9, none⟩ = some (.int .i64 ep)) ∧ (W.cell? ⟨w.heap.size, 0, none⟩ = some (.int .i64 k) ∧ W.cell? ⟨w.heap.size, 1, none⟩ = some (.int .i64 m) ∧ W.cell? ⟨w.heap.size, 2, none⟩ = some (.int .i64 z) ∧ W.cell? ⟨w.heap.size, 3, none⟩ = some (.int .i64 s) ∧ W.cell? ⟨w.heap.size, 4, none⟩ = some (.int .i64 t) ∧ W.cell? ⟨w.heap.size, 5, none⟩ = some (.int .i64 o))) := fun W b => ⟨(LB W b).1.all, (LB W b).2.1⟩
  have FE : Hid (∀ W, Below W1.heap.size W1 W → Below w.heap.size w W) := fun W b => (LB W b).2.2
  have LBS : Hid (∀ W, Below W1.heap.size W1 W → SpotAt W (w.heap.size + 1) (some ⟨ab, 0, none⟩) (some ⟨fb, 0, none⟩) ⟨k, m, z, s, t, o⟩ st ep) := fun W b => (LB W b).1
  clear LB LG
  have KF1 : ∀ W vv, RdB W vv [b1, b2, b3] → Calls Tryz.prog 49 #[.agg #[.pointer (some ⟨ab, 0, none⟩), .pointer (some ⟨fb, 0, none⟩), .int .i64 k, .int .i64 m, .int .i64 z, .int .i64 s, .int .i64 t, .int .i64 o, .int .i64 st, .int .i64 ep], vv] W fun e w' => e = .returned (.int .i64 x) ∧ Below W.heap.size W w' := fun W vv hr => by
    have := KF W vv _ hr (by simp)
    rw [hx.out] at this
    exact this
  have HP : Hid (Rd w (.slice va dn vc) D) := by show Rd _ _ _; rw [hdn.out]; exact hp
  clear hp KF
  by_cases hx0 : x = 0
  rotate_left
  · have E9 : Hid (swX a ⟨k, m, z, s, t, o⟩ st ep D = x ∧ swS a ⟨k, m, z, s, t, o⟩ st ep D = a) := by
      have hn : ¬ (OkT ⟨k, m, z, s, t, o⟩ st ep ∧ LenT ⟨k, m, z, s, t, o⟩ D) := fun q => hx0 (by
        rw [← hx.out]
        refine rfX_ok q.1.1 ?_
        have e1 : b1 = true := by rw [← hb1.out]; exact decide_eq_true ⟨q.1.2.1, q.1.2.2.1⟩
        have e2 : b2 = true := by rw [← hb2.out]; exact decide_eq_true ⟨q.1.2.2.2.1, q.1.2.2.2.2⟩
        have e3 : b3 = true := by
          rw [← hb3, hdn.out, ← hc, lenT_wrap q.1.1]
          have := q.2
          unfold LenT at this
          simp only at this
          rw [this]
          simp
        rw [e1, e2, e3]
        simp)
      refine ⟨?_, if_neg hn⟩
      unfold swX
      by_cases hT : OkT ⟨k, m, z, s, t, o⟩ st ep
      · rw [if_pos hT, if_neg (fun q => hn ⟨hT, q⟩), ← hx.out, rfX_bad hT.1]
        have e3 : b3 = false := by
          rw [← hb3, hdn.out, ← hc, lenT_wrap hT.1]
          refine beq_eq_false_iff_ne.2 fun q => hn ⟨hT, ?_⟩
          unfold LenT
          exact q
        rw [e3]
        simp
      · rw [if_neg hT, ← hx.out]
        by_cases ok : okG ⟨k, m, z, s, t, o⟩
        · rw [ckT_arg ok hT, rfX_bad ok]
          by_cases h1 : 0 ≤ st ∧ st < s
          · have e2 : b2 = false := by rw [← hb2.out]; exact decide_eq_false (fun q => hT ⟨ok, h1.1, h1.2, q.1, q.2⟩)
            rw [e2]
            simp
          · have e1 : b1 = false := by rw [← hb1.out]; exact decide_eq_false h1
            rw [e1]
            simp
        · rw [ckT_geo ok, rfX_geo ok]
    go_enter Tryz.func18, Tryz.ntmps18
    go_upto_region 2 with fail
    rw [← hW1]
    clear hW1 y0 y1 y2 y3 y4 y5
    have s0 := (SE.out W1 (Below.refl _ _))
    have BD : Below W1.heap.size W1 W1.drew := (Below.refl _ _).drew
    have sD := (SE.out _ BD)
    go_region_held3 (fun wx => (wx.cell? ⟨w.heap.size + 1, 0, none⟩ = some (.pointer (some ⟨ab, 0, none⟩)) ∧ wx.cell? ⟨w.heap.size + 1, 1, none⟩ = some (.pointer (some ⟨fb, 0, none⟩)) ∧ wx.cell? ⟨w.heap.size + 1, 2, none⟩ = some (.int .i64 k) ∧ wx.cell? ⟨w.heap.size + 1, 3, none⟩ = some (.int .i64 m) ∧ wx.cell? ⟨w.heap.size + 1, 4, none⟩ = some (.int .i64 z) ∧ wx.cell? ⟨w.heap.size + 1, 5, none⟩ = some (.int .i64 s) ∧ wx.cell? ⟨w.heap.size + 1, 6, none⟩ = some (.int .i64 t) ∧ wx.cell? ⟨w.heap.size + 1, 7, none⟩ = some (.int .i64 o) ∧ wx.cell? ⟨w.heap.size + 1, 8, none⟩ = some (.int .i64 st) ∧ wx.cell? ⟨w.heap.size + 1, 9, none⟩ = some (.int .i64 ep)) ∧ (wx.cell? ⟨w.heap.size, 0, none⟩ = some (.int .i64 k) ∧ wx.cell? ⟨w.heap.size, 1, none⟩ = some (.int .i64 m) ∧ wx.cell? ⟨w.heap.size, 2, none⟩ = some (.int .i64 z) ∧ wx.cell? ⟨w.heap.size, 3, none⟩ = some (.int .i64 s) ∧ wx.cell? ⟨w.heap.size, 4, none⟩ = some (.int .i64 t) ∧ wx.cell? ⟨w.heap.size, 5, none⟩ = some (.int .i64 o))) (first | exact s0 | exact sD | exact s1 | exact s2 | exact s3 _ _ | exact s4) (first
      | (go_at_call 50; go_loud (refine (KS _).mono ?_); rintro _ v1 ⟨rfl, c1⟩; have B1 : Below W1.heap.size W1 v1 := BD.stepL c1 BD.size; have s1 := (SE.out _ B1))
      | (go_at_call 51; go_loud (refine (KE _).mono ?_); rintro _ v2 ⟨rfl, c2⟩; have B2 : Below W1.heap.size W1 v2 := B1.stepL c2 B1.size; have s2 := (SE.out _ B2); have s3 := fun q e => (SE.out (v2.alloc (.cells q e)) (B2.stepL (belL _ _) B2.size)); have B3 := fun q e => B2.stepL (belL v2 (.cells q e)) B2.size)
      | (go_at_call 49; go_loud (refine (KF1 _ _ (rdB_lit [b1, b2, b3] rfl rfl rfl (by simp))).mono ?_); rintro _ v4 ⟨rfl, c4⟩; have B4 : Below W1.heap.size W1 v4 := (B3 _ _).stepL c4 (B3 _ _).size; have s4 := (SE.out _ B4)))
    have FB : Hid (Below w.heap.size w v4) := FE.out _ B4
    clear s0 sD s1 s2 s3 s4 c1 c2 c4 B1 B2 B3 B4 BD KS KE KF1
    go_wp2
    go_ret
    exact ⟨by rw [E9.out.1]; rfl, GA, by rw [E9.out.2]; exact h.below FB.out, Grew.of_below FB.out⟩
  have hT : OkT ⟨k, m, z, s, t, o⟩ st ep ∧ LenT ⟨k, m, z, s, t, o⟩ D := by
    have h0 := hx.out
    rw [hx0] at h0
    have ok : okG ⟨k, m, z, s, t, o⟩ := Classical.byContradiction fun q => by rw [rfX_geo q] at h0; cases h0
    have nb : ¬ false ∈ [b1, b2, b3] := fun q => by rw [rfX_bad ok q] at h0; cases h0
    have e1 : b1 = true := by cases b1 with
      | true => rfl
      | false => exact absurd (by simp) nb
    have e2 : b2 = true := by cases b2 with
      | true => rfl
      | false => exact absurd (by simp) nb
    have e3 : b3 = true := by cases b3 with
      | true => rfl
      | false => exact absurd (by simp) nb
    have q1 := of_decide_eq_true (hb1.out.trans e1)
    have q2 := of_decide_eq_true (hb2.out.trans e2)
    refine ⟨⟨ok, q1.1, q1.2, q2.1, q2.2⟩, ?_⟩
    rw [e3, hdn.out, ← hc, lenT_wrap ok] at hb3
    exact eq_of_beq hb3
  subst hx0
  obtain ⟨hT, hD⟩ := hT
  have zz := okG_nat hT.1
  obtain ⟨n, hn⟩ : ∃ n, Hid (n = nT ⟨k, m, z, s, t, o⟩) := ⟨_, rfl⟩
  have n1 : 1 ≤ n ∧ n ≤ 32 := by rw [hn.out]; exact ⟨nT_pos hT.1, zz.2.2.2.2.1⟩
  have KN := fun W => @pcount_any W (some ⟨ab, 0, none⟩) (some ⟨fb, 0, none⟩) ⟨k, m, z, s, t, o⟩ st ep (n : Int) (by rw [← zz.2.2.2.2.2.2.2, ← hn.out, IntKind.wrap_i64]; omega)
  have KU := fun W => @pupto_any W n (by omega)
  have KH := fun W (hf : FieldAt W fb) (hr : Rd W (.slice va dn vc) D) => @pshof_any W (some ⟨ab, 0, none⟩) fb hf ⟨k, m, z, s, t, o⟩ hT.1 (hz hT.1) st ep _ D hr hD
  obtain ⟨SH, hSH⟩ : ∃ SH, Hid (SH = shT ⟨k, m, z, s, t, o⟩ D) := ⟨_, rfl⟩
  rw [← hSH.out] at KH
  have KW := fun W (hA : ArAt W ab GA a) (vs vi : Value) (hl : ToldL W GA vs SH) (hi : ToldI W GA vi (List.range n)) => @pwrite_any W ab GA a hA (some ⟨fb, 0, none⟩) ⟨k, m, z, s, t, o⟩ hg st ep hst hT vs vi SH (List.range n) hl hi (fun i q => by
      have := List.mem_range.1 q
      rw [hSH.out, shT_length, ← hn.out]
      exact ⟨this, this⟩) (fun i q => by
      rw [hSH.out, shT_length] at q
      rw [hSH.out, shT_row hD hT.1 q]
      omega) (by rw [List.length_range]; omega)
  rw [List.length_range] at KW
  have E9 : Hid (swX a ⟨k, m, z, s, t, o⟩ st ep D = wxT a ⟨k, m, z, s, t, o⟩ st ep SH (List.range n) ∧ swS a ⟨k, m, z, s, t, o⟩ st ep D = psT a ⟨k, m, z, s, t, o⟩ st ep SH (List.range n) n) := by
    refine ⟨?_, ?_⟩
    · unfold swX wxT
      rw [if_pos hT, if_pos hD, hSH.out, hn.out]
    · unfold swS
      rw [if_pos ⟨hT, hD⟩, hSH.out, hn.out]
  obtain ⟨wx_, hwx⟩ : ∃ y, Hid (y = wxT a ⟨k, m, z, s, t, o⟩ st ep SH (List.range n)) := ⟨_, rfl⟩
  obtain ⟨wn_, hwn⟩ : ∃ y, Hid (y = wnT a ⟨k, m, z, s, t, o⟩ st ep SH (List.range n)) := ⟨_, rfl⟩
  obtain ⟨ps_, hps⟩ : ∃ y, Hid (y = psT a ⟨k, m, z, s, t, o⟩ st ep SH (List.range n) n) := ⟨_, rfl⟩
  rw [← hwx.out, ← hwn.out, ← hps.out] at KW
  rw [← hwx.out, ← hps.out] at E9
  have HSL : Hid (SH.length = n) := by show _ = _; rw [hSH.out, shT_length, hn.out]
  rw [E9.out.1, E9.out.2]
  clear zz E9 hwx hwn hps hSH hD hT
  unfold aggP at KN KH KW
  simp only [cellsP] at KN KH KW
  have HA : Hid (ArAt w ab GA a) := h
  have HFd : Hid (FieldAt w fb) := hF
  have ST : Hid (∀ W G5 W5, Below W1.heap.size W1 W → Grew GA W G5 W5 → W5.cell? ⟨w.heap.size + 1, 0, none⟩ = some (.pointer (some ⟨ab, 0, none⟩)) ∧ W5.cell? ⟨w.heap.size + 1, 1, none⟩ = some (.pointer (some ⟨fb, 0, none⟩)) ∧ W5.cell? ⟨w.heap.size + 1, 2, none⟩ = some (.int .i64 k) ∧ W5.cell? ⟨w.heap.size + 1, 3, none⟩ = some (.int .i64 m) ∧ W5.cell? ⟨w.heap.size + 1, 4, none⟩ = some (.int .i64 z) ∧ W5.cell? ⟨w.heap.size + 1, 5, none⟩ = some (.int .i64 s) ∧ W5.cell? ⟨w.heap.size + 1, 6, none⟩ = some (.int .i64 t) ∧ W5.cell? ⟨w.heap.size + 1, 7, none⟩ = some (.int .i64 o) ∧ W5.cell? ⟨w.heap.size + 1, 8, none⟩ = some (.int .i64 st) ∧ W5.cell? ⟨w.heap.size + 1, 9, none⟩ = some (.int .i64 ep)) := fun W G5 W5 b gg => ((LBS.out W b).turn (fun q => by have := h.lt _ q; omega) gg.turn).all
  clear h hF
  go_enter Tryz.func18, Tryz.ntmps18
  go_upto_region 2 with fail
  rw [← hW1]
  clear hW1 y0 y1 y2 y3 y4 y5
  have s0 := (SE.out W1 (Below.refl _ _))
  have BD : Below W1.heap.size W1 W1.drew := (Below.refl _ _).drew
  have sD := (SE.out _ BD)
  go_region_held3 (fun wx => (wx.cell? ⟨w.heap.size + 1, 0, none⟩ = some (.pointer (some ⟨ab, 0, none⟩)) ∧ wx.cell? ⟨w.heap.size + 1, 1, none⟩ = some (.pointer (some ⟨fb, 0, none⟩)) ∧ wx.cell? ⟨w.heap.size + 1, 2, none⟩ = some (.int .i64 k) ∧ wx.cell? ⟨w.heap.size + 1, 3, none⟩ = some (.int .i64 m) ∧ wx.cell? ⟨w.heap.size + 1, 4, none⟩ = some (.int .i64 z) ∧ wx.cell? ⟨w.heap.size + 1, 5, none⟩ = some (.int .i64 s) ∧ wx.cell? ⟨w.heap.size + 1, 6, none⟩ = some (.int .i64 t) ∧ wx.cell? ⟨w.heap.size + 1, 7, none⟩ = some (.int .i64 o) ∧ wx.cell? ⟨w.heap.size + 1, 8, none⟩ = some (.int .i64 st) ∧ wx.cell? ⟨w.heap.size + 1, 9, none⟩ = some (.int .i64 ep)) ∧ (wx.cell? ⟨w.heap.size, 0, none⟩ = some (.int .i64 k) ∧ wx.cell? ⟨w.heap.size, 1, none⟩ = some (.int .i64 m) ∧ wx.cell? ⟨w.heap.size, 2, none⟩ = some (.int .i64 z) ∧ wx.cell? ⟨w.heap.size, 3, none⟩ = some (.int .i64 s) ∧ wx.cell? ⟨w.heap.size, 4, none⟩ = some (.int .i64 t) ∧ wx.cell? ⟨w.heap.size, 5, none⟩ = some (.int .i64 o))) (first | exact s0 | exact sD | exact s1 | exact s2 | exact s3 _ _ | exact s4) (first
    | (go_at_call 50; go_loud (refine (KS _).mono ?_); rintro _ v1 ⟨rfl, c1⟩; have B1 : Below W1.heap.size W1 v1 := BD.stepL c1 BD.size; have s1 := (SE.out _ B1))
    | (go_at_call 51; go_loud (refine (KE _).mono ?_); rintro _ v2 ⟨rfl, c2⟩; have B2 : Below W1.heap.size W1 v2 := B1.stepL c2 B1.size; have s2 := (SE.out _ B2); have s3 := fun q e => (SE.out (v2.alloc (.cells q e)) (B2.stepL (belL _ _) B2.size)); have B3 := fun q e => B2.stepL (belL v2 (.cells q e)) B2.size)
    | (go_at_call 49; go_loud (refine (KF1 _ _ (rdB_lit [b1, b2, b3] rfl rfl rfl (by simp))).mono ?_); rintro _ v4 ⟨rfl, c4⟩; have B4 : Below W1.heap.size W1 v4 := (B3 _ _).stepL c4 (B3 _ _).size; have s4 := (SE.out _ B4)))
  have SE4 : Hid (∀ W, Below W1.heap.size W1 W → W.cell? ⟨w.heap.size + 1, 0, none⟩ = some (.pointer (some ⟨ab, 0, none⟩)) ∧ W.cell? ⟨w.heap.size + 1, 1, none⟩ = some (.pointer (some ⟨fb, 0, none⟩)) ∧ W.cell? ⟨w.heap.size + 1, 2, none⟩ = some (.int .i64 k) ∧ W.cell? ⟨w.heap.size + 1, 3, none⟩ = some (.int .i64 m) ∧ W.cell? ⟨w.heap.size + 1, 4, none⟩ = some (.int .i64 z) ∧ W.cell? ⟨w.heap.size + 1, 5, none⟩ = some (.int .i64 s) ∧ W.cell? ⟨w.heap.size + 1, 6, none⟩ = some (.int .i64 t) ∧ W.cell? ⟨w.heap.size + 1, 7, none⟩ = some (.int .i64 o) ∧ W.cell? ⟨w.heap.size + 1, 8, none⟩ = some (.int .i64 st) ∧ W.cell? ⟨w.heap.size + 1, 9, none⟩ = some (.int .i64 ep)) := fun W b => (SE.out W b).1
  have E4 : Hid (Below W1.heap.size W1 v4) := B4
  clear s0 sD s1 s2 s3 s4 c1 c2 c4 B1 B2 B3 B4 BD KS KE KF1 SE
  go_wp2_with fail
  have t0 := SE4.out _ E4.out
  have BD : Below W1.heap.size W1 v4.drew := E4.out.drew
  have tD := SE4.out _ BD
  go_region_held3 (fun wx => wx.cell? ⟨w.heap.size + 1, 0, none⟩ = some (.pointer (some ⟨ab, 0, none⟩)) ∧ wx.cell? ⟨w.heap.size + 1, 1, none⟩ = some (.pointer (some ⟨fb, 0, none⟩)) ∧ wx.cell? ⟨w.heap.size + 1, 2, none⟩ = some (.int .i64 k) ∧ wx.cell? ⟨w.heap.size + 1, 3, none⟩ = some (.int .i64 m) ∧ wx.cell? ⟨w.heap.size + 1, 4, none⟩ = some (.int .i64 z) ∧ wx.cell? ⟨w.heap.size + 1, 5, none⟩ = some (.int .i64 s) ∧ wx.cell? ⟨w.heap.size + 1, 6, none⟩ = some (.int .i64 t) ∧ wx.cell? ⟨w.heap.size + 1, 7, none⟩ = some (.int .i64 o) ∧ wx.cell? ⟨w.heap.size + 1, 8, none⟩ = some (.int .i64 st) ∧ wx.cell? ⟨w.heap.size + 1, 9, none⟩ = some (.int .i64 ep)) (first | exact t0 | exact tD | exact t5 | exact t6 | exact t7 | exact t8) (first
    | (go_at_call 53; go_loud (refine (KH _ (HFd.out.belowF (FE.out _ BD)) (HP.out.below (FE.out _ BD))).mono ?_); rintro _ v5 ⟨vs, rfl, R5, c5⟩; have B5 : Below W1.heap.size W1 v5 := BD.stepL c5 BD.size; have t5 := SE4.out _ B5; obtain ⟨sa, sc, rfl⟩ := R5.form)
    | (go_at_call 55; go_loud (refine (KN _).mono ?_); rintro _ v6 ⟨rfl, c6⟩; have B6 : Below W1.heap.size W1 v6 := B5.stepL c6 B5.size; have t6 := SE4.out _ B6)
    | (go_at_call 54; go_loud (refine (KU _).mono ?_); rintro _ v7 ⟨gi, rfl, R7, l7, c7⟩; have B7 : Below W1.heap.size W1 v7 := B6.stepL c7 B6.size; have t7 := SE4.out _ B7; go_loud (have TI : ToldI v7 GA (.slice (some ⟨gi, 0, none⟩) n n) (List.range n) := ToldI.of_row R7 (by rw [List.length_range]) (fun i q => by rw [List.length_range] at q; simp [List.getD, q]) (fun q => by have := HA.out.lt _ q; have := (FE.out _ B6).size; omega)); go_loud (have TL : ToldL v7 GA _ SH := (ToldL.far R5 (fun q hq => Nat.lt_of_lt_of_le (HA.out.lt q hq) (FE.out _ BD).size)).below ((Below.refl _ _).stepL (c6.stepL c7 c6.size) (Nat.le_refl _))))
    | (go_at_call 52; go_loud (refine (KW _ (HA.out.below (FE.out _ B7)) _ _ TL TI).mono ?_); rintro _ v8 ⟨rfl, G8, A8, g8⟩; have t8 := ST.out _ _ _ B7 g8))
  have FIN : Hid (∃ GA', ArAt v8 ab GA' ps_ ∧ Grew GA w GA' v8) := ⟨G8, A8, (Grew.of_below (FE.out _ B7)).trans g8⟩
  clear t0 tD t5 t6 t7 t8 c5 c6 c7 B5 B6 B7 R5 R7 TI TL A8 g8 BD KH KN KU KW
  go_wp2
  go_ret
  exact ⟨rfl, FIN.out⟩
end Go.Proofs.YtddnfhfangfgeaaGreat.Gf

namespace Go.Proofs.YtddnfhfangfgeaaGreat.Gf
set_option linter.unusedVariables false
set_option linter.unusedSimpArgs false
open Go.RowKit
theorem info_bytesR : (Tryz.prog.info? 36).map (fun i => (i.zero, i.size, i.bytes)) = some (some (.slice none 0 0), 1, 24) := by kernel_rfl
theorem info_boolR : (Tryz.prog.info? 4).map (fun i => (i.zero, i.size, i.bytes)) = some (some (.bool false), 1, 1) := by kernel_rfl
/-- what is left where the power is gone -/
def MakesOff15 (w : World) (e : Ending) (w' : World) : Prop := ∃ va vb, e = .returned (.tuple #[va, vb, .int .i64 130]) ∧ Below w.heap.size w w'
/-- .. where it is there -/
def MakesOn15 (w : World) (n : Nat) (L : Nat → List UInt8) (H : Nat → Bool) (e : Ending) (w' : World) : Prop := ∃ gs gh V, e = .returned (.tuple #[.slice (some ⟨gs, 0, none⟩) n n, .slice (some ⟨gh, 0, none⟩) n n, .int .i64 0]) ∧ TwoL w' gs gh n V L H ∧ w.heap.size ≤ gs ∧ w.heap.size ≤ gh ∧ Below w.heap.size w w'
def MakesT15 (w : World) (off : Bool) (n : Nat) (L : Nat → List UInt8) (H : Nat → Bool) (e : Ending) (w' : World) : Prop := (off = true → MakesOff15 w e w') ∧ (off = false → MakesOn15 w n L H e w')
structure MadeT (W0 : World) (n : Nat) (s5 s6 : Value) (wx : World) : Prop where
  at_ : ∃ gs gh, s5 = .slice (some ⟨gs, 0, none⟩) n n ∧ s6 = .slice (some ⟨gh, 0, none⟩) n n ∧ wx.rowIs gs 36 n (fun _ => .slice none 0 0) ∧ wx.rowIs gh 4 n (fun _ => .bool false) ∧ gs ≠ gh ∧ W0.heap.size ≤ gs ∧ W0.heap.size ≤ gh
  bel : Below W0.heap.size W0 wx
set_option maxRecDepth 100000 in
set_option maxHeartbeats 8000000 in
theorem pread_any {w : World} {ab : Nat} {GA : Nat → Prop} {a : ArS} (h : ArAt w ab GA a) {pf : Option Addr} {g : GeoS} (hg : g.Wf) {st ep : Int} (hst : (Lit.int .i64 st).wf = true) (hT : OkT g st ep) :
    Calls Tryz.prog 93 #[aggP (some ⟨ab, 0, none⟩) pf g st ep] w (MakesT15 w a.off (nT g) (shdF a g st ep) (hsF a g st ep)) := by
  have zz := okG_nat hT.1
  have sin := stG_in hT.1 hT.2.1 hT.2.2.1
  obtain ⟨at_, t0⟩ : ∃ x, Hid (x = stG g st) := ⟨_, rfl⟩
  rw [← t0.out] at sin
  obtain ⟨n, hn⟩ : ∃ n, Hid (n = nT g) := ⟨_, rfl⟩
  obtain ⟨FH, hFH⟩ : ∃ F, Hid (F = hsF a g st ep) := ⟨_, rfl⟩
  obtain ⟨FL, hFL⟩ : ∃ F, Hid (F = shdF a g st ep) := ⟨_, rfl⟩
  rw [← hn.out, ← hFH.out, ← hFL.out]
  have n1 : 1 ≤ n ∧ n ≤ 32 := by rw [hn.out]; exact ⟨nT_pos hT.1, zz.2.2.2.2.1⟩
  have KN := fun W => @pcount_any W (some ⟨ab, 0, none⟩) pf g st ep (n : Int) (by rw [← zz.2.2.2.2.2.2.2, ← hn.out, IntKind.wrap_i64]; omega)
  have KP := fun W => @pplace_any W (some ⟨ab, 0, none⟩) pf g st ep hg hst _ t0.out.symm
  have KD := fun W (i : Nat) (hi : i < n) => @pdisk_any W (some ⟨ab, 0, none⟩) pf g st ep hg hst (i : Int) (wf_small (by omega) (by omega)) _ rfl
  have KU := fun W (v : Value) (p : List UInt8) (hr : Rd W v p) (hl : p.length ≤ 100000) => @punpack_any W (some ⟨ab, 0, none⟩) pf g st ep hg hst v p hr hl _ _ rfl rfl
  rw [← t0.out] at KU
  have DI : Hid (∀ i : Nat, i < n → 0 ≤ diG g st (i : Int) ∧ diG g st (i : Int) ≤ 100000) := fun i hi => by
    rw [hn.out] at hi
    have := diG_in hT.1 hT.2.1 hT.2.2.1 hi
    have := zz.2.2.2.2.1
    omega
  have okA := h.ok
  have HFv : Hid (∀ i : Nat, decide (upX at_ (rdAB a (diG g st (i : Int)) at_) = 0 ∧ ((upN at_ (rdAB a (diG g st (i : Int)) at_) : Nat) : Int) = ep ∧ (((upD at_ (rdAB a (diG g st (i : Int)) at_)).length : Nat) : Int) = g.z) = FH i) := fun i => by rw [hFH.out, t0.out]; rfl
  have HLv : Hid (∀ i : Nat, (if FH i = true then upD at_ (rdAB a (diG g st (i : Int)) at_) else []) = FL i) := fun i => by rw [hFH.out, hFL.out, t0.out]; rfl
  have HNo : Hid (∀ i : Nat, ¬ rdAX a (diG g st (i : Int)) at_ = 0 → FH i = false ∧ FL i = []) := fun i hx => by
    have e := rdAB_no hx
    have q : FH i = false := by
      rw [← HFv.out i, e]
      refine decide_eq_false fun q => ?_
      have := q.1
      rw [up_nil] at this
      cases this
    refine ⟨q, ?_⟩
    rw [← HLv.out i, q]
    rfl
  have wat : (Lit.int .i64 at_).wf = true := wf_small (by omega) (by omega)
  have HA : Hid (ArAt w ab GA a) := h
  clear sin t0 hFH hFL hn hT zz h
  obtain ⟨k, m, z, s, t, o⟩ := g
  have LB := spot_laid w (some ⟨ab, 0, none⟩) pf ⟨k, m, z, s, t, o⟩ st ep 103
  unfold aggP at KN KP KD KU ⊢
  simp only [cellsP] at KN KP KD KU LB ⊢
  obtain ⟨W0, hW0⟩ : ∃ W0, W0 = w.alloc (.cells #[.pointer (some ⟨ab, 0, none⟩), .pointer pf, .int .i64 k, .int .i64 m, .int .i64 z, .int .i64 s, .int .i64 t, .int .i64 o, .int .i64 st, .int .i64 ep] 103) := ⟨_, rfl⟩
  rw [← hW0] at LB
  have gb : w.heap.size < W0.heap.size := by rw [hW0]; simp
  have SE : Hid (∀ W, Below W0.heap.size W0 W → W.cell? ⟨w.heap.size, 0, none⟩ = some (.pointer (some ⟨ab, 0, none⟩)) ∧ W.cell? ⟨w.heap.size, 1, none⟩ = some (.pointer pf) ∧ W.cell? ⟨w.heap.size, 2, none⟩ = some (.int .i64 k) ∧ W.cell? ⟨w.heap.size, 3, none⟩ = some (.int .i64 m) ∧ W.cell? ⟨w.heap.size, 4, none⟩ = some (.int .i64 z) ∧ W.cell? ⟨w.heap.size, 5, none⟩ = some (.int .i64 s) ∧ W.cell? ⟨w.heap.size, 6, none⟩ = some (.int .i64 t) ∧ W.cell? ⟨w.heap.size, 7, none⟩ = some (.int .i64 o) ∧ W.cell? ⟨w.heap.size, 8, none⟩ = some (.int .i64 st) ∧ W.cell? ⟨w.heap.size, 9, none⟩ = some (.int .i64 ep)) := fun W b => (LB W b).1.all
  have FE : Hid (∀ W, Below W0.heap.size W0 W → Below w.heap.size w W) := fun W b => (LB W b).2
  clear LB
  have MKS : Hid _ := run_make_row' (P := Tryz.prog) 106 36 (.slice none 0 0) 24 Tryz.underlying106 info_bytesR rfl .i64 .i64 n (by omega) (by omega)
  have MKB : Hid _ := run_make_row' (P := Tryz.prog) 96 4 (.bool false) 1 Tryz.underlying96 info_boolR rfl .i64 .i64 n (by omega) (by omega)
  go_enter Tryz.func93, Tryz.ntmps93
  go_wp2_with fail
  rw [← hW0]
  clear hW0
  go_step3
  go_upto_region 1 with fail
  go_cut [5, 6] from 11 to 17 (fun s5 s6 wx => MadeT W0 n s5 s6 wx)
  case first =>
    have c0 := SE.out W0 (Below.refl _ _)
    refine wp_region_held_drew (S := fun wx => wx.cell? ⟨w.heap.size, 0, none⟩ = some (.pointer (some ⟨ab, 0, none⟩)) ∧ wx.cell? ⟨w.heap.size, 1, none⟩ = some (.pointer pf) ∧ wx.cell? ⟨w.heap.size, 2, none⟩ = some (.int .i64 k) ∧ wx.cell? ⟨w.heap.size, 3, none⟩ = some (.int .i64 m) ∧ wx.cell? ⟨w.heap.size, 4, none⟩ = some (.int .i64 z) ∧ wx.cell? ⟨w.heap.size, 5, none⟩ = some (.int .i64 s) ∧ wx.cell? ⟨w.heap.size, 6, none⟩ = some (.int .i64 t) ∧ wx.cell? ⟨w.heap.size, 7, none⟩ = some (.int .i64 o) ∧ wx.cell? ⟨w.heap.size, 8, none⟩ = some (.int .i64 st) ∧ wx.cell? ⟨w.heap.size, 9, none⟩ = some (.int .i64 ep)) (by kernel_rfl) ?_ (fun hHeld => ?_)
    · exact c0
    have B0 : Below W0.heap.size W0 W0.drew := (Below.refl _ _).drew
    refine wpAnyH_take (i := 0) (v := ?_) rfl (by kernel_rfl) (by kernel_rfl) (by kernel_rfl) (fun _ _ _ h => h) (Or.inl ⟨by rfl, ?_⟩) (by assumption) ?_
    rotate_left
    · intro w hSw; (try dsimp only at hSw); go_simp; try with_reducible rfl
    try simp only [Act.put, List.getElem_toArray, List.getElem_cons_succ, List.getElem_cons_zero, List.setIfInBounds_toArray, List.set_cons_zero, List.set_cons_succ]
    refine wpAnyH_take (i := 3) (v := ?_) rfl (by kernel_rfl) (by kernel_rfl) (by kernel_rfl) (fun _ _ _ h => h) (Or.inl ⟨by rfl, ?_⟩) (by assumption) ?_
    rotate_left
    · intro w hSw; (try dsimp only at hSw); go_simp; try with_reducible rfl
    try simp only [Act.put, List.getElem_toArray, List.getElem_cons_succ, List.getElem_cons_zero, List.setIfInBounds_toArray, List.set_cons_zero, List.set_cons_succ]
    refine wpAnyH_ready (rs := [1]) (by kernel_rfl) (by simp) ?_
    refine AllReadyH.cons rfl (fun K hK => ?_) AllReadyH.nil
    go_simp
    refine (KN _).mono ?_
    rintro _ v1 ⟨rfl, b1⟩
    have B1 : Below W0.heap.size W0 v1 := B0.stepL b1 B0.size
    refine hK.out _ _ ?_ (fun hHeld => ?_)
    · exact SE.out _ B1
    clear hK K
    try simp only [Act.put, List.getElem_toArray, List.getElem_cons_succ, List.getElem_cons_zero, List.setIfInBounds_toArray, List.set_cons_zero, List.set_cons_succ]
    refine wpAnyH_ready (rs := [2, 4]) (by kernel_rfl) (by simp) ?_
    refine AllReadyH.cons rfl (fun K hK => ?_) (AllReadyH.cons rfl (fun K hK => ?_) AllReadyH.nil)
    · have q2 := MKS.out v1
      obtain ⟨u2, hu2⟩ : ∃ u, u = (v1).alloc (.cells (madeCells #[.slice none 0 0] n) 36) := ⟨_, rfl⟩
      rw [← hu2] at q2
      have r2 : u2.rowIs (v1).heap.size 36 n (fun _ => .slice none 0 0) := by rw [hu2]; exact World.rowIs_made _ _ _ _
      have d2 : Below (v1).heap.size (v1) u2 := by rw [hu2]; exact belL _ _
      have B2 : Below W0.heap.size W0 u2 := B1.stepL d2 B1.size
      have l2 : Hid (W0.heap.size ≤ (v1).heap.size) := B1.size
      obtain ⟨gs, hgs⟩ : ∃ x, Hid (x = (v1).heap.size) := ⟨_, rfl⟩
      rw [← hgs.out] at q2 r2 l2
      clear hu2
      go_simp
      refine hK.out _ _ ?_ (fun hHeld => ?_)
      · exact SE.out _ B2
      clear hK K
      try simp only [Act.put, List.getElem_toArray, List.getElem_cons_succ, List.getElem_cons_zero, List.setIfInBounds_toArray, List.set_cons_zero, List.set_cons_succ]
      refine wpAnyH_ready (rs := [4]) (by kernel_rfl) (by simp) ?_
      refine AllReadyH.cons rfl (fun K hK => ?_) AllReadyH.nil
      go_simp
      refine (KN _).mono ?_
      rintro _ v4 ⟨rfl, b4⟩
      have B4 : Below W0.heap.size W0 v4 := B2.stepL b4 B2.size
      have r2 := r2.of_block (b4.block gs r2.lt)
      refine hK.out _ _ ?_ (fun hHeld => ?_)
      · exact SE.out _ B4
      clear hK K
      try simp only [Act.put, List.getElem_toArray, List.getElem_cons_succ, List.getElem_cons_zero, List.setIfInBounds_toArray, List.set_cons_zero, List.set_cons_succ]
      refine wpAnyH_take (i := 6) (v := ?_) rfl (by kernel_rfl) (by kernel_rfl) (by kernel_rfl) (fun _ _ _ h => h) (Or.inl ⟨by rfl, ?_⟩) (by assumption) ?_
      rotate_left
      · intro w hSw; (try dsimp only at hSw); go_simp; try with_reducible rfl
      try simp only [Act.put, List.getElem_toArray, List.getElem_cons_succ, List.getElem_cons_zero, List.setIfInBounds_toArray, List.set_cons_zero, List.set_cons_succ]
      refine wpAnyH_ready (rs := [5]) (by kernel_rfl) (by simp) ?_
      refine AllReadyH.cons rfl (fun K hK => ?_) AllReadyH.nil
      have q5 := MKB.out v4
      obtain ⟨u5, hu5⟩ : ∃ u, u = (v4).alloc (.cells (madeCells #[.bool false] n) 4) := ⟨_, rfl⟩
      rw [← hu5] at q5
      have r5 : u5.rowIs (v4).heap.size 4 n (fun _ => .bool false) := by rw [hu5]; exact World.rowIs_made _ _ _ _
      have d5 : Below (v4).heap.size (v4) u5 := by rw [hu5]; exact belL _ _
      have B5 : Below W0.heap.size W0 u5 := B4.stepL d5 B4.size
      have l5 : Hid (W0.heap.size ≤ (v4).heap.size) := B4.size
      have ne : Hid (gs ≠ (v4).heap.size) := by have := r2.lt; show _ ≠ _; omega
      obtain ⟨gh, hgh⟩ : ∃ x, Hid (x = (v4).heap.size) := ⟨_, rfl⟩
      rw [← hgh.out] at q5 r5 l5
      rw [← hgh.out] at ne
      have r2 := r2.of_block (d5.block gs r2.lt)
      clear hu5
      go_simp
      refine hK.out _ _ ?_ (fun hHeld => ?_)
      · exact SE.out _ B5
      clear hK K
      try simp only [Act.put, List.getElem_toArray, List.getElem_cons_succ, List.getElem_cons_zero, List.setIfInBounds_toArray, List.set_cons_zero, List.set_cons_succ]
      clear KN MKS MKB
      refine wpAnyH_take (i := 7) (v := ?_) rfl (by kernel_rfl) (by kernel_rfl) (by kernel_rfl) (fun _ _ _ h => h) (Or.inl ⟨by rfl, ?_⟩) (by assumption) ?_
      rotate_left
      · intro w hSw; (try dsimp only at hSw); go_simp; try with_reducible rfl
      try simp only [Act.put, List.getElem_toArray, List.getElem_cons_succ, List.getElem_cons_zero, List.setIfInBounds_toArray, List.set_cons_zero, List.set_cons_succ]
      refine wpAnyH_done (by kernel_rfl) ?_ _
      try simp only [Act.put, List.getElem_toArray, List.getElem_cons_succ, List.getElem_cons_zero, List.setIfInBounds_toArray, List.set_cons_zero, List.set_cons_succ]
      clear hHeld c0
      go_wp2
      go_meet
      case rel => exact ⟨⟨gs, gh, rfl, rfl, r2, r5, ne.out, l2.out, l5.out⟩, B5⟩
    · go_simp
      refine (KN _).mono ?_
      rintro _ v4 ⟨rfl, b4⟩
      have B4 : Below W0.heap.size W0 v4 := B1.stepL b4 B1.size
      refine hK.out _ _ ?_ (fun hHeld => ?_)
      · exact SE.out _ B4
      clear hK K
      try simp only [Act.put, List.getElem_toArray, List.getElem_cons_succ, List.getElem_cons_zero, List.setIfInBounds_toArray, List.set_cons_zero, List.set_cons_succ]
      refine wpAnyH_ready (rs := [2, 5]) (by kernel_rfl) (by simp) ?_
      refine AllReadyH.cons rfl (fun K hK => ?_) (AllReadyH.cons rfl (fun K hK => ?_) AllReadyH.nil)
      · have q2 := MKS.out v4
        obtain ⟨u2, hu2⟩ : ∃ u, u = (v4).alloc (.cells (madeCells #[.slice none 0 0] n) 36) := ⟨_, rfl⟩
        rw [← hu2] at q2
        have r2 : u2.rowIs (v4).heap.size 36 n (fun _ => .slice none 0 0) := by rw [hu2]; exact World.rowIs_made _ _ _ _
        have d2 : Below (v4).heap.size (v4) u2 := by rw [hu2]; exact belL _ _
        have B2 : Below W0.heap.size W0 u2 := B4.stepL d2 B4.size
        have l2 : Hid (W0.heap.size ≤ (v4).heap.size) := B4.size
        obtain ⟨gs, hgs⟩ : ∃ x, Hid (x = (v4).heap.size) := ⟨_, rfl⟩
        rw [← hgs.out] at q2 r2 l2
        clear hu2
        go_simp
        refine hK.out _ _ ?_ (fun hHeld => ?_)
        · exact SE.out _ B2
        clear hK K
        try simp only [Act.put, List.getElem_toArray, List.getElem_cons_succ, List.getElem_cons_zero, List.setIfInBounds_toArray, List.set_cons_zero, List.set_cons_succ]
        refine wpAnyH_take (i := 6) (v := ?_) rfl (by kernel_rfl) (by kernel_rfl) (by kernel_rfl) (fun _ _ _ h => h) (Or.inl ⟨by rfl, ?_⟩) (by assumption) ?_
        rotate_left
        · intro w hSw; (try dsimp only at hSw); go_simp; try with_reducible rfl
        try simp only [Act.put, List.getElem_toArray, List.getElem_cons_succ, List.getElem_cons_zero, List.setIfInBounds_toArray, List.set_cons_zero, List.set_cons_succ]
        refine wpAnyH_ready (rs := [5]) (by kernel_rfl) (by simp) ?_
        refine AllReadyH.cons rfl (fun K hK => ?_) AllReadyH.nil
        have q5 := MKB.out u2
        obtain ⟨u5, hu5⟩ : ∃ u, u = (u2).alloc (.cells (madeCells #[.bool false] n) 4) := ⟨_, rfl⟩
        rw [← hu5] at q5
        have r5 : u5.rowIs (u2).heap.size 4 n (fun _ => .bool false) := by rw [hu5]; exact World.rowIs_made _ _ _ _
        have d5 : Below (u2).heap.size (u2) u5 := by rw [hu5]; exact belL _ _
        have B5 : Below W0.heap.size W0 u5 := B2.stepL d5 B2.size
        have l5 : Hid (W0.heap.size ≤ (u2).heap.size) := B2.size
        have ne : Hid (gs ≠ (u2).heap.size) := by have := r2.lt; show _ ≠ _; omega
        obtain ⟨gh, hgh⟩ : ∃ x, Hid (x = (u2).heap.size) := ⟨_, rfl⟩
        rw [← hgh.out] at q5 r5 l5
        rw [← hgh.out] at ne
        have r2 := r2.of_block (d5.block gs r2.lt)
        clear hu5
        go_simp
        refine hK.out _ _ ?_ (fun hHeld => ?_)
        · exact SE.out _ B5
        clear hK K
        try simp only [Act.put, List.getElem_toArray, List.getElem_cons_succ, List.getElem_cons_zero, List.setIfInBounds_toArray, List.set_cons_zero, List.set_cons_succ]
        clear KN MKS MKB
        refine wpAnyH_take (i := 7) (v := ?_) rfl (by kernel_rfl) (by kernel_rfl) (by kernel_rfl) (fun _ _ _ h => h) (Or.inl ⟨by rfl, ?_⟩) (by assumption) ?_
        rotate_left
        · intro w hSw; (try dsimp only at hSw); go_simp; try with_reducible rfl
        try simp only [Act.put, List.getElem_toArray, List.getElem_cons_succ, List.getElem_cons_zero, List.setIfInBounds_toArray, List.set_cons_zero, List.set_cons_succ]
        refine wpAnyH_done (by kernel_rfl) ?_ _
        try simp only [Act.put, List.getElem_toArray, List.getElem_cons_succ, List.getElem_cons_zero, List.setIfInBounds_toArray, List.set_cons_zero, List.set_cons_succ]
        clear hHeld c0
        go_wp2
        go_meet
        case rel => exact ⟨⟨gs, gh, rfl, rfl, r2, r5, ne.out, l2.out, l5.out⟩, B5⟩
      · have q5 := MKB.out v4
        obtain ⟨u5, hu5⟩ : ∃ u, u = (v4).alloc (.cells (madeCells #[.bool false] n) 4) := ⟨_, rfl⟩
        rw [← hu5] at q5
        have r5 : u5.rowIs (v4).heap.size 4 n (fun _ => .bool false) := by rw [hu5]; exact World.rowIs_made _ _ _ _
        have d5 : Below (v4).heap.size (v4) u5 := by rw [hu5]; exact belL _ _
        have B5 : Below W0.heap.size W0 u5 := B4.stepL d5 B4.size
        have l5 : Hid (W0.heap.size ≤ (v4).heap.size) := B4.size
        obtain ⟨gh, hgh⟩ : ∃ x, Hid (x = (v4).heap.size) := ⟨_, rfl⟩
        rw [← hgh.out] at q5 r5 l5
        clear hu5
        go_simp
        refine hK.out _ _ ?_ (fun hHeld => ?_)
        · exact SE.out _ B5
        clear hK K
        try simp only [Act.put, List.getElem_toArray, List.getElem_cons_succ, List.getElem_cons_zero, List.setIfInBounds_toArray, List.set_cons_zero, List.set_cons_succ]
        refine wpAnyH_ready (rs := [2]) (by kernel_rfl) (by simp) ?_
        refine AllReadyH.cons rfl (fun K hK => ?_) AllReadyH.nil
        have q2 := MKS.out u5
        obtain ⟨u2, hu2⟩ : ∃ u, u = (u5).alloc (.cells (madeCells #[.slice none 0 0] n) 36) := ⟨_, rfl⟩
        rw [← hu2] at q2
        have r2 : u2.rowIs (u5).heap.size 36 n (fun _ => .slice none 0 0) := by rw [hu2]; exact World.rowIs_made _ _ _ _
        have d2 : Below (u5).heap.size (u5) u2 := by rw [hu2]; exact belL _ _
        have B2 : Below W0.heap.size W0 u2 := B5.stepL d2 B5.size
        have l2 : Hid (W0.heap.size ≤ (u5).heap.size) := B5.size
        have ne : Hid (gh ≠ (u5).heap.size) := by have := r5.lt; show _ ≠ _; omega
        obtain ⟨gs, hgs⟩ : ∃ x, Hid (x = (u5).heap.size) := ⟨_, rfl⟩
        rw [← hgs.out] at q2 r2 l2
        rw [← hgs.out] at ne
        have r5 := r5.of_block (d2.block gh r5.lt)
        clear hu2
        go_simp
        refine hK.out _ _ ?_ (fun hHeld => ?_)
        · exact SE.out _ B2
        clear hK K
        try simp only [Act.put, List.getElem_toArray, List.getElem_cons_succ, List.getElem_cons_zero, List.setIfInBounds_toArray, List.set_cons_zero, List.set_cons_succ]
        refine wpAnyH_take (i := 6) (v := ?_) rfl (by kernel_rfl) (by kernel_rfl) (by kernel_rfl) (fun _ _ _ h => h) (Or.inl ⟨by rfl, ?_⟩) (by assumption) ?_
        rotate_left
        · intro w hSw; (try dsimp only at hSw); go_simp; try with_reducible rfl
        try simp only [Act.put, List.getElem_toArray, List.getElem_cons_succ, List.getElem_cons_zero, List.setIfInBounds_toArray, List.set_cons_zero, List.set_cons_succ]
        clear KN MKS MKB
        refine wpAnyH_take (i := 7) (v := ?_) rfl (by kernel_rfl) (by kernel_rfl) (by kernel_rfl) (fun _ _ _ h => h) (Or.inl ⟨by rfl, ?_⟩) (by assumption) ?_
        rotate_left
        · intro w hSw; (try dsimp only at hSw); go_simp; try with_reducible rfl
        try simp only [Act.put, List.getElem_toArray, List.getElem_cons_succ, List.getElem_cons_zero, List.setIfInBounds_toArray, List.set_cons_zero, List.set_cons_succ]
        refine wpAnyH_done (by kernel_rfl) ?_ _
        try simp only [Act.put, List.getElem_toArray, List.getElem_cons_succ, List.getElem_cons_zero, List.setIfInBounds_toArray, List.set_cons_zero, List.set_cons_succ]
        clear hHeld c0
        go_wp2
        go_meet
        case rel => exact ⟨⟨gs, gh, rfl, rfl, r2, r5, ne.out.symm, l2.out, l5.out⟩, B2⟩
  case rest =>
    obtain ⟨⟨gs, gh, rfl, rfl, r2, r5, ne, l2, l5⟩, BB⟩ := hcut
    have START : Hid (TwoL wc gs gh n (fun _ => .slice none 0 0) (fun i => if i < 0 then FL i else []) (fun i => if i < 0 then FH i else false) ∧ Below W0.heap.size W0 wc) := ⟨(TwoL.made r2 r5 ne (by omega)).congr (fun i _ => rfl) (fun i _ => rfl), BB⟩
    have HL : Hid (W0.heap.size ≤ gs ∧ W0.heap.size ≤ gh) := ⟨l2, l5⟩
    clear r2 r5 ne BB MKS MKB KN l2 l5
    go_wp2_with fail
    go_step3
    go_wp2_with fail
    go_loopw [7, 19] (fun tv i wr => ∃ r : Nat, r ≤ n ∧ i = .int .i64 (r : Int) ∧ tv = .int .i64 0 ∧ (∃ V, TwoL wr gs gh n V (fun i => if i < r then FL i else []) (fun i => if i < r then FH i else false)) ∧ Below W0.heap.size W0 wr ∧ (r = 0 ∨ a.off = false)) (fun _ i _ => n - (intOf i).toNat)
    case atStart => exact ⟨0, Nat.zero_le _, rfl, rfl, ⟨_, START.out.1⟩, START.out.2, Or.inl rfl⟩
    case round =>
      clear START
      obtain ⟨r, hr, rfl, rfl, ⟨V, hV⟩, hB, hoff⟩ := hrel
      by_cases hlt : r < n
      · have hlt' : (r : Int) < (n : Int) := by omega
        have g1 : IntKind.i64.wrap ((r : Int) + 1) = ((r + 1 : Nat) : Int) := by rw [IntKind.wrap_i64]; omega
        obtain ⟨dd, hdd⟩ : ∃ dd, Hid (dd = diG ⟨k, m, z, s, t, o⟩ st (r : Int)) := ⟨_, rfl⟩
        have KD1 := fun W => KD W r hlt
        rw [← hdd.out] at KD1
        have wdd : (Lit.int .i64 dd).wf = true := by rw [hdd.out]; exact wf_small (DI.out r hlt).1 (DI.out r hlt).2
        obtain ⟨px, hpx⟩ : ∃ px, Hid (rdAX a dd at_ = px) := ⟨_, rfl⟩
        obtain ⟨rb, hrb⟩ : ∃ rb, Hid (rdAB a dd at_ = rb) := ⟨_, rfl⟩
        have hrl : Hid (rb.length ≤ 100000) := by show _ ≤ _; rw [← hrb.out]; exact rdAB_len okA _ _
        have KR : ∀ W, Below W0.heap.size W0 W → Calls Tryz.prog 72 #[.pointer (some ⟨ab, 0, none⟩), .int .i64 dd, .int .i64 at_] W (Tells W px rb) := fun W b => by
          have := aread_any (HA.out.below (FE.out W b)) wdd wat
          rw [hpx.out, hrb.out] at this
          exact this
        have c0 := SE.out wr hB
        have BD : Below W0.heap.size W0 wr.drew := hB.drew
        have cD := SE.out _ BD
        have E2D : Hid (∀ {v2 v3 : World}, Below v2.drew.heap.size v2.drew v3 → Below v2.heap.size v2 v3) := fun b => ((Below.refl _ _).drew).stepL b (Nat.le_refl _)
        by_cases ho : a.off = true
        · have e1 : px = 130 := by rw [← hpx.out]; exact rdAX_crash.2 ho
          subst e1
          go_wp2_with fail
          have W5 : Hid (∀ v5, ∀ {v3 v4 : World}, Below wr.drew.heap.size wr.drew v3 → Below v3.heap.size v3 v4 → Below v4.heap.size v4 v5 → Below wr.heap.size wr v5) := fun v5 _ _ b3 b4 b5 => ((E2D.out b3).stepL b4 (E2D.out b3).size).stepL b5 (Nat.le_trans (E2D.out b3).size b4.size)
          go_region_held3 (fun wx => wx.cell? ⟨w.heap.size, 0, none⟩ = some (.pointer (some ⟨ab, 0, none⟩)) ∧ wx.cell? ⟨w.heap.size, 1, none⟩ = some (.pointer pf) ∧ wx.cell? ⟨w.heap.size, 2, none⟩ = some (.int .i64 k) ∧ wx.cell? ⟨w.heap.size, 3, none⟩ = some (.int .i64 m) ∧ wx.cell? ⟨w.heap.size, 4, none⟩ = some (.int .i64 z) ∧ wx.cell? ⟨w.heap.size, 5, none⟩ = some (.int .i64 s) ∧ wx.cell? ⟨w.heap.size, 6, none⟩ = some (.int .i64 t) ∧ wx.cell? ⟨w.heap.size, 7, none⟩ = some (.int .i64 o) ∧ wx.cell? ⟨w.heap.size, 8, none⟩ = some (.int .i64 st) ∧ wx.cell? ⟨w.heap.size, 9, none⟩ = some (.int .i64 ep)) (first | exact c0 | exact cD | exact c3 | exact c4 | exact c5) (first
            | (go_at_call 87; go_loud (refine (KD1 _).mono ?_); rintro _ v3 ⟨rfl, b3⟩; have B3 : Below W0.heap.size W0 v3 := BD.stepL b3 BD.size; have c3 := SE.out _ B3)
            | (go_at_call 86; go_loud (refine (KP _).mono ?_); rintro _ v4 ⟨rfl, b4⟩; have B4 : Below W0.heap.size W0 v4 := B3.stepL b4 B3.size; have c4 := SE.out _ B4)
            | (go_at_call 72; go_loud (refine (KR _ B4).mono ?_); rintro _ v5 ⟨ov, rfl, O5, b5⟩; have B5 : Below W0.heap.size W0 v5 := B4.stepL b5 B4.size; have c5 := SE.out _ B5))
          have HO5 : Hid (v5.ownsRow v4.heap.size 5 1 ov rb.length (rb.map vb)) := O5
          have FB : Hid (Below w.heap.size w v5) := FE.out _ B5
          clear c0 cD c3 c4 c5 b3 b4 O5 b5 B5 B3 B4 BD hV hB
          obtain ⟨oa, oc, rfl⟩ := owns_form HO5.out
          clear HO5
          go_wp2
          try rw [Exit.noGoto_ret]
          refine bodyPost_ret (v := .tuple #[.slice (some ⟨gs, 0, none⟩) n n, .slice (some ⟨gh, 0, none⟩) n n, .int .i64 130]) (by simp [results, Tryz.results93, go_sem]) rfl ?_
          exact ⟨fun _ => ⟨_, _, rfl, FB.out⟩, fun q => by rw [ho] at q; cases q⟩
        · have ho' : a.off = false := by simpa using ho
          have e1 : ¬ px = 130 := by rw [← hpx.out]; exact fun e => ho (rdAX_crash.1 e)
          have e1' : (px == 130) = false := beq_eq_false_iff_ne.2 e1
          by_cases hp0 : px = 0
          · subst hp0
            have eF := HFv.out r
            have eL := HLv.out r
            rw [← hdd.out, hrb.out] at eF eL
            have KU1 : ∀ W v, Rd W v rb → Calls Tryz.prog 132 #[.agg #[.pointer (some ⟨ab, 0, none⟩), .pointer pf, .int .i64 k, .int .i64 m, .int .i64 z, .int .i64 s, .int .i64 t, .int .i64 o, .int .i64 st, .int .i64 ep], v] W (MakesP15 W (FL r) (FH r)) := fun W v hr => by
              have := KU W v rb hr hrl.out
              try simp only at eF
              rw [eF, eL] at this
              exact this
            obtain ⟨fh, hfh⟩ : ∃ x, Hid (x = FH r) := ⟨_, rfl⟩
            obtain ⟨fl, hfl⟩ : ∃ x, Hid (x = FL r) := ⟨_, rfl⟩
            rw [← hfh.out, ← hfl.out] at KU1
            go_wp2_with fail
            have W5 : Hid (∀ v5, ∀ {v3 v4 : World}, Below wr.drew.heap.size wr.drew v3 → Below v3.heap.size v3 v4 → Below v4.heap.size v4 v5 → Below wr.heap.size wr v5) := fun v5 _ _ b3 b4 b5 => ((E2D.out b3).stepL b4 (E2D.out b3).size).stepL b5 (Nat.le_trans (E2D.out b3).size b4.size)
            go_region_held3 (fun wx => wx.cell? ⟨w.heap.size, 0, none⟩ = some (.pointer (some ⟨ab, 0, none⟩)) ∧ wx.cell? ⟨w.heap.size, 1, none⟩ = some (.pointer pf) ∧ wx.cell? ⟨w.heap.size, 2, none⟩ = some (.int .i64 k) ∧ wx.cell? ⟨w.heap.size, 3, none⟩ = some (.int .i64 m) ∧ wx.cell? ⟨w.heap.size, 4, none⟩ = some (.int .i64 z) ∧ wx.cell? ⟨w.heap.size, 5, none⟩ = some (.int .i64 s) ∧ wx.cell? ⟨w.heap.size, 6, none⟩ = some (.int .i64 t) ∧ wx.cell? ⟨w.heap.size, 7, none⟩ = some (.int .i64 o) ∧ wx.cell? ⟨w.heap.size, 8, none⟩ = some (.int .i64 st) ∧ wx.cell? ⟨w.heap.size, 9, none⟩ = some (.int .i64 ep)) (first | exact c0 | exact cD | exact c3 | exact c4 | exact c5) (first
              | (go_at_call 87; go_loud (refine (KD1 _).mono ?_); rintro _ v3 ⟨rfl, b3⟩; have B3 : Below W0.heap.size W0 v3 := BD.stepL b3 BD.size; have c3 := SE.out _ B3)
              | (go_at_call 86; go_loud (refine (KP _).mono ?_); rintro _ v4 ⟨rfl, b4⟩; have B4 : Below W0.heap.size W0 v4 := B3.stepL b4 B3.size; have c4 := SE.out _ B4)
              | (go_at_call 72; go_loud (refine (KR _ B4).mono ?_); rintro _ v5 ⟨ov, rfl, O5, b5⟩; have B5 : Below W0.heap.size W0 v5 := B4.stepL b5 B4.size; have c5 := SE.out _ B5))
            have HO5 : Hid (v5.ownsRow v4.heap.size 5 1 ov rb.length (rb.map vb)) := O5
            have R5 : Rd v5 ov rb := Rd.owned HO5.out
            have V5 := hV.below (W5.out _ b3 b4 b5)
            obtain ⟨oa, oc, rfl⟩ := R5.form
            obtain ⟨rl, hrl2⟩ : ∃ rl, Hid (rl = rb.length) := ⟨_, rfl⟩
            rw [← hrl2.out] at R5 ⊢
            clear c0 cD c3 c4 b3 b4 O5 HO5 b5 B3 B4 BD hV hB eF eL
            obtain ⟨x0, x1, x2, x3, x4, x5, x6, x7, x8, x9⟩ := c5
            have K6 := KU1 _ _ R5
            have lt1 := V5.rs.lt
            have lt2 := V5.rh.lt
            go_wp2_with (go_at_call 132; go_loud (refine K6.mono ?_); rintro _ v6 ⟨ux, rfl, R6, F6, b6⟩; obtain ⟨ua, uc, rfl⟩ := R6.form; have V6 := V5.below b6; have q1 := V6.rs.cell hlt; have q2 := V6.rs.frozen r; have V7 := V6.putS R6 (F6.apartB lt1) (F6.apartB lt2) r; have q3 := V7.rh.cell hlt; have q4 := V7.rh.frozen r)
            have V8 := V7.putB r fh
            have B6 : Below W0.heap.size W0 v6 := B5.stepL b6 B5.size
            have H8 : Hid ((∃ V, TwoL ((v6.setCell ⟨gs, r, none⟩ (.slice ua fl.length uc)).setCell ⟨gh, r, none⟩ (.bool fh)) gs gh n V (fun i => if i < r + 1 then FL i else []) (fun i => if i < r + 1 then FH i else false)) ∧ Below W0.heap.size W0 ((v6.setCell ⟨gs, r, none⟩ (.slice ua fl.length uc)).setCell ⟨gh, r, none⟩ (.bool fh))) := by
              refine ⟨⟨_, V8.congr (fun i _ => ?_) (fun i _ => ?_)⟩, (B6.setCell (p := ⟨gs, r, none⟩) HL.out.1 _).setCell (p := ⟨gh, r, none⟩) HL.out.2 _⟩
              · by_cases e : i = r
                · rw [if_pos e, if_pos (by omega), e, hfl.out]
                · rw [if_neg e]
                  by_cases e2 : i < r
                  · rw [if_pos e2, if_pos (by omega)]
                  · rw [if_neg e2, if_neg (by omega)]
              · by_cases e : i = r
                · rw [if_pos e, if_pos (by omega), e, hfh.out]
                · rw [if_neg e]
                  by_cases e2 : i < r
                  · rw [if_pos e2, if_pos (by omega)]
                  · rw [if_neg e2, if_neg (by omega)]
            clear V5 V6 V7 V8 R6 F6 b6 B6 q1 q2 q3 q4 B5 x0 x1 x2 x3 x4 x5 x6 x7 x8 x9 K6 KU1 R5
            go_wp2
            go_roundw
            case rel => exact ⟨r + 1, by omega, by go_num, rfl, H8.out.1, H8.out.2, Or.inr ho'⟩
            case measure => simp [intOf]; omega
          · have hp0' : (px == 0) = false := beq_eq_false_iff_ne.2 hp0
            obtain ⟨eF, eL⟩ := HNo.out r (by rw [← hdd.out, hpx.out]; exact hp0)
            go_wp2_with fail
            have W5 : Hid (∀ v5, ∀ {v3 v4 : World}, Below wr.drew.heap.size wr.drew v3 → Below v3.heap.size v3 v4 → Below v4.heap.size v4 v5 → Below wr.heap.size wr v5) := fun v5 _ _ b3 b4 b5 => ((E2D.out b3).stepL b4 (E2D.out b3).size).stepL b5 (Nat.le_trans (E2D.out b3).size b4.size)
            go_region_held3 (fun wx => wx.cell? ⟨w.heap.size, 0, none⟩ = some (.pointer (some ⟨ab, 0, none⟩)) ∧ wx.cell? ⟨w.heap.size, 1, none⟩ = some (.pointer pf) ∧ wx.cell? ⟨w.heap.size, 2, none⟩ = some (.int .i64 k) ∧ wx.cell? ⟨w.heap.size, 3, none⟩ = some (.int .i64 m) ∧ wx.cell? ⟨w.heap.size, 4, none⟩ = some (.int .i64 z) ∧ wx.cell? ⟨w.heap.size, 5, none⟩ = some (.int .i64 s) ∧ wx.cell? ⟨w.heap.size, 6, none⟩ = some (.int .i64 t) ∧ wx.cell? ⟨w.heap.size, 7, none⟩ = some (.int .i64 o) ∧ wx.cell? ⟨w.heap.size, 8, none⟩ = some (.int .i64 st) ∧ wx.cell? ⟨w.heap.size, 9, none⟩ = some (.int .i64 ep)) (first | exact c0 | exact cD | exact c3 | exact c4 | exact c5) (first
              | (go_at_call 87; go_loud (refine (KD1 _).mono ?_); rintro _ v3 ⟨rfl, b3⟩; have B3 : Below W0.heap.size W0 v3 := BD.stepL b3 BD.size; have c3 := SE.out _ B3)
              | (go_at_call 86; go_loud (refine (KP _).mono ?_); rintro _ v4 ⟨rfl, b4⟩; have B4 : Below W0.heap.size W0 v4 := B3.stepL b4 B3.size; have c4 := SE.out _ B4)
              | (go_at_call 72; go_loud (refine (KR _ B4).mono ?_); rintro _ v5 ⟨ov, rfl, O5, b5⟩; have B5 : Below W0.heap.size W0 v5 := B4.stepL b5 B4.size; have c5 := SE.out _ B5))
            have HO5 : Hid (v5.ownsRow v4.heap.size 5 1 ov rb.length (rb.map vb)) := O5
            have V5 := hV.below (W5.out _ b3 b4 b5)
            have H8 : Hid ((∃ V, TwoL v5 gs gh n V (fun i => if i < r + 1 then FL i else []) (fun i => if i < r + 1 then FH i else false)) ∧ Below W0.heap.size W0 v5) := by
              refine ⟨⟨_, V5.congr (fun i _ => ?_) (fun i _ => ?_)⟩, B5⟩
              · by_cases e : i = r
                · rw [if_neg (by omega), if_pos (by omega), e, eL]
                · by_cases e2 : i < r
                  · rw [if_pos e2, if_pos (by omega)]
                  · rw [if_neg e2, if_neg (by omega)]
              · by_cases e : i = r
                · rw [if_neg (by omega), if_pos (by omega), e, eF]
                · by_cases e2 : i < r
                  · rw [if_pos e2, if_pos (by omega)]
                  · rw [if_neg e2, if_neg (by omega)]
            obtain ⟨oa, oc, rfl⟩ := owns_form HO5.out
            clear c0 cD c3 c4 c5 b3 b4 O5 HO5 b5 B5 B3 B4 BD hV hB eF eL V5
            go_wp2
            go_roundw
            case rel => exact ⟨r + 1, by omega, by go_num, rfl, H8.out.1, H8.out.2, Or.inr ho'⟩
            case measure => simp [intOf]; omega
      · obtain rfl : r = n := by omega
        have hlt' : ¬ (r : Int) < (r : Int) := by omega
        have ho' : Hid (a.off = false) := hoff.resolve_left (by omega)
        have FV : Hid (∃ V, TwoL wr gs gh r V FL FH) := ⟨V, hV.congr (fun i hi => if_pos hi) (fun i hi => if_pos hi)⟩
        have FB : Hid (Below w.heap.size w wr) := FE.out _ hB
        clear hV hB hoff
        go_wp2
        try rw [Exit.noGoto_ret]
        refine bodyPost_ret (v := .tuple #[.slice (some ⟨gs, 0, none⟩) r r, .slice (some ⟨gh, 0, none⟩) r r, .int .i64 0]) (by simp [results, Tryz.results93, go_sem]) rfl ?_
        refine ⟨(fun q => by rw [ho'.out] at q; cases q), fun _ => ?_⟩
        obtain ⟨V', hV'⟩ := FV.out
        exact ⟨gs, gh, V', rfl, hV', by have := HL.out; omega, by have := HL.out; omega, FB.out⟩
end Go.Proofs.YtddnfhfangfgeaaGreat.Gf

namespace Go.Proofs.YtddnfhfangfgeaaGreat.Gf
set_option linter.unusedVariables false
set_option linter.unusedSimpArgs false
open Go.RowKit
theorem info_intP : (Tryz.prog.info? 3).map (fun i => (i.zero, i.size, i.bytes)) = some (some (.int .i64 0), 1, 8) := by kernel_rfl
set_option maxRecDepth 100000 in
set_option maxHeartbeats 4000000 in
theorem pbad_any {w : World} {ab : Nat} {GA : Nat → Prop} {a : ArS} (h : ArAt w ab GA a) {pf : Option Addr} {g : GeoS} (hg : g.Wf) {st ep : Int} (hst : (Lit.int .i64 st).wf = true) (hT : OkT g st ep) {gh n : Nat} {H : Nat → Bool} (hr : w.rowIs gh 4 n (fun i => .bool (H i))) (hn : n = nT g) :
    Calls Tryz.prog 95 #[aggP (some ⟨ab, 0, none⟩) pf g st ep, .slice (some ⟨gh, 0, none⟩) n n] w fun e w' => ∃ v, e = .returned v ∧ OwnI w' w.heap.size 3 v (plc (fun i => !H i && lvT a (diG g st (i : Int))) n) ∧ Below w.heap.size w w' := by
  obtain ⟨i0, hi, hz0, hz1, hz2⟩ := info_parts info_intP
  have zz := okG_nat hT.1
  have n1 : 1 ≤ n ∧ n ≤ 32 := by rw [hn]; exact ⟨nT_pos hT.1, zz.2.2.2.2.1⟩
  have KD := fun W (i : Nat) (hi : i < n) => @pdisk_any W (some ⟨ab, 0, none⟩) pf g st ep hg hst (i : Int) (wf_small (by omega) (by omega)) _ rfl
  have DI : Hid (∀ i : Nat, i < n → 0 ≤ diG g st (i : Int) ∧ diG g st (i : Int) ≤ 100000) := fun i hi => by
    rw [hn] at hi
    have := diG_in hT.1 hT.2.1 hT.2.2.1 hi
    have := zz.2.2.2.2.1
    omega
  obtain ⟨FF, hFF⟩ : ∃ F : Nat → Bool, Hid (F = fun i => !H i && lvT a (diG g st (i : Int))) := ⟨_, rfl⟩
  rw [← hFF.out]
  have HFF : Hid (∀ i : Nat, FF i = (!H i && lvT a (diG g st (i : Int)))) := fun i => by rw [hFF.out]
  have KL := fun W (hA : ArAt W ab GA a) => alive_any hA
  obtain ⟨N, hN⟩ : ∃ N, Hid (N = a.D.length) := ⟨_, rfl⟩
  have HLv : Hid (∀ d : Int, 0 ≤ d → lvT a d = (decide (d < (N : Int)) && !(a.D.getD d.toNat default).dead)) := fun d hd => by rw [hN.out]; exact lv_at hd
  rw [← hN.out] at KL
  have HA : Hid (ArAt w ab GA a) := h
  have HR : Hid (w.rowIs gh 4 n (fun i => .bool (H i))) := hr
  clear zz hT hn hFF h hr
  obtain ⟨k, m, z, s, t, o⟩ := g
  have LB := spot_laid w (some ⟨ab, 0, none⟩) pf ⟨k, m, z, s, t, o⟩ st ep 103
  unfold aggP at KD ⊢
  simp only [cellsP] at KD LB ⊢
  obtain ⟨W0, hW0⟩ : ∃ W0, W0 = w.alloc (.cells #[.pointer (some ⟨ab, 0, none⟩), .pointer pf, .int .i64 k, .int .i64 m, .int .i64 z, .int .i64 s, .int .i64 t, .int .i64 o, .int .i64 st, .int .i64 ep] 103) := ⟨_, rfl⟩
  rw [← hW0] at LB
  obtain ⟨x0, x1, x2, x3, x4, x5, x6, x7, x8, x9⟩ := (LB _ (Below.refl _ _)).1.all
  simp only at x0 x1 x2 x3 x4 x5 x6 x7 x8 x9
  have K1 := KL W0 (HA.out.below (LB _ (Below.refl _ _)).2)
  go_enter Tryz.func95, Tryz.ntmps95
  go_wp2_with fail
  rw [← hW0]
  clear hW0
  refine K1.mono ?_
  rintro _ v1 ⟨gl, rfl, rl, hgl, b1⟩
  have B1 : Hid (Below W0.heap.size W0 v1) := b1
  have RL : Hid (v1.rowIs gl 4 N (fun i => .bool (!(a.D.getD i default).dead))) := rl
  have R1 : Hid (v1.rowIs gh 4 n (fun i => .bool (H i))) := HR.out.of_block ((LB _ b1).2.block gh HR.out.lt)
  have SE : Hid (∀ W, Below v1.heap.size v1 W → SpotAt W w.heap.size (some ⟨ab, 0, none⟩) pf ⟨k, m, z, s, t, o⟩ st ep) := fun W b => (LB W (b1.stepL b b1.size)).1
  have FE : Hid (∀ W, Below v1.heap.size v1 W → Below w.heap.size w W) := fun W b => (LB W (b1.stepL b b1.size)).2
  clear x0 x1 x2 x3 x4 x5 x6 x7 x8 x9 K1 KL rl b1 hgl LB
  go_wp2
  go_loopw [6, 15] (fun sv i wr => ∃ r : Nat, r ≤ n ∧ i = .int .i64 (r : Int) ∧ OwnI wr v1.heap.size 3 sv (plc FF r) ∧ Below v1.heap.size v1 wr) (fun _ i _ => n - (intOf i).toNat)
  case atStart => exact ⟨0, Nat.zero_le _, rfl, OwnI.nil _ _ _, Below.refl _ _⟩
  case round =>
    obtain ⟨r, hr, rfl, hO, hB⟩ := hrel
    obtain ⟨BL, hBL⟩ : ∃ BL, Hid (BL = plc FF r) := ⟨_, rfl⟩
    rw [← hBL.out] at hO
    obtain ⟨ba, bc, rfl⟩ := hO.form
    by_cases hlt : r < n
    · have hlt' : (r : Int) < (n : Int) := by omega
      have g1 : IntKind.i64.wrap ((r : Int) + 1) = ((r + 1 : Nat) : Int) := by rw [IntKind.wrap_i64]; omega
      have hbl : Hid (BL.length ≤ 100000) := by
        show _ ≤ _
        rw [hBL.out, plc_length]
        have := cnt_le FF r
        omega
      have ch := (R1.out.of_block (hB.block gh R1.out.lt)).cell hlt
      obtain ⟨dd, hdd⟩ : ∃ dd : Nat, Hid ((dd : Int) = diG ⟨k, m, z, s, t, o⟩ st (r : Int)) := ⟨(diG ⟨k, m, z, s, t, o⟩ st (r : Int)).toNat, by show _ = _; have := DI.out r hlt; omega⟩
      have KD1 := fun W => KD W r hlt
      rw [← hdd.out] at KD1
      have hF := HFF.out r
      rw [← hdd.out, HLv.out _ (by omega), Int.toNat_natCast] at hF
      have P1 : Hid (plc FF (r + 1) = BL ++ (if FF r then [r] else [])) := by show _ = _; rw [plc_succ, ← hBL.out]
      obtain ⟨x0, x1, x2, x3, x4, x5, x6, x7, x8, x9⟩ := (SE.out _ hB).all
      simp only at x0 x1 x2 x3 x4 x5 x6 x7 x8 x9
      have DONE : Hid (∀ W, FF r = false → Below wr.heap.size wr W → OwnI W v1.heap.size 3 (.slice ba BL.length bc) (plc FF (r + 1)) ∧ Below v1.heap.size v1 W) := fun W e b => by
        rw [P1.out, e]
        refine ⟨?_, hB.stepL b hB.size⟩
        have := owns_later hO b
        rw [show BL ++ (if false = true then [r] else []) = BL by simp]
        exact this
      cases hH : H r with
      | true =>
        rw [hH] at ch hF
        have e0 : FF r = false := by rw [hF]; rfl
        have D0 := fun W => DONE.out W e0
        clear hF e0 DONE P1 hO hH
        go_wp2_with fail
        refine (KD1 _).mono ?_
        rintro _ v3 ⟨rfl, b3⟩
        have E3 : Hid _ := D0 _ b3
        clear D0 b3 KD1 x0 x1 x2 x3 x4 x5 x6 x7 x8 x9 ch hB
        go_wp2
        go_roundw
        case rel => exact ⟨r + 1, by omega, by go_num, E3.out.1, E3.out.2⟩
        case measure => simp [intOf]; omega
      | false =>
        rw [hH] at ch hF
        by_cases hd : dd < N
        · have hd' : (dd : Int) < (N : Int) := by omega
          rw [decide_eq_true hd'] at hF
          cases hx : (a.D.getD dd default).dead with
          | true =>
            rw [hx] at hF
            have e0 : FF r = false := by rw [hF]; rfl
            have D0 := fun W => DONE.out W e0
            have CL : Hid (∀ W, Below wr.heap.size wr W → W.cell? ⟨gl, dd, none⟩ = some (.bool false)) := fun W b => by
              have := ((RL.out.of_block (hB.block gl RL.out.lt)).of_block (b.block gl (RL.out.of_block (hB.block gl RL.out.lt)).lt)).cell hd
              rw [hx] at this
              exact this
            clear hF e0 DONE P1 hO hH hx
            go_wp2_with fail
            refine (KD1 _).mono ?_
            rintro _ v3 ⟨rfl, b3⟩
            have E3 : Hid _ := D0 _ b3
            have cl := CL.out _ b3
            clear D0 b3 KD1 x0 x1 x2 x3 x4 x5 x6 x7 x8 x9 ch hB CL
            go_wp2
            go_roundw
            case rel => exact ⟨r + 1, by omega, by go_num, E3.out.1, E3.out.2⟩
            case measure => simp [intOf]; omega
          | false =>
            rw [hx] at hF
            have e0 : FF r = true := by rw [hF]; rfl
            have P2 : Hid (plc FF (r + 1) = BL ++ [r]) := by show _ = _; rw [P1.out, e0]; rfl
            have CL : Hid (∀ W, Below wr.heap.size wr W → W.cell? ⟨gl, dd, none⟩ = some (.bool true)) := fun W b => by
              have := ((RL.out.of_block (hB.block gl RL.out.lt)).of_block (b.block gl (RL.out.of_block (hB.block gl RL.out.lt)).lt)).cell hd
              rw [hx] at this
              exact this
            clear hF e0 DONE P1 hH hx
            go_wp2_with fail
            refine (KD1 _).mono ?_
            rintro _ v3 ⟨rfl, b3⟩
            have cl := CL.out _ b3
            have O3 := hO.later b3
            have B3 : Below v1.heap.size v1 v3 := hB.stepL b3 hB.size
            have h3 := B3.size
            clear b3 KD1 x0 x1 x2 x3 x4 x5 x6 x7 x8 x9 ch hB CL hO
            go_wp2_with (at_builtin; go_loud (refine wpList_append_int rfl (.tmp 37) (.tmp 39) 45 rfl v1.heap.size 3 i0 Tryz.underlying45 hi hz0 hz1 hz2 (.slice ba BL.length bc) BL rfl O3 r _ 1 rfl hbl.out h3 ?_); intro v9 w9 h9 b9)
            have E3 : Hid (OwnI w9 v1.heap.size 3 v9 (plc FF (r + 1)) ∧ Below v1.heap.size v1 w9) := by
              refine ⟨?_, B3.trans b9⟩
              rw [P2.out]; exact h9
            clear h9 b9 O3 B3 cl
            go_wp2
            go_roundw
            case rel => exact ⟨r + 1, by omega, by go_num, E3.out.1, E3.out.2⟩
            case measure => simp [intOf]; omega
        · have hd' : ¬ (dd : Int) < (N : Int) := by omega
          rw [decide_eq_false hd'] at hF
          have e0 : FF r = false := by rw [hF]; rfl
          have D0 := fun W => DONE.out W e0
          clear hF e0 DONE P1 hO hH
          go_wp2_with fail
          refine (KD1 _).mono ?_
          rintro _ v3 ⟨rfl, b3⟩
          have E3 : Hid _ := D0 _ b3
          clear D0 b3 KD1 x0 x1 x2 x3 x4 x5 x6 x7 x8 x9 ch hB
          go_wp2
          go_roundw
          case rel => exact ⟨r + 1, by omega, by go_num, E3.out.1, E3.out.2⟩
          case measure => simp [intOf]; omega
    · obtain rfl : r = n := by omega
      have hlt' : ¬ (r : Int) < (r : Int) := by omega
      have FO : Hid (OwnI wr w.heap.size 3 (.slice ba BL.length bc) (plc FF r)) := by
        show OwnI _ _ _ _ _
        rw [← hBL.out]
        exact ownsRow_base hO (FE.out _ (Below.refl _ _)).size
      have FB : Hid (Below w.heap.size w wr) := FE.out _ hB
      clear hO hB
      go_wp2
      go_ret
      exact ⟨_, rfl, FO.out, FB.out⟩
end Go.Proofs.YtddnfhfangfgeaaGreat.Gf

