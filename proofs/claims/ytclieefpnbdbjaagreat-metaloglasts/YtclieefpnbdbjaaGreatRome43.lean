/- TEXTS JOINED: MeCS. -/
import Derived.Test.YtclieefpnbdbjaaGreatRome38
import Derived.Test.YtclieefpnbdbjaaGreatRome17
import Derived.Test.YtclieefpnbdbjaaGreatRome42
namespace Go.Proofs.YtclieefpnbdbjaaGreat.Gf
set_option linter.unusedVariables false
set_option linter.unusedSimpArgs false
open Go.RowKit
/-- what is refused ahead of all -/
def rlE (g : GeoS) (base : Int) : Int := if ¬ okG g then 50 else if ¬ (0 ≤ base ∧ base ≤ mo18) then 1 else 0
theorem rl_first {g : GeoS} {base : Int} {yb : Bool} (h1 : decide (0 ≤ base ∧ base ≤ mo18) = yb) : fiE [chG g, if yb = true then 0 else 1] = rlE g base := by
  subst h1
  unfold rlE chG
  by_cases q : okG g
  · have n1 : ¬ ¬ okG g := fun k => k q
    rw [if_pos q, if_neg n1]
    by_cases q2 : 0 ≤ base ∧ base ≤ mo18
    · have n2 : ¬ ¬ (0 ≤ base ∧ base ≤ mo18) := fun k => k q2
      rw [decide_eq_true q2, if_neg n2]; rfl
    · rw [decide_eq_false q2, if_pos q2]; rfl
  · rw [if_neg q, if_pos q]; rfl
theorem rl_bad18 {a : ArS} {g : GeoS} {K : List Bool} {base : Int} (h : ¬ rlE g base = 0) : rlX a g K base = rlE g base ∧ rlR a g K base = [] := by
  have x : rlX a g K base = rlE g base := by
    unfold rlX rlE
    unfold rlE at h
    by_cases q : okG g
    · have n1 : ¬ ¬ okG g := fun k => k q
      rw [if_neg n1] at h ⊢
      rw [if_neg n1]
      by_cases q2 : 0 ≤ base ∧ base ≤ mo18
      · have n2 : ¬ ¬ (0 ≤ base ∧ base ≤ mo18) := fun k => k q2
        rw [if_neg n2] at h; exact absurd rfl h
      · rw [if_pos q2, if_pos q2]
    · rw [if_pos q, if_pos q]
  exact ⟨x, rl_bad x h⟩
theorem rl_good {g : GeoS} {base : Int} (h : rlE g base = 0) : okG g ∧ 0 ≤ base ∧ base ≤ mo18 := by
  unfold rlE at h
  by_cases q : okG g
  · have n1 : ¬ ¬ okG g := fun k => k q
    rw [if_neg n1] at h
    by_cases q2 : 0 ≤ base ∧ base ≤ mo18
    · exact ⟨q, q2⟩
    · rw [if_pos q2] at h; cases h
  · rw [if_pos q] at h; cases h
/-- a record in a variable, and whether it is one -/
def RecBox (vda : List UInt8) (is : Bool) (w : World) (s t : Value) (wx : World) : Prop := ∃ (rb : Nat) (c : RcV), s = .pointer (some ⟨rb, 0, none⟩) ∧ t = .bool is ∧ Below w.heap.size w wx ∧ wx.cell? ⟨rb, 0, none⟩ = some (.int .i64 c.r.kind) ∧ wx.cell? ⟨rb, 1, none⟩ = some (sv c.r.key) ∧ wx.cell? ⟨rb, 2, none⟩ = some (.int .i64 c.r.len) ∧ wx.cell? ⟨rb, 3, none⟩ = some c.vs ∧ c.In wx ∧ (∀ k, c.vs.ownBlock = some k → w.heap.size ≤ k) ∧ (is = true → c.r = raR vda)
theorem rbx_end {p : Prop} (h : p := by
  obtain ⟨Y, hY⟩ : ∃ Y, Y = (((wz.setCell ⟨rb, 0, none⟩ (.int .i64 ckd)).setCell ⟨rb, 1, none⟩ (.string ⟨cky.toArray⟩)).setCell ⟨rb, 2, none⟩ (.int .i64 cln)).setCell ⟨rb, 3, none⟩ (.slice ca cst.length cc) := ⟨_, rfl⟩
  obtain ⟨oX, s0, s1, s2, s3⟩ := set4 (a := .int .i64 ckd) (b := .string ⟨cky.toArray⟩) (c := .int .i64 cln) (d := .slice ca cst.length cc) z0 z1 z2 z3
  rw [← hY] at oX s0 s1 s2 s3
  have INY : RcV.In Y ⟨⟨ckd, cky, cln, cst⟩, .slice ca cst.length cc⟩ := ⟨IN.wk, IN.wl, IN.ky, by
    rcases IN.rs with h | ⟨b, off, cap, h1, h2, h3, h5, h6⟩
    · exact Or.inl h
    · exact Or.inr ⟨b, off, cap, h1, h2, h3, Nat.lt_of_lt_of_le h5 (Nat.le_of_eq oX.size.symm), fun i hi => (oX.cell (p := ⟨b, off + i, none⟩) (NE.out b off cap h1 h2)).trans (h6 i hi)⟩, IN.wi⟩
  have REL : Hid (RecBox vda is w4 (.pointer (some ⟨rb, 0, none⟩)) (.bool is) Y) := ⟨rb, ⟨⟨ckd, cky, cln, cst⟩, .slice ca cst.length cc⟩, rfl, rfl, BZ.trans (oX.below (by have := vbl.out; omega)), s0, s1, s2, s3, INY, FA.out, himp⟩
  have vr : vb ≠ rb := by have := vbl.out; omega
  obtain ⟨q0, q1, q2, q3, q4⟩ := VL.out _ BZ
  have SY := And.intro ((oX.cell (p := ⟨vb, 0, none⟩) vr).trans q0) (And.intro ((oX.cell (p := ⟨vb, 1, none⟩) vr).trans q1) (And.intro ((oX.cell (p := ⟨vb, 2, none⟩) vr).trans q2) (And.intro ((oX.cell (p := ⟨vb, 3, none⟩) vr).trans q3) ((oX.cell (p := ⟨vb, 4, none⟩) vr).trans q4))))
  clear q0 q1 q2 q3 q4 INY oX s0 s1 s2 s3 IN NE FA himp
  refine rnH 9 (fun K' hK => ?_)
  go_simp
  rw [← hY]
  clear hY
  refine koH hK SY fun hHeld => ?_
  clear hK K'
  refine tkH 10 ?_
  refine wpAnyH_done (by kernel_rfl) ?_ _
  go_wp2
  go_meet
  case rel => exact REL.out) : p := h
set_option maxRecDepth 100000 in
set_option maxHeartbeats 4000000 in
theorem mreplay_any {w : World} {ab : Nat} {GA : Nat → Prop} {a : ArS} (h : ArAt w ab GA a) {g : GeoS} (hg : g.Wf) {u : Value} {K : List Bool} (hk : RdB w u K) {base : Int} :
    Calls Tryz.prog 21 #[.pointer (some ⟨ab, 0, none⟩), aggG g, u, .int .i64 base] w (Recs18 w (rlX a g K base) (rlR a g K base)) := by
  obtain ⟨ua, uc, eu⟩ := hk.form
  subst eu
  have HA : Hid (ArAt w ab GA a) := h
  have HK : Hid (RdB w (.slice ua K.length uc) K) := hk
  have KC0 := fun V => @mref_any V ab g hg _ rfl
  have KS0 := fun V (i : Int) (hi : (Lit.int .i64 i).wf = true) => @lslot_any V g hg i hi _ rfl
  obtain ⟨y, hy⟩ : ∃ y, Hid (y = chG g) := ⟨_, rfl⟩
  rw [← hy.out] at KC0
  obtain ⟨yb, hyb⟩ : ∃ yb, Hid (decide (0 ≤ base ∧ base ≤ mo18) = yb) := ⟨_, rfl⟩
  obtain ⟨u1, hu1⟩ : ∃ u1 : Int, Hid (u1 = if yb = true then 0 else 1) := ⟨_, rfl⟩
  obtain ⟨E, hE⟩ : ∃ E, Hid (E = rlE g base) := ⟨_, rfl⟩
  have ZE : fiE [y, u1] = E := by rw [hy.out, hu1.out, hE.out]; exact rl_first hyb.out
  have KB : ∀ V, Calls Tryz.prog 68 #[.int .i64 base] V fun e w' => e = .returned (.bool yb) ∧ w' = V := fun V => misbase_any hyb.out
  have KU : ∀ V, Calls Tryz.prog 66 #[.bool yb, .int .i64 1] V fun e w' => e = .returned (.int .i64 u1) ∧ w' = V := fun V => by rw [hu1.out]; exact munless_any yb 1
  have KF : ∀ V, Calls Tryz.prog 67 #[.slice (some ⟨V.heap.size, 0, none⟩) 2 2] (V.alloc (.cells #[.int .i64 y, .int .i64 u1] 28)) fun e w' => e = .returned (.int .i64 E) ∧ Below V.heap.size V w' := fun V => mfirst2 28 ZE
  have BAD : Hid (¬ E = 0 → rlX a g K base = E ∧ rlR a g K base = []) := fun q => by rw [hE.out] at q ⊢; exact rl_bad18 q
  have GOOD : Hid (E = 0 → (0 ≤ base ∧ base ≤ mo18) ∧ (1 ≤ g.t ∧ g.t ≤ 64) ∧ (∀ i : Nat, i < g.t.toNat → slG g (i : Int) = 5 + (i : Int)) ∧ RlF18 a g K base g.t.toNat) := fun q => by
    rw [hE.out] at q
    obtain ⟨m1, m2⟩ := rl_good q
    have ht : 1 ≤ g.t ∧ g.t ≤ 64 := by
      obtain ⟨_, _, _, _, _, _, _, q7, q8, _⟩ := m1
      exact ⟨q7, q8⟩
    exact ⟨m2, ht, fun i hi => if_pos ⟨m1, by omega, by omega⟩, rl_facts m1 m2⟩
  have LG := geo_laid w g 23
  clear h hk hy hyb hu1 hE ZE
  obtain ⟨k, m, z, s, t, o⟩ := g
  rw [aggE] at KC0 KS0 ⊢
  obtain ⟨W, hW⟩ : ∃ W, W = w.alloc (.cells #[.int .i64 k, .int .i64 m, .int .i64 z, .int .i64 s, .int .i64 t, .int .i64 o] 23) := ⟨_, rfl⟩
  have LG2 : Hid (∀ V, Below W.heap.size W V → GeoAt V w.heap.size ⟨k, m, z, s, t, o⟩ ∧ Below w.heap.size w V) := by rw [hW]; exact LG
  clear LG
  obtain ⟨⟨y0, y1, y2, y3, y4, y5⟩, B0⟩ := LG2.out W (Below.refl _ _)
  have BW : Hid (w.heap.size ≤ W.heap.size) := B0.size
  simp only at y0 y1 y2 y3 y4 y5
  go_enter Tryz.func21, Tryz.ntmps21
  go_wp2_with fail
  rw [← hW]
  clear hW
  go_step3
  go_wp2_with fail
  refine (KC0 _).mono ?_
  rintro _ w1 ⟨rfl, B1⟩
  go_wp2_with fail
  refine (KB _).mono ?_
  rintro _ v1 ⟨rfl, hv1⟩
  subst hv1
  go_wp2_with fail
  refine (KU _).mono ?_
  rintro _ v2 ⟨rfl, hv2⟩
  subst hv2
  go_wp2_with fail
  refine (KF _).mono ?_
  rintro _ w2 ⟨rfl, B2⟩
  have B12 := B1.step16 B2 B1.size
  clear KC0 KB KU KF y0 y1 y2 y3 y4 y5 B0 B1 B2
  by_cases q : E = 0
  rotate_left
  · have q1 : (E == 0) = false := beq_eq_false_iff_ne.2 q
    have q2 : (E != 0) = true := by simp [bne, q1]
    have F : Hid (Recs18 w (rlX a ⟨k, m, z, s, t, o⟩ K base) (rlR a ⟨k, m, z, s, t, o⟩ K base) (.returned (.tuple #[.slice none 0 0, .int .i64 E])) w2) := by
      show Recs18 _ _ _ _ _
      rw [(BAD.out q).1, (BAD.out q).2]
      exact recs_nil rfl (LG2.out _ B12).2
    clear BAD GOOD KS0 LG2 B12
    go_wp2
    (try rw [Exit.noGoto_ret])
    exact bodyPost_ret (v := .tuple #[.slice none 0 0, .int .i64 E]) (by simp [results, Tryz.results21, go_sem]) rfl F.out
  obtain ⟨qq, ⟨t1, t2⟩, SL, RFF⟩ := GOOD.out q
  subst q
  clear BAD GOOD
  obtain ⟨⟨y0, y1, y2, y3, y4, y5⟩, B02⟩ := LG2.out w2 B12
  simp only at y0 y1 y2 y3 y4 y5 t1 t2 SL RFF
  obtain ⟨T, hT⟩ : ∃ T : Nat, t = (T : Int) := ⟨t.toNat, by omega⟩
  subst hT
  rw [Int.toNat_natCast T] at RFF SL
  have HSL : Hid _ := SL
  clear SL
  obtain ⟨gb, hgb⟩ : ∃ gb, Hid (gb = w.heap.size) := ⟨_, rfl⟩
  rw [← hgb.out] at y0 y1 y2 y3 y4 y5 ⊢
  have B12' : Hid (Below W.heap.size W w2) := B12
  go_wp2_with fail
  go_step3
  go_wp2_with fail
  go_loopw [11, 30] (fun v i wr => ∃ (r : Nat) (L : List RcV), r ≤ T ∧ i = .int .i64 (r : Int) ∧ OwnRc wr W.heap.size v L ∧ Hid (L.map (·.r) = (List.range r).map fun i => raR (rlV a ⟨k, m, z, s, (T : Int), o⟩ K i).da) ∧ Hid (Below W.heap.size W wr) ∧ Hid (∀ j, j < r → rlF a ⟨k, m, z, s, (T : Int), o⟩ K base j = true) ∧ Hid (0 < r → a.off = false)) (fun _ i _ => T - (intOf i).toNat)
  case atStart => exact ⟨0, [], Nat.zero_le _, rfl, OwnRc.nil _ _, rfl, B12'.out, fun j hj => by omega, fun q => by omega⟩
  case round =>
    clear B12 B12' B02 y0 y1 y2 y3 y4 y5
    obtain ⟨r, L, hr, rfl, hO, hS, hB, hall, hof⟩ := hrel
    have LL : Hid (L.length = r) := by
      show _ = _
      have := congrArg List.length hS.out
      rw [List.length_map, List.length_map, List.length_range] at this
      exact this
    obtain ⟨la, lc, el⟩ := (hO.rd (by have := LL.out; omega)).form
    subst el
    obtain ⟨⟨y0, y1, y2, y3, y4, y5⟩, B0⟩ := LG2.out wr hB.out
    simp only at y0 y1 y2 y3 y4 y5
    rw [← hgb.out] at y0 y1 y2 y3 y4 y5
    by_cases hlt : r < T
    · have hlt' : (r : Int) < (T : Int) := by omega
      obtain ⟨V, hV⟩ : ∃ V, Hid (V = rlV a ⟨k, m, z, s, (T : Int), o⟩ K r) := ⟨_, rfl⟩
      have KS1 := fun V => KS0 V (r : Int) (WalkArith.wf_i64 (by omega))
      rw [HSL.out r hlt] at KS1
      obtain ⟨ad, had⟩ : ∃ ad, Hid (5 + (r : Int) = ad) := ⟨_, rfl⟩
      rw [had.out] at KS1
      have EV : rvV a K ad = V := by rw [hV.out]; unfold rlV; rw [HSL.out r hlt, had.out]
      have KR := fun W2 (b : Below wr.heap.size wr W2) => vread17_any (HA.out.below (B0.step16 b B0.size)) (ad := ad) (WalkArith.wf_i64 (by have := had.out; omega)) (HK.out.below (B0.step16 b B0.size))
      rw [EV] at KR
      have DV : V.da.length ≤ 4096 := by rw [← EV]; exact vo_da.1
      have FI : rlF a ⟨k, m, z, s, (T : Int), o⟩ K base r = true ↔ (V.has = true ∧ V.ep = base + (r : Int) + 1 ∧ IsR V.da) := by rw [hV.out]; exact rlF_iff
      obtain ⟨is, his⟩ : ∃ is, Hid (decide (V.has = true ∧ V.ep = base + (r : Int) + 1 ∧ IsR V.da) = is) := ⟨_, rfl⟩
      have HF : Hid (rlF a ⟨k, m, z, s, (T : Int), o⟩ K base r = is) := by
        show _ = _
        rw [← his.out]
        by_cases k : (V.has = true ∧ V.ep = base + (r : Int) + 1 ∧ IsR V.da)
        · rw [decide_eq_true k]; exact FI.2 k
        · rw [decide_eq_false k]
          cases e : rlF a ⟨_, m, z, s, (T : Int), o⟩ K base r with
          | false => rfl
          | true => exact absurd (FI.1 e) k
      have KE : ∀ V, Calls Tryz.prog 72 #[.int .i64 base, .int .i64 (r : Int)] V fun e w' => e = .returned (.int .i64 (base + (r : Int) + 1)) ∧ w' = V := fun V => mepoch_any rfl ⟨qq.1, qq.2, by omega, by omega⟩
      obtain ⟨X, hX⟩ : ∃ X, Hid (X = rvX a) := ⟨_, rfl⟩
      rw [← hX.out] at KR
      obtain ⟨ep, hep⟩ : ∃ ep, Hid (base + (r : Int) + 1 = ep) := ⟨_, rfl⟩
      rw [hep.out] at KE
      have KA : Hid (∀ W2 vd, Rd W2 vd V.da → Calls Tryz.prog 71 #[aggV V vd, .int .i64 ep] W2 (AppdM W2 V is)) := fun W2 vd R => mapp_any R (by omega) (by rw [← hep.out]; exact his.out)
      clear EV FI his hep
      obtain ⟨vh, ve, vda, vco, vw⟩ := V
      simp only at DV KR
      go_wp2_with fail
      refine (KS1 _).mono ?_
      rintro _ w2 ⟨rfl, B2⟩
      clear KS1
      have KR1 := KR w2 B2
      go_wp2_with fail
      refine KR1.mono ?_
      rintro _ w3 ⟨vd, rfl, R3, F3, B3⟩
      clear KR KR1 F3
      simp only at R3
      obtain ⟨da, dc, ed⟩ := R3.form
      subst ed
      rw [show aggV ⟨vh, ve, vda, vco, vw⟩ (.slice da vda.length dc) = .agg #[.bool vh, .int .i64 ve, .slice da vda.length dc, .int .i64 ((vco : Nat) : Int), .bool vw] from rfl]
      have B13 := B2.step16 B3 B2.size
      obtain ⟨w4, hw4⟩ : ∃ w4, w4 = w3.alloc (.cells #[.bool vh, .int .i64 ve, .slice da vda.length dc, .int .i64 ((vco : Nat) : Int), .bool vw] 130) := ⟨_, rfl⟩
      obtain ⟨v0, v1, v2, v3, v4, b4, -, l4⟩ := @lay5 w3 (.bool vh) (.int .i64 ve) (.slice da vda.length dc) (.int .i64 ((vco : Nat) : Int)) (.bool vw) 130
      rw [← hw4] at v0 v1 v2 v3 v4 b4 l4
      obtain ⟨vb, hvb⟩ : ∃ vb, Hid (vb = w3.heap.size) := ⟨_, rfl⟩
      have B14 := B13.step16 b4 B13.size
      have BW4 := B0.step16 B14 B0.size
      cases ho : a.off with
      | true =>
        have eX : X = 130 := hX.out.trans (if_pos ho)
        subst eX
        have F : Hid (Recs18 w (rlX a ⟨k, m, z, s, (T : Int), o⟩ K base) (rlR a ⟨k, m, z, s, (T : Int), o⟩ K base) (.returned (.tuple #[.slice none 0 0, .int .i64 130])) w4) := by
          show Recs18 _ _ _ _ _
          rw [(RFF.off ho).2, (RFF.off ho).1]
          exact recs_nil rfl BW4
        clear RFF hO hS hB hall hof B13 B2 B3 b4 v0 v1 v2 v3 v4 l4 B14 BW4 R3 hX hV KA KE HF
        go_wp2
        rw [← hw4]
        clear hw4
        (try rw [Exit.noGoto_ret])
        exact bodyPost_ret (v := .tuple #[.slice none 0 0, .int .i64 130]) (by simp [results, Tryz.results21, go_sem]) rfl F.out
      | false =>
        have eX : X = 0 := hX.out.trans (if_neg (by rw [ho]; decide))
        subst eX
        have R4 := R3.below b4
        have VL : Hid (∀ V2, Below w4.heap.size w4 V2 → V2.cell? ⟨vb, 0, none⟩ = some (.bool vh) ∧ V2.cell? ⟨vb, 1, none⟩ = some (.int .i64 ve) ∧ V2.cell? ⟨vb, 2, none⟩ = some (.slice da vda.length dc) ∧ V2.cell? ⟨vb, 3, none⟩ = some (.int .i64 ((vco : Nat) : Int)) ∧ V2.cell? ⟨vb, 4, none⟩ = some (.bool vw)) := fun V2 b => by
          rw [hvb.out]
          exact ⟨(b.cell (p := ⟨w3.heap.size, 0, none⟩) l4).trans v0, (b.cell (p := ⟨w3.heap.size, 1, none⟩) l4).trans v1, (b.cell (p := ⟨w3.heap.size, 2, none⟩) l4).trans v2, (b.cell (p := ⟨w3.heap.size, 3, none⟩) l4).trans v3, (b.cell (p := ⟨w3.heap.size, 4, none⟩) l4).trans v4⟩
        have KA' : ∀ W2, Below w4.heap.size w4 W2 → Calls Tryz.prog 71 #[.agg #[.bool vh, .int .i64 ve, .slice da vda.length dc, .int .i64 ((vco : Nat) : Int), .bool vw], .int .i64 ep] W2 (AppdM W2 ⟨vh, ve, vda, vco, vw⟩ is) := fun W2 b => KA.out W2 (.slice da vda.length dc) (R4.below b)
        have BD : Below w4.heap.size w4 w4.drew := (Below.refl _ _).drew
        have sD := VL.out _ BD
        have vbl : Hid (vb < w4.heap.size) := by show _ < _; rw [hvb.out]; exact l4
        clear KA v0 v1 v2 v3 v4 l4 R3 b4
        go_upto_region 11 with fail
        rw [← hw4, ← hvb.out]
        clear hw4
        go_cut [15, 16] from 45 to 52 (fun s15 s16 wx => RecBox vda is w4 s15 s16 wx)
        case first =>
          have BC := BD
          refine wp_region_held_drew (S := fun wx => wx.cell? ⟨vb, 0, none⟩ = some (.bool vh) ∧ wx.cell? ⟨vb, 1, none⟩ = some (.int .i64 ve) ∧ wx.cell? ⟨vb, 2, none⟩ = some (.slice da vda.length dc) ∧ wx.cell? ⟨vb, 3, none⟩ = some (.int .i64 ((vco : Nat) : Int)) ∧ wx.cell? ⟨vb, 4, none⟩ = some (.bool vw)) (by kernel_rfl) sD (fun hHeld => ?_)
          refine tkH 0 ?_
          refine tkH 1 ?_
          refine tkH 2 ?_
          refine rmH 3 8 (fun K' hK => ?_) (fun K' hK => ?_)
          · go_simp
            go_at_call 72
            refine (KE _).mono ?_
            rintro _ vv ⟨rfl, hvv⟩
            subst hvv
            dsimp only
            refine koH hK sD fun hHeld => ?_
            clear hK K'
            refine rmH 4 8 (fun K' hK => ?_) (fun K' hK => ?_)
            · go_simp
              go_at_call 71
              refine (KA' _ BC).mono ?_
              rintro _ w5 ⟨⟨⟨ckd, cky, cln, cst⟩, cvs⟩, rfl, hcin, hfar, B5, himp⟩
              obtain ⟨ca, cc, ecs⟩ := hcin.rs.form
              simp only at ecs hfar himp
              subst ecs
              rw [show aggR ⟨⟨ckd, cky, cln, cst⟩, .slice ca cst.length cc⟩ = .agg #[.int .i64 ckd, .string ⟨cky.toArray⟩, .int .i64 cln, .slice ca cst.length cc] from rfl]
              dsimp only
              have B45 : Below w4.heap.size w4 w5 := BC.step16 B5 BC.size
              refine koH hK (VL.out _ B45) fun hHeld => ?_
              clear hK K'
              refine tkH 5 ?_
              refine tkH 6 ?_
              refine tkH 7 ?_
              refine rnH 8 (fun K' hK => ?_)
              obtain ⟨w7, hw7⟩ : ∃ w7, w7 = w5.alloc (.cells #[.int .i64 0, .string ⟨#[]⟩, .int .i64 0, .slice none 0 0] 38) := ⟨_, rfl⟩
              obtain ⟨z0, z1, z2, z3, b7, zf, l7⟩ := @lay4r w5 (.int .i64 0) (.string ⟨#[]⟩) (.int .i64 0) (.slice none 0 0) 38
              rw [← hw7] at z0 z1 z2 z3 b7 zf l7
              have B7 := B45.step16 b7 B45.size
              obtain ⟨rb, hrb⟩ : ∃ rb, Hid (rb = w5.heap.size) := ⟨_, rfl⟩
              replace z0 : w7.cell? ⟨rb, 0, none⟩ = some (.int .i64 0) := by rw [hrb.out]; exact z0
              replace z1 : w7.cell? ⟨rb, 1, none⟩ = some (.string ⟨#[]⟩) := by rw [hrb.out]; exact z1
              replace z2 : w7.cell? ⟨rb, 2, none⟩ = some (.int .i64 0) := by rw [hrb.out]; exact z2
              replace z3 : w7.cell? ⟨rb, 3, none⟩ = some (.slice none 0 0) := by rw [hrb.out]; exact z3
              replace zf : ∀ j, w7.frozen? ⟨rb, j, none⟩ = false := by rw [hrb.out]; exact zf
              replace l7 : rb < w7.heap.size := by rw [hrb.out]; exact l7
              go_simp
              rw [← hw7]
              rw [← hrb.out]
              clear hw7
              refine koH hK (VL.out _ B7) fun hHeld => ?_
              clear hK K'
              obtain ⟨wz, hwz⟩ : ∃ wz, wz = w7 := ⟨_, rfl⟩
              have IN := hcin.below b7
              have BZ := B7
              have NE : Hid (∀ b off cap, cst ≠ [] → Value.slice ca cst.length cc = .slice (some ⟨b, off, none⟩) cst.length cap → b ≠ rb) := fun b off cap hne e => by
                rcases hcin.rs with h | ⟨b2, off2, cap2, h1, h2, h3, h5, h6⟩
                · exact absurd (by obtain ⟨_, _, h, _⟩ := h; exact h) hne
                · simp only at h2; rw [h2] at e; simp at e; obtain ⟨⟨rfl, _⟩, _⟩ := e; rw [hrb.out]; omega
              have FA : Hid (∀ k, (Value.slice ca cst.length cc).ownBlock = some k → w4.heap.size ≤ k) := fun k hk => Nat.le_trans BC.size (hfar k hk)
              subst hwz
              have f0 := zf 0
              have f1 := zf 1
              have f2 := zf 2
              have f3 := zf 3
              have lrb : w4.heap.size ≤ rb := by rw [hrb.out]; exact B45.size
              exact rbx_end
            · obtain ⟨w7, hw7⟩ : ∃ w7, w7 = (w4.alloc (.cells #[.int .i64 0, .string ⟨#[]⟩, .int .i64 0, .slice none 0 0] 38)).drew := ⟨_, rfl⟩
              obtain ⟨z0, z1, z2, z3, b7, zf, l7⟩ := @lay4r w4 (.int .i64 0) (.string ⟨#[]⟩) (.int .i64 0) (.slice none 0 0) 38
              have B7 : Below w4.heap.size w4 w7 := by rw [hw7]; exact b7.drew
              obtain ⟨rb, hrb⟩ : ∃ rb, Hid (rb = w4.heap.size) := ⟨_, rfl⟩
              replace z0 : w7.cell? ⟨rb, 0, none⟩ = some (.int .i64 0) := by rw [hw7, hrb.out]; exact z0
              replace z1 : w7.cell? ⟨rb, 1, none⟩ = some (.string ⟨#[]⟩) := by rw [hw7, hrb.out]; exact z1
              replace z2 : w7.cell? ⟨rb, 2, none⟩ = some (.int .i64 0) := by rw [hw7, hrb.out]; exact z2
              replace z3 : w7.cell? ⟨rb, 3, none⟩ = some (.slice none 0 0) := by rw [hw7, hrb.out]; exact z3
              replace zf : ∀ j, w7.frozen? ⟨rb, j, none⟩ = false := by rw [hw7, hrb.out]; exact zf
              replace l7 : rb < w7.heap.size := by rw [hw7, hrb.out]; exact l7
              go_simp
              rw [← hw7]
              rw [← hrb.out]
              clear hw7
              refine koH hK (VL.out _ B7) fun hHeld => ?_
              clear hK K'
              clear BC
              have BC := B7
              refine rnH 4 (fun K' hK => ?_)
              go_simp
              go_at_call 71
              refine (KA' _ BC).mono ?_
              rintro _ w5 ⟨⟨⟨ckd, cky, cln, cst⟩, cvs⟩, rfl, hcin, hfar, B5, himp⟩
              obtain ⟨ca, cc, ecs⟩ := hcin.rs.form
              simp only at ecs hfar himp
              subst ecs
              rw [show aggR ⟨⟨ckd, cky, cln, cst⟩, .slice ca cst.length cc⟩ = .agg #[.int .i64 ckd, .string ⟨cky.toArray⟩, .int .i64 cln, .slice ca cst.length cc] from rfl]
              dsimp only
              have B45 : Below w4.heap.size w4 w5 := BC.step16 B5 BC.size
              refine koH hK (VL.out _ B45) fun hHeld => ?_
              clear hK K'
              refine tkH 5 ?_
              refine tkH 6 ?_
              refine tkH 7 ?_
              obtain ⟨wz, hwz⟩ : ∃ wz, wz = w5 := ⟨_, rfl⟩
              have IN := hcin
              have BZ := B45
              have NE : Hid (∀ b off cap, cst ≠ [] → Value.slice ca cst.length cc = .slice (some ⟨b, off, none⟩) cst.length cap → b ≠ rb) := fun b off cap hne e => by
                have := hfar b (by rw [e]; rfl)
                omega
              have FA : Hid (∀ k, (Value.slice ca cst.length cc).ownBlock = some k → w4.heap.size ≤ k) := fun k hk => Nat.le_trans B7.size (hfar k hk)
              replace z0 := (B5.cell (p := ⟨rb, 0, none⟩) l7).trans z0
              replace z1 := (B5.cell (p := ⟨rb, 1, none⟩) l7).trans z1
              replace z2 := (B5.cell (p := ⟨rb, 2, none⟩) l7).trans z2
              replace z3 := (B5.cell (p := ⟨rb, 3, none⟩) l7).trans z3
              have f0 := (B5.frozen (p := ⟨rb, 0, none⟩) l7).trans (zf 0)
              have f1 := (B5.frozen (p := ⟨rb, 1, none⟩) l7).trans (zf 1)
              have f2 := (B5.frozen (p := ⟨rb, 2, none⟩) l7).trans (zf 2)
              have f3 := (B5.frozen (p := ⟨rb, 3, none⟩) l7).trans (zf 3)
              have lrb : w4.heap.size ≤ rb := by rw [hrb.out]; exact Nat.le_refl _
              subst hwz
              exact rbx_end
          · obtain ⟨w7, hw7⟩ : ∃ w7, w7 = (w4.alloc (.cells #[.int .i64 0, .string ⟨#[]⟩, .int .i64 0, .slice none 0 0] 38)).drew := ⟨_, rfl⟩
            obtain ⟨z0, z1, z2, z3, b7, zf, l7⟩ := @lay4r w4 (.int .i64 0) (.string ⟨#[]⟩) (.int .i64 0) (.slice none 0 0) 38
            have B7 : Below w4.heap.size w4 w7 := by rw [hw7]; exact b7.drew
            obtain ⟨rb, hrb⟩ : ∃ rb, Hid (rb = w4.heap.size) := ⟨_, rfl⟩
            replace z0 : w7.cell? ⟨rb, 0, none⟩ = some (.int .i64 0) := by rw [hw7, hrb.out]; exact z0
            replace z1 : w7.cell? ⟨rb, 1, none⟩ = some (.string ⟨#[]⟩) := by rw [hw7, hrb.out]; exact z1
            replace z2 : w7.cell? ⟨rb, 2, none⟩ = some (.int .i64 0) := by rw [hw7, hrb.out]; exact z2
            replace z3 : w7.cell? ⟨rb, 3, none⟩ = some (.slice none 0 0) := by rw [hw7, hrb.out]; exact z3
            replace zf : ∀ j, w7.frozen? ⟨rb, j, none⟩ = false := by rw [hw7, hrb.out]; exact zf
            replace l7 : rb < w7.heap.size := by rw [hw7, hrb.out]; exact l7
            go_simp
            rw [← hw7]
            rw [← hrb.out]
            clear hw7
            refine koH hK (VL.out _ B7) fun hHeld => ?_
            clear hK K'
            clear sD
            have sD := VL.out _ B7
            refine rnH 3 (fun K' hK => ?_)
            go_simp
            go_at_call 72
            refine (KE _).mono ?_
            rintro _ vv ⟨rfl, hvv⟩
            subst hvv
            dsimp only
            refine koH hK sD fun hHeld => ?_
            clear hK K'
            clear BC
            have BC := B7
            refine rnH 4 (fun K' hK => ?_)
            go_simp
            go_at_call 71
            refine (KA' _ BC).mono ?_
            rintro _ w5 ⟨⟨⟨ckd, cky, cln, cst⟩, cvs⟩, rfl, hcin, hfar, B5, himp⟩
            obtain ⟨ca, cc, ecs⟩ := hcin.rs.form
            simp only at ecs hfar himp
            subst ecs
            rw [show aggR ⟨⟨ckd, cky, cln, cst⟩, .slice ca cst.length cc⟩ = .agg #[.int .i64 ckd, .string ⟨cky.toArray⟩, .int .i64 cln, .slice ca cst.length cc] from rfl]
            dsimp only
            have B45 : Below w4.heap.size w4 w5 := BC.step16 B5 BC.size
            refine koH hK (VL.out _ B45) fun hHeld => ?_
            clear hK K'
            refine tkH 5 ?_
            refine tkH 6 ?_
            refine tkH 7 ?_
            obtain ⟨wz, hwz⟩ : ∃ wz, wz = w5 := ⟨_, rfl⟩
            have IN := hcin
            have BZ := B45
            have NE : Hid (∀ b off cap, cst ≠ [] → Value.slice ca cst.length cc = .slice (some ⟨b, off, none⟩) cst.length cap → b ≠ rb) := fun b off cap hne e => by
              have := hfar b (by rw [e]; rfl)
              omega
            have FA : Hid (∀ k, (Value.slice ca cst.length cc).ownBlock = some k → w4.heap.size ≤ k) := fun k hk => Nat.le_trans B7.size (hfar k hk)
            replace z0 := (B5.cell (p := ⟨rb, 0, none⟩) l7).trans z0
            replace z1 := (B5.cell (p := ⟨rb, 1, none⟩) l7).trans z1
            replace z2 := (B5.cell (p := ⟨rb, 2, none⟩) l7).trans z2
            replace z3 := (B5.cell (p := ⟨rb, 3, none⟩) l7).trans z3
            have f0 := (B5.frozen (p := ⟨rb, 0, none⟩) l7).trans (zf 0)
            have f1 := (B5.frozen (p := ⟨rb, 1, none⟩) l7).trans (zf 1)
            have f2 := (B5.frozen (p := ⟨rb, 2, none⟩) l7).trans (zf 2)
            have f3 := (B5.frozen (p := ⟨rb, 3, none⟩) l7).trans (zf 3)
            have lrb : w4.heap.size ≤ rb := by rw [hrb.out]; exact Nat.le_refl _
            subst hwz
            exact rbx_end
        case rest =>
          obtain ⟨rb, ⟨⟨ckd, cky, cln, cst⟩, cvs⟩, rfl, rfl, B6, r0, r1, r2, r3, INN, hfar, himp⟩ := hcut
          obtain ⟨ca, cc, ecs⟩ := INN.rs.form
          simp only at ecs r0 r1 r2 r3 hfar himp
          subst ecs
          replace r1 : wc.cell? ⟨rb, 1, none⟩ = some (.string ⟨cky.toArray⟩) := r1
          obtain ⟨q0, q1, q2, q3, q4⟩ := VL.out _ B6
          have BW6 := BW4.step16 B6 BW4.size
          have Br6 := B14.step16 B6 B14.size
          have O6 := hO.later Br6
          have BWW : Hid (Below W.heap.size W wc) := hB.out.step16 Br6 hB.out.size
          have lo4 : wr.heap.size ≤ w4.heap.size := B14.size
          have NR : NearR W.heap.size wc.heap.size (.slice la L.length lc) (.slice ca cst.length cc) := near_far (lo := w4.heap.size) INN.rs (Nat.le_trans hB.out.size lo4) (fun q hq => by have := (World.ownsRow.lt hO.row q hq).2; omega) hfar
          have s6 := BWW.out.size
          have RV : rlV a ⟨k, m, z, s, (T : Int), o⟩ K r = ⟨vh, ve, vda, vco, vw⟩ := hV.out.symm
          have st0 := RFF.stop0 r ho hall.out hlt
          have st1 := RFF.stop1 r ho hall.out hlt
          rw [RV] at st0 st1
          have Ll : L.length ≤ 100000 := by have := LL.out; omega
          have OFF : Hid (0 < r + 1 → a.off = false) := fun _ => ho
          clear VL sD BD KA' KE RFF B13 B14 BW4 B2 B3 R4 Br6 lo4 hfar q0 q1 q2 q3
          cases is with
          | true =>
            have SN' : Hid ((L ++ [(⟨⟨ckd, cky, cln, cst⟩, .slice ca cst.length cc⟩ : RcV)]).map (fun x => RcV.r x) = (List.range (r + 1)).map fun i => raR (rlV a ⟨k, m, z, s, (T : Int), o⟩ K i).da) := by
              have e : (⟨ckd, cky, cln, cst⟩ : RcS) = raR vda := himp rfl
              show _ = _
              rw [List.map_append, hS.out, List.range_succ, List.map_append]
              show _ ++ [(⟨ckd, cky, cln, cst⟩ : RcS)] = _ ++ [raR (rlV a ⟨k, m, z, s, (T : Int), o⟩ K r).da]
              rw [RV, e]
            have AL : Hid (∀ j, j < r + 1 → rlF a ⟨k, m, z, s, (T : Int), o⟩ K base j = true) := fun j hj => by
              by_cases e : j = r
              · rw [e]; exact HF.out
              · exact hall.out j (by omega)
            clear st0 st1 himp RV hV hS hall hof hB hO HF BW6 hX q4
            go_wp2_with (at_builtin; go_loud (refine wpList_append_rc (w := wc) (c := ⟨⟨ckd, cky, cln, cst⟩, .slice ca cst.length cc⟩) rfl (.tmp 55) (.tmp 57) rfl rfl rfl O6 INN NR rfl rfl rfl Ll s6 ?_); go_loud (intro v7 w7 o7 G7; have B7 : Below W.heap.size W w7 := BWW.out.grown G7.gr BWW.out.size (fun q hq => (World.ownsRow.lt O6.row q hq).1); clear G7 O6 NR INN))
            have B8 : Hid (Below W.heap.size W w7) := B7
            go_roundw
            case rel => exact ⟨r + 1, _, by omega, by go_num, o7, SN', B8, AL, OFF⟩
            case measure => simp [intOf]; omega
          | false =>
            cases vw with
            | false =>
              have F : Hid (Recs18 w (rlX a ⟨k, m, z, s, (T : Int), o⟩ K base) (rlR a ⟨k, m, z, s, (T : Int), o⟩ K base) (.returned (.tuple #[.slice none 0 0, .int .i64 150])) wc) := by
                show Recs18 _ _ _ _ _
                rw [(st0 HF.out rfl).2, (st0 HF.out rfl).1]
                exact recs_nil rfl BW6
              clear st0 st1 himp RV hV hS hall hof hB hO HF BW6 hX O6 NR INN BWW s6
              go_wp2
              (try rw [Exit.noGoto_ret])
              exact bodyPost_ret (v := .tuple #[.slice none 0 0, .int .i64 150]) (by simp [results, Tryz.results21, go_sem]) rfl F.out
            | true =>
              have F : Hid (Recs18 w (rlX a ⟨k, m, z, s, (T : Int), o⟩ K base) (rlR a ⟨k, m, z, s, (T : Int), o⟩ K base) (.returned (.tuple #[.slice la L.length lc, .int .i64 0])) wc) := by
                show Recs18 _ _ _ _ _
                rw [(st1 HF.out rfl).2, (st1 HF.out rfl).1]
                exact ⟨_, L, rfl, O6.weak BW.out, hS.out, BW6⟩
              clear st0 st1 himp RV hV hS hall hof hB hO HF BW6 hX O6 NR INN BWW s6
              go_wp2
              (try rw [Exit.noGoto_ret])
              exact bodyPost_ret (v := .tuple #[.slice la L.length lc, .int .i64 0]) (by simp [results, Tryz.results21, go_sem]) rfl F.out
    · obtain rfl : r = T := by omega
      have hge : ¬ (r : Int) < (r : Int) := by omega
      have ho : a.off = false := hof.out (by omega)
      have F : Hid (Recs18 w (rlX a ⟨k, m, z, s, (r : Int), o⟩ K base) (rlR a ⟨k, m, z, s, (r : Int), o⟩ K base) (.returned (.tuple #[.slice la L.length lc, .int .i64 0])) wr) := by
        obtain ⟨e1, e2⟩ := RFF.full ho hall.out
        show Recs18 _ _ _ _ _
        rw [e1, e2]
        exact ⟨_, L, rfl, hO.weak BW.out, hS.out, B0⟩
      clear RFF hO hS hB hall hof B0 KS0
      go_wp2
      (try rw [Exit.noGoto_ret])
      exact bodyPost_ret (v := .tuple #[.slice la L.length lc, .int .i64 0]) (by simp [results, Tryz.results21, go_sem]) rfl F.out
end Go.Proofs.YtclieefpnbdbjaaGreat.Gf
