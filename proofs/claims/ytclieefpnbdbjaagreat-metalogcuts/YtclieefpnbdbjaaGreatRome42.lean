/- TEXTS JOINED: MeRl, MeCR. -/
import Derived.Test.YtclieefpnbdbjaaGreatRome37
import Derived.Test.YtclieefpnbdbjaaGreatRome25
import Derived.Test.YtclieefpnbdbjaaGreatRome33
namespace Go.Proofs.YtclieefpnbdbjaaGreat.Gf
set_option linter.unusedVariables false
set_option linter.unusedSimpArgs false
open Go.RowKit
theorem vo_da {a : ArS} {K : List Bool} {ad : Int} : (rvV a K ad).da.length ≤ 4096 ∧ (Lit.int .i64 (rvV a K ad).ep).wf = true := by
  unfold rvV
  split
  · exact ⟨Nat.zero_le _, by decide⟩
  · rcases vo_or (sayL a ad) with h | ⟨e, d, h⟩
    · rw [vo_none h K]; exact ⟨Nat.zero_le _, show (Lit.int .i64 0).wf = true by decide⟩
    · have := top_se h
      rw [vo_top h K]
      exact ⟨this.2.2, show (Lit.int .i64 e).wf = true from WalkArith.wf_i64 (by have := this.2.1; omega)⟩
/-- records, and an error -/
def Recs18 (w : World) (X : Int) (R : List RcS) (e : Ending) (w' : World) : Prop := ∃ v L, e = .returned (.tuple #[v, .int .i64 X]) ∧ OwnRc w' w.heap.size v L ∧ L.map (·.r) = R ∧ Below w.heap.size w w'
theorem recs_nil {w w' : World} {X : Int} {R : List RcS} (hR : R = []) (b : Below w.heap.size w w') : Recs18 w X R (.returned (.tuple #[.slice none 0 0, .int .i64 X])) w' := by
  subst hR
  exact ⟨_, [], rfl, OwnRc.nil _ _, rfl, b⟩
theorem rl_bad {a : ArS} {g : GeoS} {K : List Bool} {base x : Int} (h : rlX a g K base = x) (hx : ¬ x = 0) : rlR a g K base = [] := by
  unfold rlR
  rw [if_neg (by rw [h]; exact hx)]
theorem rlF_iff {a : ArS} {g : GeoS} {K : List Bool} {base : Int} {i : Nat} : rlF a g K base i = true ↔ ((rlV a g K i).has = true ∧ (rlV a g K i).ep = base + (i : Int) + 1 ∧ IsR (rlV a g K i).da) := by
  unfold rlF
  exact @decide_eq_true_iff _ (Classical.propDecidable _)
theorem rl_main {a : ArS} {g : GeoS} {K : List Bool} {base : Int} (h : okG g) (q : 0 ≤ base ∧ base ≤ mo18) (ho : a.off = false) : rlX a g K base = (if rlN a g K base < g.t.toNat ∧ (rlV a g K (rlN a g K base)).wi = false then 150 else 0) := by
  unfold rlX
  rw [if_neg (fun k => k h), if_neg (fun k => k q), if_neg (by rw [ho]; decide)]
theorem rl_stop {a : ArS} {g : GeoS} {K : List Bool} {base : Int} {r : Nat} (h : okG g) (q : 0 ≤ base ∧ base ≤ mo18) (ho : a.off = false) (hall : ∀ i, i < r → rlF a g K base i = true) (hr : r < g.t.toNat) (hn : rlF a g K base r = false) :
    ((rlV a g K r).wi = false → rlX a g K base = 150) ∧ ((rlV a g K r).wi = true → rlX a g K base = 0 ∧ rlR a g K base = (List.range r).map fun i => raR (rlV a g K i).da) := by
  have e : rlN a g K base = r := ru_stop hall hr hn
  have m := rl_main (K := K) h q ho
  rw [e] at m
  refine ⟨fun w => by rw [m, if_pos ⟨hr, w⟩], fun w => ?_⟩
  have x : rlX a g K base = 0 := by rw [m, if_neg (by rw [w]; simp)]
  refine ⟨x, ?_⟩
  unfold rlR
  rw [if_pos x, e]
theorem rl_full {a : ArS} {g : GeoS} {K : List Bool} {base : Int} (h : okG g) (q : 0 ≤ base ∧ base ≤ mo18) (ho : a.off = false) (hall : ∀ i, i < g.t.toNat → rlF a g K base i = true) : rlX a g K base = 0 ∧ rlR a g K base = (List.range g.t.toNat).map fun i => raR (rlV a g K i).da := by
  have e : rlN a g K base = g.t.toNat := ru_full hall
  have m := rl_main (K := K) h q ho
  rw [e] at m
  have x : rlX a g K base = 0 := by rw [m, if_neg (by omega)]
  refine ⟨x, ?_⟩
  unfold rlR
  rw [if_pos x, e]
/-- what Replay answers, where its numbers may be -/
structure RlF18 (a : ArS) (g : GeoS) (K : List Bool) (base : Int) (T : Nat) : Prop where
  off : a.off = true → rlX a g K base = 130 ∧ rlR a g K base = []
  stop0 : ∀ r, a.off = false → (∀ i, i < r → rlF a g K base i = true) → r < T → rlF a g K base r = false → (rlV a g K r).wi = false → rlX a g K base = 150 ∧ rlR a g K base = []
  stop1 : ∀ r, a.off = false → (∀ i, i < r → rlF a g K base i = true) → r < T → rlF a g K base r = false → (rlV a g K r).wi = true → rlX a g K base = 0 ∧ rlR a g K base = (List.range r).map fun i => raR (rlV a g K i).da
  full : a.off = false → (∀ i, i < T → rlF a g K base i = true) → rlX a g K base = 0 ∧ rlR a g K base = (List.range T).map fun i => raR (rlV a g K i).da
theorem rl_facts {a : ArS} {g : GeoS} {K : List Bool} {base : Int} (h : okG g) (q : 0 ≤ base ∧ base ≤ mo18) : RlF18 a g K base g.t.toNat := by
  refine ⟨fun ho => ?_, fun r ho h1 h2 h3 h4 => ?_, fun r ho h1 h2 h3 h4 => (rl_stop h q ho h1 h2 h3).2 h4, fun ho h1 => rl_full h q ho h1⟩
  · have x : rlX a g K base = 130 := by unfold rlX; rw [if_neg (fun k => k h), if_neg (fun k => k q), if_pos ho]
    exact ⟨x, rl_bad x (by decide)⟩
  · have x := (rl_stop h q ho h1 h2 h3).1 h4
    exact ⟨x, rl_bad x (by decide)⟩
end Go.Proofs.YtclieefpnbdbjaaGreat.Gf

namespace Go.Proofs.YtclieefpnbdbjaaGreat.Gf
set_option linter.unusedVariables false
set_option linter.unusedSimpArgs false
open Go.RowKit
theorem lay4r {w : World} {a b c d : Value} {t : Nat} : (w.alloc (.cells #[a, b, c, d] t)).cell? ⟨w.heap.size, 0, none⟩ = some a ∧ (w.alloc (.cells #[a, b, c, d] t)).cell? ⟨w.heap.size, 1, none⟩ = some b ∧ (w.alloc (.cells #[a, b, c, d] t)).cell? ⟨w.heap.size, 2, none⟩ = some c ∧ (w.alloc (.cells #[a, b, c, d] t)).cell? ⟨w.heap.size, 3, none⟩ = some d ∧ Below w.heap.size w (w.alloc (.cells #[a, b, c, d] t)) ∧ (∀ j, (w.alloc (.cells #[a, b, c, d] t)).frozen? ⟨w.heap.size, j, none⟩ = false) ∧ w.heap.size < (w.alloc (.cells #[a, b, c, d] t)).heap.size := by
  have z : ∀ j, (w.alloc (.cells #[a, b, c, d] t)).cell? ⟨w.heap.size, j, none⟩ = #[a, b, c, d][j]? := fun j => World.cell?_alloc_new _ _ _ _
  exact ⟨z 0, z 1, z 2, z 3, belR _ _, fun j => by simp [go_sem], by simp⟩
/-- a record that a vote was asked for, and whether it is one -/
def AppdM (w : World) (V : VoS) (is : Bool) (e : Ending) (w' : World) : Prop := ∃ c : RcV, e = .returned (.tuple #[aggR c, .bool is]) ∧ c.In w' ∧ (∀ k, c.vs.ownBlock = some k → w.heap.size ≤ k) ∧ Below w.heap.size w w' ∧ (is = true → c.r = raR V.da)
theorem appd_nil {w X : World} {V : VoS} (b : Below w.heap.size w X) : AppdM w V false (.returned (.tuple #[.agg #[.int .i64 0, .string ⟨#[]⟩, .int .i64 0, .slice none 0 0], .bool false])) X :=
  ⟨⟨noR, .slice none 0 0⟩, rfl, noR_in _, fun k hk => by simp [Value.ownBlock] at hk, b, fun q => by cases q⟩
theorem app_zero {p : Prop} (h : p := by
  have F : Hid (Below w.heap.size w W) := BW
  clear BW
  go_wp2
  exact bodyPost_ret (v := .tuple #[.agg #[.int .i64 0, .string ⟨#[]⟩, .int .i64 0, .slice none 0 0], .bool false]) (by simp [results, Tryz.results71, go_sem, z0, z1, z2, z3]) rfl (appd_nil F.out)) : p := h
set_option maxRecDepth 100000 in
set_option maxHeartbeats 2000000 in
theorem mapp_any {w : World} {V : VoS} {vd : Value} (hd : Rd w vd V.da) (hl : V.da.length ≤ 100000) {ep : Int} {is : Bool} (his : decide (V.has = true ∧ V.ep = ep ∧ IsR V.da) = is) : Calls Tryz.prog 71 #[aggV V vd, .int .i64 ep] w (AppdM w V is) := by
  obtain ⟨vh, ve, vda, vco, vw⟩ := V
  obtain ⟨va, vc, ev⟩ := hd.form
  simp only at ev hd hl his
  subst ev
  rw [show aggV ⟨vh, ve, vda, vco, vw⟩ (.slice va vda.length vc) = .agg #[.bool vh, .int .i64 ve, .slice va vda.length vc, .int .i64 ((vco : Nat) : Int), .bool vw] from rfl]
  have HIS : Hid (decide (vh = true ∧ ve = ep ∧ IsR vda) = is) := his
  obtain ⟨W0, hW0⟩ : ∃ W0, W0 = w.alloc (.cells #[.bool vh, .int .i64 ve, .slice va vda.length vc, .int .i64 ((vco : Nat) : Int), .bool vw] 130) := ⟨_, rfl⟩
  obtain ⟨v0, v1, v2, v3, v4, b0, -, l0⟩ := @lay5 w (.bool vh) (.int .i64 ve) (.slice va vda.length vc) (.int .i64 ((vco : Nat) : Int)) (.bool vw) 130
  rw [← hW0] at v0 v1 v2 v3 v4 b0 l0
  obtain ⟨W, hW⟩ : ∃ W, W = W0.alloc (.cells #[.int .i64 0, .string ⟨#[]⟩, .int .i64 0, .slice none 0 0] 38) := ⟨_, rfl⟩
  obtain ⟨z0, z1, z2, z3, bW, zf, lW⟩ := @lay4r W0 (.int .i64 0) (.string ⟨#[]⟩) (.int .i64 0) (.slice none 0 0) 38
  rw [← hW] at z0 z1 z2 z3 bW zf lW
  have e1 : w.heap.size + 1 = W0.heap.size := by rw [hW0]; simp
  replace v0 := (bW.cell (p := ⟨w.heap.size, 0, none⟩) l0).trans v0
  replace v1 := (bW.cell (p := ⟨w.heap.size, 1, none⟩) l0).trans v1
  replace v2 := (bW.cell (p := ⟨w.heap.size, 2, none⟩) l0).trans v2
  rw [hW0] at hW
  have BW : Below w.heap.size w W := b0.step16 bW b0.size
  obtain ⟨b1, hb1⟩ : ∃ b1, Hid (b1 = W0.heap.size) := ⟨_, rfl⟩
  rw [← hb1.out] at z0 z1 z2 z3 zf lW e1
  have f0 := zf 0
  have f1 := zf 1
  have f2 := zf 2
  have f3 := zf 3
  have RD := hd.below BW
  have hEb : Hid (w.heap.size + 1 = b1) := e1
  have lwb : w.heap.size < b1 := by omega
  clear his hd e1 v3 v4 b0 bW hW0
  cases vh with
  | false =>
    have E : is = false := by rw [← HIS.out]; simp
    subst E
    clear HIS RD
    go_enter Tryz.func71, Tryz.ntmps71
    go_wp2_with fail
    rw [← hW, hEb.out]
    clear hW
    exact app_zero
  | true =>
    by_cases q : ve = ep
    rotate_left
    · have q' : (ve == ep) = false := beq_eq_false_iff_ne.2 q
      have q2 : (ve != ep) = true := by simp [bne, q']
      have E : is = false := by rw [← HIS.out]; exact decide_eq_false fun k => q k.2.1
      subst E
      clear HIS RD
      go_enter Tryz.func71, Tryz.ntmps71
      go_wp2_with fail
      rw [← hW, hEb.out]
      clear hW
      exact app_zero
    · subst q
      obtain ⟨X, hX⟩ : ∃ X, Hid ((if IsR vda then (0 : Int) else 160) = X) := ⟨_, rfl⟩
      have KD := dec16_any RD hl hX.out rfl
      have HE : Hid (is = decide (X = 0)) := by
        show is = _
        rw [← HIS.out, ← hX.out]
        by_cases k : IsR vda
        · rw [if_pos k]; simp [k]
        · rw [if_neg k]; simp [k]
      have HR : Hid (X = 0 → (if IsR vda then raR vda else noR) = raR vda) := fun e => by
        rw [← hX.out] at e
        by_cases k : IsR vda
        · rw [if_pos k]
        · rw [if_neg k] at e; cases e
      generalize (if IsR vda then raR vda else noR) = rr at KD HR
      clear HIS RD hX
      go_enter Tryz.func71, Tryz.ntmps71
      go_wp2_with fail
      rw [← hW, hEb.out]
      clear hW
      refine KD.mono ?_
      rintro _ w1 ⟨⟨⟨ckd, cky, cln, cst⟩, cvs⟩, rfl, hcr, hcin, B1, hfar⟩
      obtain ⟨ca, cc, ecs⟩ := hcin.rs.form
      simp only at ecs hcr hfar
      subst ecs
      rw [show aggR ⟨⟨ckd, cky, cln, cst⟩, .slice ca cst.length cc⟩ = .agg #[.int .i64 ckd, .string ⟨cky.toArray⟩, .int .i64 cln, .slice ca cst.length cc] from rfl]
      obtain ⟨w2, hw2⟩ : ∃ w2, w2 = w1.alloc (.cells #[.int .i64 ckd, .string ⟨cky.toArray⟩, .int .i64 cln, .slice ca cst.length cc] 38) := ⟨_, rfl⟩
      obtain ⟨r0, r1, r2, r3, b2, -, l2⟩ := @lay4r w1 (.int .i64 ckd) (.string ⟨cky.toArray⟩) (.int .i64 cln) (.slice ca cst.length cc) 38
      rw [← hw2] at r0 r1 r2 r3 b2 l2
      have B12 := B1.step16 b2 B1.size
      replace z0 := (B12.cell (p := ⟨b1, 0, none⟩) lW).trans z0
      replace z1 := (B12.cell (p := ⟨b1, 1, none⟩) lW).trans z1
      replace z2 := (B12.cell (p := ⟨b1, 2, none⟩) lW).trans z2
      replace z3 := (B12.cell (p := ⟨b1, 3, none⟩) lW).trans z3
      have g0 := (B12.frozen (p := ⟨b1, 0, none⟩) lW).trans f0
      have g1 := (B12.frozen (p := ⟨b1, 1, none⟩) lW).trans f1
      have g2 := (B12.frozen (p := ⟨b1, 2, none⟩) lW).trans f2
      have g3 := (B12.frozen (p := ⟨b1, 3, none⟩) lW).trans f3
      obtain ⟨Y, hY⟩ : ∃ Y, Y = (((w2.setCell ⟨b1, 0, none⟩ (.int .i64 ckd)).setCell ⟨b1, 1, none⟩ (.string ⟨cky.toArray⟩)).setCell ⟨b1, 2, none⟩ (.int .i64 cln)).setCell ⟨b1, 3, none⟩ (.slice ca cst.length cc) := ⟨_, rfl⟩
      obtain ⟨oX, s0, s1, s2, s3⟩ := set4 (a := .int .i64 ckd) (b := .string ⟨cky.toArray⟩) (c := .int .i64 cln) (d := .slice ca cst.length cc) z0 z1 z2 z3
      rw [← hY] at oX s0 s1 s2 s3
      have nb : ∀ k, (Value.slice ca cst.length cc).ownBlock = some k → k ≠ b1 := fun k hk e => by have := hfar k hk; omega
      have IN : RcV.In w2 ⟨⟨ckd, cky, cln, cst⟩, .slice ca cst.length cc⟩ := hcin.below b2
      have INY : RcV.In Y ⟨⟨ckd, cky, cln, cst⟩, .slice ca cst.length cc⟩ := ⟨IN.wk, IN.wl, IN.ky, by
        rcases IN.rs with h | ⟨b, off, cap, h1, h2, h3, h5, h6⟩
        · exact Or.inl h
        · have hne : b ≠ b1 := nb b (by simp only at h2; rw [h2]; rfl)
          exact Or.inr ⟨b, off, cap, h1, h2, h3, Nat.lt_of_lt_of_le h5 (Nat.le_of_eq oX.size.symm), fun i hi => (oX.cell (p := ⟨b, off + i, none⟩) hne).trans (h6 i hi)⟩, IN.wi⟩
      have F : Hid (AppdM w ⟨true, ve, vda, vco, vw⟩ is (.returned (.tuple #[.agg #[.int .i64 ckd, .string ⟨cky.toArray⟩, .int .i64 cln, .slice ca cst.length cc], .bool (X == 0)])) Y) := by
        have e0 : (X == 0) = is := by rw [HE.out]; by_cases k : X = 0 <;> simp [k]
        rw [e0]
        refine ⟨⟨⟨ckd, cky, cln, cst⟩, .slice ca cst.length cc⟩, rfl, INY, fun k hk => ?_, (BW.step16 B12 BW.size).trans (oX.below (by omega)), fun k => ?_⟩
        · have := hfar k hk; have := BW.size; omega
        · rw [HE.out] at k
          exact hcr.trans (HR.out (of_decide_eq_true k))
      clear HE HR hcr hcin B1 hfar b2 B12 oX IN INY nb f0 f1 f2 f3 zf BW KD
      subst hw2
      go_wp2
      rw [← hY]
      clear hY
      exact bodyPost_ret (v := .tuple #[.agg #[.int .i64 ckd, .string ⟨cky.toArray⟩, .int .i64 cln, .slice ca cst.length cc], .bool (X == 0)]) (by simp [results, Tryz.results71, go_sem, s0, s1, s2, s3]) rfl F.out
end Go.Proofs.YtclieefpnbdbjaaGreat.Gf
