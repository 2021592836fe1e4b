/- TEXTS JOINED: MeCP. -/
import Derived.Deep.CutRange
import Derived.Test.YtclieefpnbdbjaaGreatRome39
import Derived.Test.YtclieefpnbdbjaaGreatRome21
import Derived.Test.YtclieefpnbdbjaaGreatRome17
namespace Go.Proofs.YtclieefpnbdbjaaGreat.Gf
set_option linter.unusedVariables false
set_option linter.unusedSimpArgs false
open Go.RowKit
theorem fi_two (x u : Int) : fiE [x, u] = if ¬ x = 0 then x else u := by
  unfold fiE
  by_cases q : x = 0
  · rw [if_pos q, if_neg (fun k => k q)]
    unfold fiE
    by_cases q2 : u = 0
    · rw [if_pos q2, q2]; rfl
    · rw [if_neg q2]
  · rw [if_neg q, if_pos q]
theorem la_app {a : ArS} {g : GeoS} {base count : Int} {r : RcS} (hP : apP g base count r = 0) : laX a (base + count + 1) [(slG g count, enR r)] = apX a g base count r ∧ laT a (base + count + 1) [(slG g count, enR r)] = apS a g base count r := by
  have nn : ¬ ¬ apP g base count r = 0 := fun k => k hP
  have e : laV a (base + count + 1) [(slG g count, enR r)] 1 = ⟨(apW a g base count r).cr, true && decide (0 < (apW a g base count r).n), (apW a g base count r).st⟩ := la_go rfl
  unfold laX laT apX apS
  rw [show ([(slG g count, enR r)] : List (Int × List UInt8)).length = 1 from rfl, e, if_neg nn, if_neg nn]
  refine ⟨?_, rfl⟩
  show (if (apW a g base count r).cr = true then (130 : Int) else fiE [flAX (apW a g base count r).st, if (true && decide (0 < (apW a g base count r).n)) = true then 0 else 150]) = _
  rw [fi_two]
  by_cases q : (apW a g base count r).n = 0
  · rw [if_pos q, q]; rfl
  · rw [if_neg q, show (true && decide (0 < (apW a g base count r).n)) = true by simp; omega]; rfl
theorem ap_first {g : GeoS} {base count : Int} {r : RcS} {yb cb db bv : Bool} (h1 : decide (0 ≤ base ∧ base ≤ mo18) = yb) (h2 : decide (0 ≤ count) = cb) (h3 : decide (count < g.t) = db) (h4 : bv = (yb && cb)) : fiE [chG g, if bv = true then 0 else 1, chR r, if db = true then 0 else 180] = apP g base count r := by
  have hb : bv = decide ((0 ≤ base ∧ base ≤ mo18) ∧ 0 ≤ count) := by rw [h4, ← h1, ← h2]; simp
  subst hb h3
  clear h4 h1 h2
  unfold apP chG chR
  by_cases q : okG g
  · have n1 : ¬ ¬ okG g := fun k => k q
    rw [if_pos q, if_neg n1]
    by_cases q2 : (0 ≤ base ∧ base ≤ mo18) ∧ 0 ≤ count
    · rw [decide_eq_true q2]
      by_cases q4 : OkR r
      · have n2 : ¬ ¬ (0 ≤ base ∧ 0 ≤ count ∧ base ≤ mo18 ∧ OkR r) := fun k => k ⟨q2.1.1, q2.2, q2.1.2, q4⟩
        rw [if_pos q4, if_neg n2]
        by_cases q3 : g.t ≤ count
        · rw [if_pos q3, decide_eq_false (show ¬ count < g.t by omega)]; rfl
        · rw [if_neg q3, decide_eq_true (show count < g.t by omega)]; rfl
      · have n2 : ¬ (0 ≤ base ∧ 0 ≤ count ∧ base ≤ mo18 ∧ OkR r) := fun k => q4 k.2.2.2
        rw [if_neg q4, if_pos n2]; rfl
    · have n2 : ¬ (0 ≤ base ∧ 0 ≤ count ∧ base ≤ mo18 ∧ OkR r) := fun k => q2 ⟨⟨k.1, k.2.2.1⟩, k.2.1⟩
      rw [decide_eq_false q2, if_pos n2]; rfl
  · rw [if_neg q, if_pos q]; rfl
theorem apn {p : Prop} (h : p := by
  refine rnH 2 (fun K hK => ?_)
  go_simp
  go_at_call 62
  refine (KA _ (by assumption)).mono ?_
  rintro _ vv ⟨rfl, hB⟩
  dsimp only
  refine koH hK ((LB.out _ (by assumption)).1) fun hHeld => ?_
  clear hK K
  refine rnH 4 (fun K hK => ?_)
  go_simp
  go_at_call 68
  refine (KB _ (by assumption)).mono ?_
  rintro _ vv ⟨rfl, hB⟩
  dsimp only
  refine koH hK ((LB.out _ (by assumption)).1) fun hHeld => ?_
  clear hK K
  refine tkH 5 ?_
  refine tkH 6 ?_
  refine tkH 7 ?_
  refine tkH 8 ?_
  refine rnH 9 (fun K hK => ?_)
  go_simp
  go_at_call 66
  refine (KC _ (by assumption)).mono ?_
  rintro _ vv ⟨rfl, hB⟩
  dsimp only
  refine koH hK ((LB.out _ (by assumption)).1) fun hHeld => ?_
  clear hK K
  refine rnH 15 (fun K hK => ?_)
  go_simp
  go_at_call 66
  refine (KD _ (by assumption)).mono ?_
  rintro _ vv ⟨rfl, hB⟩
  dsimp only
  refine koH hK ((LB.out _ (by assumption)).1) fun hHeld => ?_
  clear hK K
  refine rnH 16 (fun K hK => ?_)
  go_simp
  refine koH hK ((LB.out _ (LL.out _ _ _ (by assumption))).1) fun hHeld => ?_
  clear hK K
  refine rnH 17 (fun K hK => ?_)
  go_simp
  go_at_call 67
  refine (KF _ (by assumption)).mono ?_
  rintro _ vv ⟨rfl, hB⟩
  dsimp only
  refine koH hK ((LB.out _ (by assumption)).1) fun hHeld => ?_
  clear hK K
  refine tkH 18 ?_
  refine wpAnyH_done (by kernel_rfl) ?_ _
  go_wp2
  go_meet
  case rel => exact ⟨rfl, by assumption⟩) : p := h
theorem apo {p : Prop} (h : p := by
  refine rnH 2 (fun K hK => ?_)
  go_simp
  go_at_call 62
  refine (KA _ (by assumption)).mono ?_
  rintro _ vv ⟨rfl, hB⟩
  dsimp only
  refine koH hK ((LB.out _ (by assumption)).1) fun hHeld => ?_
  clear hK K
  refine rnH 4 (fun K hK => ?_)
  go_simp
  go_at_call 68
  refine (KB _ (by assumption)).mono ?_
  rintro _ vv ⟨rfl, hB⟩
  dsimp only
  refine koH hK ((LB.out _ (by assumption)).1) fun hHeld => ?_
  clear hK K
  refine tkH 5 ?_
  refine skH 6 ?_
  refine skH 7 ?_
  refine tkH 8 ?_
  refine rnH 9 (fun K hK => ?_)
  go_simp
  go_at_call 66
  refine (KC _ (by assumption)).mono ?_
  rintro _ vv ⟨rfl, hB⟩
  dsimp only
  refine koH hK ((LB.out _ (by assumption)).1) fun hHeld => ?_
  clear hK K
  refine rnH 15 (fun K hK => ?_)
  go_simp
  go_at_call 66
  refine (KD _ (by assumption)).mono ?_
  rintro _ vv ⟨rfl, hB⟩
  dsimp only
  refine koH hK ((LB.out _ (by assumption)).1) fun hHeld => ?_
  clear hK K
  refine rnH 16 (fun K hK => ?_)
  go_simp
  refine koH hK ((LB.out _ (LL.out _ _ _ (by assumption))).1) fun hHeld => ?_
  clear hK K
  refine rnH 17 (fun K hK => ?_)
  go_simp
  go_at_call 67
  refine (KF _ (by assumption)).mono ?_
  rintro _ vv ⟨rfl, hB⟩
  dsimp only
  refine koH hK ((LB.out _ (by assumption)).1) fun hHeld => ?_
  clear hK K
  refine tkH 18 ?_
  refine wpAnyH_done (by kernel_rfl) ?_ _
  go_wp2
  go_meet
  case rel => exact ⟨rfl, by assumption⟩) : p := h
theorem apl {p : Prop} (h : p := by
  refine rnH 3 (fun K hK => ?_)
  go_simp
  go_at_call 72
  refine (KE _ (by assumption)).mono ?_
  rintro _ vv ⟨rfl, hB⟩
  dsimp only
  refine koH hK ((LB.out _ (by assumption)).1) fun hHeld => ?_
  clear hK K
  refine rnH 6 (fun K hK => ?_)
  go_simp
  go_at_call 70
  refine (KS _ (by assumption)).mono ?_
  rintro _ vv ⟨rfl, hB⟩
  dsimp only
  refine koH hK ((LB.out _ (by assumption)).1) fun hHeld => ?_
  clear hK K
  refine tkH 8 ?_
  refine rnH 9 (fun K hK => ?_)
  go_simp
  refine koH hK ((LB.out _ (LL.out _ _ _ (by assumption))).1) fun hHeld => ?_
  clear hK K
  refine rnH 10 (fun K hK => ?_)
  go_simp
  go_at_call 79
  refine (KL _ (by assumption)).mono ?_
  rintro _ vv ⟨rfl, GC, AC, gC⟩
  dsimp only
  have FL := FN.out _ _ _ (by assumption) AC gC
  refine koH hK (SG.out _ _ _ (by assumption) gC) fun hHeld => ?_
  clear hK K
  refine tkH 11 ?_
  refine wpAnyH_done (by kernel_rfl) ?_ _
  have F9 : Hid _ := FL
  clear FL AC gC
  go_wp2
  exact bodyPost_ret (v := .int .i64 X) (by simp [results, Tryz.results28, go_sem]) rfl F9.out) : p := h
set_option maxRecDepth 100000 in
set_option maxHeartbeats 8000000 in
theorem mappend_any {w : World} {ab : Nat} {GA : Nat → Prop} {a : ArS} (h : ArAt w ab GA a) {g : GeoS} (hg : g.Wf) {base count : Int} (hcw : (Lit.int .i64 count).wf = true) {c : RcV} (hc : c.In w) :
    Calls Tryz.prog 28 #[.pointer (some ⟨ab, 0, none⟩), aggG g, .int .i64 base, .int .i64 count, aggR c] w (LeavesA w ab GA (apS a g base count c.r) (.int .i64 (apX a g base count c.r))) := by
  obtain ⟨⟨kd, ky, ln, st⟩, vs⟩ := c
  obtain ⟨va, vc, ev⟩ := hc.rs.form
  simp only at ev
  subst ev
  have HC : Hid (RcV.In w ⟨⟨kd, ky, ln, st⟩, .slice va st.length vc⟩) := hc
  have HA : Hid (ArAt w ab GA a) := h
  have lG := h.lt
  have KR0 := fun V => @mref_any V ab g hg _ rfl
  have KS0 := fun V => @lslot_any V g hg count hcw _ rfl
  have T2 := two18 w g kd ln ky (.slice va st.length vc) 23 38
  obtain ⟨y, hy⟩ : ∃ y, Hid (y = chG g) := ⟨_, rfl⟩
  obtain ⟨ad, had⟩ : ∃ ad, Hid (ad = slG g count) := ⟨_, rfl⟩
  obtain ⟨yb, hyb⟩ : ∃ yb, Hid (decide (0 ≤ base ∧ base ≤ mo18) = yb) := ⟨_, rfl⟩
  obtain ⟨cb, hcb⟩ : ∃ cb, decide (0 ≤ count) = cb := ⟨_, rfl⟩
  have hcb2 : decide (count ≥ 0) = cb := hcb
  obtain ⟨db, hdb⟩ : ∃ db, decide (count < g.t) = db := ⟨_, rfl⟩
  obtain ⟨X3, hX3⟩ : ∃ X3, Hid (X3 = chR ⟨kd, ky, ln, st⟩) := ⟨_, rfl⟩
  obtain ⟨E, hE⟩ : ∃ E, Hid (E = apP g base count ⟨kd, ky, ln, st⟩) := ⟨_, rfl⟩
  have FIE : Hid (∀ bv : Bool, bv = (yb && cb) → fiE [y, if bv = true then 0 else 1, X3, if db = true then 0 else 180] = E) := fun bv q => by rw [hy.out, hX3.out, hE.out]; exact ap_first hyb.out hcb hdb q
  have EARLY : Hid (∀ V, ¬ E = 0 → Below w.heap.size w V → LeavesA w ab GA (apS a g base count ⟨kd, ky, ln, st⟩) (.int .i64 (apX a g base count ⟨kd, ky, ln, st⟩)) (.returned (.int .i64 E)) V) := fun V he b => by
    rw [hE.out] at he
    obtain ⟨e1, e2⟩ := @ap_early a g base count ⟨kd, ky, ln, st⟩ _ rfl he
    rw [e1, e2, hE.out]
    exact ⟨rfl, GA, HA.out.below b, Grew.of_below b⟩
  have MAY : Hid (E = 0 → (0 ≤ base ∧ base ≤ mo18 ∧ 0 ≤ count ∧ count ≤ 1000) ∧ OkR ⟨kd, ky, ln, st⟩ ∧ OkSe ad (base + count + 1) (enR ⟨kd, ky, ln, st⟩).length ∧ laX a (base + count + 1) [(ad, enR ⟨kd, ky, ln, st⟩)] = apX a g base count ⟨kd, ky, ln, st⟩ ∧ laT a (base + count + 1) [(ad, enR ⟨kd, ky, ln, st⟩)] = apS a g base count ⟨kd, ky, ln, st⟩) := fun he => by
    rw [hE.out] at he
    obtain ⟨m1, m2, m3, m4, m5, m6⟩ := ap_may he
    have ht : g.t ≤ 64 := by
      obtain ⟨_, _, _, _, _, _, _, _, q, _⟩ := m1
      exact q
    rw [had.out]
    exact ⟨⟨m2, m4, m3, by omega⟩, m5, ap_se he, la_app he⟩
  clear h hc hE
  rw [← hy.out] at KR0
  rw [← had.out] at KS0
  obtain ⟨k, m, z, s, t, o⟩ := g
  rw [aggE] at KR0 KS0 ⊢
  simp only at hdb
  show Calls Tryz.prog 28 #[.pointer (some ⟨ab, 0, none⟩), .agg #[.int .i64 k, .int .i64 m, .int .i64 z, .int .i64 s, .int .i64 t, .int .i64 o], .int .i64 base, .int .i64 count, .agg #[.int .i64 kd, .string ⟨ky.toArray⟩, .int .i64 ln, .slice va st.length vc]] w _
  obtain ⟨W, hW⟩ : ∃ W, W = (w.alloc (.cells #[.int .i64 k, .int .i64 m, .int .i64 z, .int .i64 s, .int .i64 t, .int .i64 o] 23)).alloc (.cells #[.int .i64 kd, .string ⟨ky.toArray⟩, .int .i64 ln, .slice va st.length vc] 38) := ⟨_, rfl⟩
  have T3 : Hid (∀ V, Below W.heap.size W V → (GeoAt V w.heap.size ⟨k, m, z, s, t, o⟩ ∧ Below w.heap.size w V) ∧ V.cell? ⟨w.heap.size + 1, 0, none⟩ = some (.int .i64 kd) ∧ V.cell? ⟨w.heap.size + 1, 1, none⟩ = some (.string ⟨ky.toArray⟩) ∧ V.cell? ⟨w.heap.size + 1, 2, none⟩ = some (.int .i64 ln) ∧ V.cell? ⟨w.heap.size + 1, 3, none⟩ = some (.slice va st.length vc)) := by
    rw [hW]; exact T2
  clear T2
  have lW : Hid (w.heap.size + 2 ≤ W.heap.size) := by show _ ≤ _; rw [hW]; simp
  have LB : Hid (∀ V, Below W.heap.size W V → GeoAt V w.heap.size ⟨k, m, z, s, t, o⟩ ∧ Below w.heap.size w V) := fun V b => (T3.out V b).1
  have LL : Hid (∀ V cs e, Below W.heap.size W V → Below W.heap.size W (V.alloc (.cells cs e))) := fun V cs e b => b.step16 (belR _ _) b.size
  obtain ⟨⟨⟨x0, x1, x2, x3, x4, x5⟩, B0⟩, y0, y1, y2, y3⟩ := T3.out W (Below.refl _ _)
  simp only at x0 x1 x2 x3 x4 x5
  have KE := enc16_far (HC.out.below B0) (show chR (RcV.r ⟨⟨kd, ky, ln, st⟩, .slice va st.length vc⟩) = X3 from hX3.out.symm) rfl
  obtain ⟨bs, hbs⟩ : ∃ bs, Hid (bs = if OkR (RcV.r ⟨⟨kd, ky, ln, st⟩, .slice va st.length vc⟩) then enR (RcV.r ⟨⟨kd, ky, ln, st⟩, .slice va st.length vc⟩) else []) := ⟨_, rfl⟩
  rw [← hbs.out] at KE
  have EB : Hid (OkR ⟨kd, ky, ln, st⟩ → bs = enR ⟨kd, ky, ln, st⟩) := fun q => by rw [hbs.out]; exact if_pos q
  clear hbs hX3 hy had
  go_enter Tryz.func28, Tryz.ntmps28
  go_wp2_with fail
  rw [← hW]
  clear hW
  refine KE.mono ?_
  rintro _ w1 ⟨bv0, rfl, R1, F1, B1⟩
  clear KE x0 x1 x2 x3 x4 x5 y0 y1 y2 y3
  obtain ⟨ba, bc, ebv⟩ := R1.form
  have AP : Hid (∀ V, Below w1.heap.size w1 V → ∀ V2, TurnG GA V V2 → Rd V2 bv0 bs) := fun V b V2 t => (R1.below b).turnG (fun x n cc e => (F1 x n cc e).imp id fun q hg => by have := lG _ hg; have := B0.size; omega) t
  subst ebv
  have HB1 : Hid (Below W.heap.size W w1) := B1
  have LB' : Hid (∀ V, Below w1.heap.size w1 V → GeoAt V w.heap.size ⟨k, m, z, s, t, o⟩ ∧ Below w.heap.size w V) := fun V b => LB.out V (HB1.out.step16 b HB1.out.size)
  have LL' : Hid (∀ V cs e, Below w1.heap.size w1 V → Below w1.heap.size w1 (V.alloc (.cells cs e))) := fun V cs e b => b.step16 (belR _ _) b.size
  clear LB LL
  have LB := LB'
  have LL := LL'
  clear LB' LL'
  have BD : Below w1.heap.size w1 w1.drew := (Below.refl _ _).drew
  have sD := (LB.out _ BD).1
  have KA : ∀ V, Below w1.heap.size w1 V → Calls Tryz.prog 62 #[.pointer (some ⟨ab, 0, none⟩), .agg #[.int .i64 k, .int .i64 m, .int .i64 z, .int .i64 s, .int .i64 t, .int .i64 o]] V fun e w' => e = .returned (.int .i64 y) ∧ Below w1.heap.size w1 w' := fun V b => (KR0 V).mono fun e w' h => ⟨h.1, b.step16 h.2 b.size⟩
  have KB : ∀ V, Below w1.heap.size w1 V → Calls Tryz.prog 68 #[.int .i64 base] V fun e w' => e = .returned (.bool yb) ∧ Below w1.heap.size w1 w' := fun V b => (misbase_any hyb.out).mono fun e w' h => ⟨h.1, by rw [h.2]; exact b⟩
  obtain ⟨u4, hu4⟩ : ∃ u4 : Int, Hid (u4 = if db = true then 0 else 180) := ⟨_, rfl⟩
  have KD : ∀ V, Below w1.heap.size w1 V → Calls Tryz.prog 66 #[.bool db, .int .i64 180] V fun e w' => e = .returned (.int .i64 u4) ∧ Below w1.heap.size w1 w' := fun V b => (munless_any db 180).mono fun e w' h => ⟨by rw [hu4.out]; exact h.1, by rw [h.2]; exact b⟩
  clear R1 F1 B1 KR0 hyb
  go_upto_region 2 with fail
  go_cut [13] from 19 to 36 (fun s13 wx => s13 = .int .i64 E ∧ Below w1.heap.size w1 wx)
  case first =>
    cases yb with
    | true =>
      obtain ⟨u2, hu2⟩ : ∃ u2 : Int, Hid (u2 = if cb = true then 0 else 1) := ⟨_, rfl⟩
      have KC : ∀ V, Below w1.heap.size w1 V → Calls Tryz.prog 66 #[.bool cb, .int .i64 1] V fun e w' => e = .returned (.int .i64 u2) ∧ Below w1.heap.size w1 w' := fun V b => (munless_any cb 1).mono fun e w' h => ⟨by rw [hu2.out]; exact h.1, by rw [h.2]; exact b⟩
      have ZE : fiE [y, u2, X3, u4] = E := by rw [hu2.out, hu4.out]; exact FIE.out cb (by simp)
      have KF : ∀ V, Below w1.heap.size w1 V → Calls Tryz.prog 67 #[.slice (some ⟨V.heap.size, 0, none⟩) 4 4] (V.alloc (.cells #[.int .i64 y, .int .i64 u2, .int .i64 X3, .int .i64 u4] 28)) fun e w' => e = .returned (.int .i64 E) ∧ Below w1.heap.size w1 w' := fun V b => (mfirst4 28 ZE).mono fun e w' h => ⟨h.1, b.step16 h.2 b.size⟩
      clear ZE hu2 hu4 FIE EARLY MAY AP EB
      refine wp_region_held_drew (S := fun wx => wx.cell? ⟨w.heap.size, 0, none⟩ = some (.int .i64 k) ∧ wx.cell? ⟨w.heap.size, 1, none⟩ = some (.int .i64 m) ∧ wx.cell? ⟨w.heap.size, 2, none⟩ = some (.int .i64 z) ∧ wx.cell? ⟨w.heap.size, 3, none⟩ = some (.int .i64 s) ∧ wx.cell? ⟨w.heap.size, 4, none⟩ = some (.int .i64 t) ∧ wx.cell? ⟨w.heap.size, 5, none⟩ = some (.int .i64 o)) (by kernel_rfl) sD (fun hHeld => ?_)
      refine tkH 0 ?_
      refine tkH 1 ?_
      refine tkH 3 ?_
      refine tkH 10 ?_
      refine tkH 11 ?_
      refine tkH 12 ?_
      refine tkH 13 ?_
      refine tkH 14 ?_
      exact apn
    | false =>
      have KC : ∀ V, Below w1.heap.size w1 V → Calls Tryz.prog 66 #[.bool false, .int .i64 1] V fun e w' => e = .returned (.int .i64 1) ∧ Below w1.heap.size w1 w' := fun V b => (munless_any false 1).mono fun e w' h => ⟨h.1, by rw [h.2]; exact b⟩
      have ZE : fiE [y, 1, X3, u4] = E := by rw [hu4.out]; exact FIE.out false (by simp)
      have KF : ∀ V, Below w1.heap.size w1 V → Calls Tryz.prog 67 #[.slice (some ⟨V.heap.size, 0, none⟩) 4 4] (V.alloc (.cells #[.int .i64 y, .int .i64 1, .int .i64 X3, .int .i64 u4] 28)) fun e w' => e = .returned (.int .i64 E) ∧ Below w1.heap.size w1 w' := fun V b => (mfirst4 28 ZE).mono fun e w' h => ⟨h.1, b.step16 h.2 b.size⟩
      clear ZE hu4 FIE EARLY MAY AP EB
      refine wp_region_held_drew (S := fun wx => wx.cell? ⟨w.heap.size, 0, none⟩ = some (.int .i64 k) ∧ wx.cell? ⟨w.heap.size, 1, none⟩ = some (.int .i64 m) ∧ wx.cell? ⟨w.heap.size, 2, none⟩ = some (.int .i64 z) ∧ wx.cell? ⟨w.heap.size, 3, none⟩ = some (.int .i64 s) ∧ wx.cell? ⟨w.heap.size, 4, none⟩ = some (.int .i64 t) ∧ wx.cell? ⟨w.heap.size, 5, none⟩ = some (.int .i64 o)) (by kernel_rfl) sD (fun hHeld => ?_)
      refine tkH 0 ?_
      refine tkH 1 ?_
      refine tkH 3 ?_
      refine tkH 10 ?_
      refine tkH 11 ?_
      refine tkH 12 ?_
      refine tkH 13 ?_
      refine tkH 14 ?_
      exact apo
  case rest =>
    obtain ⟨rfl, hB⟩ := hcut
    clear KA KB KD hu4 FIE sD BD
    by_cases q : E = 0
    · obtain ⟨⟨e1, e2, e3, e4⟩, ok, se, eX, eT⟩ := MAY.out q
      have eb := EB.out ok
      rw [← eb] at se eX eT
      subst q
      clear EARLY MAY EB
      go_wp2_with fail
      obtain ⟨X, hX⟩ : ∃ X, Hid (X = apX a ⟨k, m, z, s, t, o⟩ base count ⟨kd, ky, ln, st⟩) := ⟨_, rfl⟩
      rw [← hX.out] at eX
      obtain ⟨ep, hep⟩ : ∃ ep, Hid (base + count + 1 = ep) := ⟨_, rfl⟩
      rw [hep.out] at se eX eT
      have KE : ∀ V, Below w1.heap.size w1 V → Calls Tryz.prog 72 #[.int .i64 base, .int .i64 count] V fun e w' => e = .returned (.int .i64 ep) ∧ Below w1.heap.size w1 w' := fun V b => (mepoch_any hep.out ⟨e1, e2, e3, e4⟩).mono fun e w' h => ⟨h.1, by rw [h.2]; exact b⟩
      have KS : ∀ V, Below w1.heap.size w1 V → Calls Tryz.prog 70 #[.agg #[.int .i64 k, .int .i64 m, .int .i64 z, .int .i64 s, .int .i64 t, .int .i64 o], .int .i64 count] V fun e w' => e = .returned (.int .i64 ad) ∧ Below w1.heap.size w1 w' := fun V b => (KS0 V).mono fun e w' h => ⟨h.1, b.step16 h.2 b.size⟩
      have ng : Hid (∀ V, Below w1.heap.size w1 V → ∀ k, w.heap.size ≤ k → ¬ GA k) := fun V b k hk e => by have := lG _ e; omega
      have KL : ∀ V, Below w1.heap.size w1 V → Calls Tryz.prog 79 #[.pointer (some ⟨ab, 0, none⟩), .int .i64 ep, .slice (some ⟨V.heap.size, 0, none⟩) 1 1] (V.alloc (.cells #[.int .i64 ad, .slice ba bs.length bc] 146)) (LeavesA (V.alloc (.cells #[.int .i64 ad, .slice ba bs.length bc] 146)) ab GA (apS a ⟨k, m, z, s, t, o⟩ base count ⟨kd, ky, ln, st⟩) (.int .i64 X)) := fun V b => by
        have bA := LL.out V #[.int .i64 ad, .slice ba bs.length bc] 146 b
        have K := mlay_any (HA.out.below (LB.out _ bA).2) (ep := ep) (b := V.heap.size) (off := 0) (n := 1) (c := 1) (L := [(ad, bs)]) rfl (by omega) (fun i hi => by
          have : i = 0 := by omega
          subst this
          exact se) (fun W2 t i hi => by
          have : i = 0 := by omega
          subst this
          have lV : V.heap.size < (V.alloc (.cells #[.int .i64 ad, .slice ba bs.length bc] 146)).heap.size := by simp
          have nV := ng.out V b V.heap.size (LB.out _ b).2.size
          have cc : ∀ j, (V.alloc (.cells #[.int .i64 ad, .slice ba bs.length bc] 146)).cell? ⟨V.heap.size, j, none⟩ = (#[.int .i64 ad, .slice ba bs.length bc] : Array Value)[j]? := fun j => World.cell?_alloc_new _ _ _ _
          exact ⟨_, (t.cell (p := ⟨V.heap.size, 0, none⟩) lV nV).trans (cc 0), (t.cell (p := ⟨V.heap.size, 1, none⟩) lV nV).trans (cc 1), AP.out _ bA W2 t⟩)
        rw [eX, eT] at K
        exact K
      have FN : Hid (∀ V V2 GC, Below w1.heap.size w1 V → ArAt V2 ab GC (apS a ⟨k, m, z, s, t, o⟩ base count ⟨kd, ky, ln, st⟩) → Grew GA (V.alloc (.cells #[.int .i64 ad, .slice ba bs.length bc] 146)) GC V2 → LeavesA w ab GA (apS a ⟨k, m, z, s, t, o⟩ base count ⟨kd, ky, ln, st⟩) (.int .i64 (apX a ⟨k, m, z, s, t, o⟩ base count ⟨kd, ky, ln, st⟩)) (.returned (.int .i64 X)) V2) := fun V V2 GC b A g => by
        rw [← hX.out]
        exact ⟨rfl, GC, A, (Grew.of_below (LB.out _ (LL.out V _ _ b)).2).trans g⟩
      have SG : Hid (∀ V V2 GC, Below w1.heap.size w1 V → Grew GA (V.alloc (.cells #[.int .i64 ad, .slice ba bs.length bc] 146)) GC V2 → GeoAt V2 w.heap.size ⟨k, m, z, s, t, o⟩) := fun V V2 GC b g => by
        obtain ⟨⟨z0, z1, z2, z3, z4, z5⟩, bw⟩ := LB.out _ (LL.out V #[.int .i64 ad, .slice ba bs.length bc] 146 b)
        have lt : w.heap.size < (V.alloc (.cells #[.int .i64 ad, .slice ba bs.length bc] 146)).heap.size := by have := (LB.out _ b).2.size; simp; omega
        have nw := ng.out V b w.heap.size (Nat.le_refl _)
        have e : ∀ j, V2.cell? ⟨w.heap.size, j, none⟩ = _ := fun j => g.turn.cell (p := ⟨w.heap.size, j, none⟩) lt nw
        exact ⟨(e 0).trans z0, (e 1).trans z1, (e 2).trans z2, (e 3).trans z3, (e 4).trans z4, (e 5).trans z5⟩
      have BD : Below w1.heap.size w1 wc.drew := hB.drew
      have sD := (LB.out _ BD).1
      clear hX hep eX eT AP ok eb
      refine wp_region_held_drew (S := fun wx => wx.cell? ⟨w.heap.size, 0, none⟩ = some (.int .i64 k) ∧ wx.cell? ⟨w.heap.size, 1, none⟩ = some (.int .i64 m) ∧ wx.cell? ⟨w.heap.size, 2, none⟩ = some (.int .i64 z) ∧ wx.cell? ⟨w.heap.size, 3, none⟩ = some (.int .i64 s) ∧ wx.cell? ⟨w.heap.size, 4, none⟩ = some (.int .i64 t) ∧ wx.cell? ⟨w.heap.size, 5, none⟩ = some (.int .i64 o)) (by kernel_rfl) sD (fun hHeld => ?_)
      refine tkH 0 ?_
      refine tkH 1 ?_
      refine tkH 2 ?_
      refine tkH 4 ?_
      refine tkH 5 ?_
      refine tkH 7 ?_
      exact apl
    · have q1 : (E == 0) = false := beq_eq_false_iff_ne.2 q
      have q2 : (E != 0) = true := by simp [bne, q1]
      have F := EARLY.out _ q (LB.out _ hB).2
      have F9 : Hid _ := F
      clear F EARLY MAY AP EB
      go_wp2
      exact bodyPost_ret (v := .int .i64 E) (by simp [results, Tryz.results28, go_sem]) rfl F9.out
end Go.Proofs.YtclieefpnbdbjaaGreat.Gf
