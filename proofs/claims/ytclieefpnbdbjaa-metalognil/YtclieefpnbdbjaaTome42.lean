/- TEXTS JOINED: MeCN, MeCPn. -/
import Derived.Test.YtclieefpnbdbjaaTome35
import Derived.Test.YtclieefpnbdbjaaTome40
namespace Go.Proofs.Ytclieefpnbdbjaa.Gf
set_option linter.unusedVariables false
set_option linter.unusedSimpArgs false
open Go.RowKit
set_option maxRecDepth 100000 in
set_option maxHeartbeats 4000000 in
theorem mlatest_nil {w : World} {g : GeoS} (hg : g.Wf) : Calls Try.prog 8 #[.pointer none, aggG g, .slice none 0 0] w fun e w' => e = .returned (.tuple #[.agg #[.int .i64 0, .int .i64 0, .slice none 0 0], .int .i64 1]) ∧ Below w.heap.size w w' := by
  have KC0 := fun V => @mref_nil V g hg
  have T2 := two18l w g 24 37
  obtain ⟨W, hW⟩ : ∃ W, W = (w.alloc (.cells #[.int .i64 g.k, .int .i64 g.m, .int .i64 g.z, .int .i64 g.s, .int .i64 g.t, .int .i64 g.o] 24)).alloc (.cells #[.int .i64 0, .int .i64 0, .slice none 0 0] 37) := ⟨_, rfl⟩
  have T3 : Hid (∀ V, Below W.heap.size W V → (GeoAt V w.heap.size g ∧ Below w.heap.size w V) ∧ LtBox V (w.heap.size + 1) default (.slice none 0 0)) := by rw [hW]; exact T2
  clear T2 hg
  obtain ⟨k, m, z, s, t, o⟩ := g
  have ZB : Hid (∀ V, Below W.heap.size W V → V.cell? ⟨w.heap.size + 1, 0, none⟩ = some (.int .i64 0) ∧ V.cell? ⟨w.heap.size + 1, 1, none⟩ = some (.int .i64 0) ∧ V.cell? ⟨w.heap.size + 1, 2, none⟩ = some (.slice none 0 0) ∧ ∀ j, V.frozen? ⟨w.heap.size + 1, j, none⟩ = false) := fun V b => (T3.out V b).2
  have ZW : Hid (∀ V, Below W.heap.size W V → Below w.heap.size w V) := fun V b => (T3.out V b).1.2
  have ZG : Hid (∀ V, Below W.heap.size W V → GeoAt V w.heap.size ⟨k, m, z, s, t, o⟩) := fun V b => (T3.out V b).1.1
  clear T3
  rw [aggE] at KC0 ⊢
  obtain ⟨x0, x1, x2, x3, x4, x5⟩ := ZG.out W (Below.refl _ _)
  simp only at x0 x1 x2 x3 x4 x5 hW
  go_enter Try.func8, Try.ntmps8
  go_wp2_with fail
  rw [← hW]
  clear hW
  refine (KC0 _).mono ?_
  rintro _ w1 ⟨rfl, B1⟩
  clear KC0 x0 x1 x2 x3 x4 x5
  obtain ⟨q0, q1, q2, qf⟩ := ZB.out _ B1
  have f0 := qf 0
  have f1 := qf 1
  have f2 := qf 2
  obtain ⟨oY, s0, s1, s2⟩ := set3 (a := .int .i64 0) (b := .int .i64 0) (c := .slice none 0 0) q0 q1 q2
  have F9 := hidI ((ZW.out _ B1).trans (oY.below (Nat.le_succ _)))
  clear oY B1 qf
  go_wp2
  exact bodyPost_ret (v := .tuple #[.agg #[.int .i64 0, .int .i64 0, .slice none 0 0], .int .i64 1]) (by simp [results, Try.results8, go_sem, s0, s1, s2]) rfl ⟨rfl, F9.out⟩
set_option maxRecDepth 100000 in
set_option maxHeartbeats 4000000 in
theorem mreplay_nil {w : World} {g : GeoS} (hg : g.Wf) {base : Int} :
    Calls Try.prog 7 #[.pointer none, aggG g, .slice none 0 0, .int .i64 base] w fun e w' => e = .returned (.tuple #[.slice none 0 0, .int .i64 1]) ∧ Below w.heap.size w w' := by
  have KC0 := fun V => @mref_nil V g hg
  obtain ⟨y, hy⟩ : ∃ y : Int, Hid (y = 1) := ⟨_, rfl⟩
  rw [← hy.out] at KC0
  obtain ⟨yb, hyb⟩ : ∃ yb, Hid (decide (0 ≤ base ∧ base ≤ mo18) = yb) := ⟨_, rfl⟩
  obtain ⟨u1, hu1⟩ : ∃ u1 : Int, Hid (u1 = if yb = true then 0 else 1) := ⟨_, rfl⟩
  obtain ⟨E, hE⟩ : ∃ E : Int, Hid (E = 1) := ⟨_, rfl⟩
  have ZE : fiE [y, u1] = E := by rw [hy.out, hE.out]; rfl
  have KB : ∀ V, Calls Try.prog 21 #[.int .i64 base] V fun e w' => e = .returned (.bool yb) ∧ w' = V := fun V => misbase_any hyb.out
  have KU : ∀ V, Calls Try.prog 20 #[.bool yb, .int .i64 1] V fun e w' => e = .returned (.int .i64 u1) ∧ w' = V := fun V => by rw [hu1.out]; exact munless_any yb 1
  have KF : ∀ V, Calls Try.prog 18 #[.slice (some ⟨V.heap.size, 0, none⟩) 2 2] (V.alloc (.cells #[.int .i64 y, .int .i64 u1] 29)) fun e w' => e = .returned (.int .i64 E) ∧ Below V.heap.size V w' := fun V => mfirst2 29 ZE
  have HE1 := hidI hE.out
  have LG := geo_laid w g 24
  clear hy hyb hu1 hE ZE
  obtain ⟨k, m, z, s, t, o⟩ := g
  rw [aggE] at KC0 ⊢
  obtain ⟨W, hW⟩ : ∃ W, W = w.alloc (.cells #[.int .i64 k, .int .i64 m, .int .i64 z, .int .i64 s, .int .i64 t, .int .i64 o] 24) := ⟨_, rfl⟩
  have LG2 : Hid (∀ V, Below W.heap.size W V → GeoAt V w.heap.size ⟨k, m, z, s, t, o⟩ ∧ Below w.heap.size w V) := by rw [hW]; exact LG
  clear LG
  obtain ⟨⟨y0, y1, y2, y3, y4, y5⟩, B0⟩ := LG2.out W (Below.refl _ _)
  have BW : Hid (w.heap.size ≤ W.heap.size) := B0.size
  simp only at y0 y1 y2 y3 y4 y5
  go_enter Try.func7, Try.ntmps7
  go_wp2_with fail
  rw [← hW]
  clear hW
  go_step3
  go_wp2_with fail
  refine (KC0 _).mono ?_
  rintro _ w1 ⟨rfl, B1⟩
  go_wp2_with fail
  refine (KB _).mono ?_
  rintro _ v1 ⟨rfl, hv1⟩
  subst hv1
  go_wp2_with fail
  refine (KU _).mono ?_
  rintro _ v2 ⟨rfl, hv2⟩
  subst hv2
  go_wp2_with fail
  refine (KF _).mono ?_
  rintro _ w2 ⟨rfl, B2⟩
  have B12 := B1.step16 B2 B1.size
  clear KC0 KB KU KF y0 y1 y2 y3 y4 y5 B0 B1 B2
  by_cases q : E = 0
  rotate_left
  · have q1 : (E == 0) = false := beq_eq_false_iff_ne.2 q
    have q2 : (E != 0) = true := by simp [bne, q1]
    have F := hidI (LG2.out _ B12).2
    have e1 := HE1.out
    clear LG2 B12 HE1
    subst e1
    go_wp2
    (try rw [Exit.noGoto_ret])
    exact bodyPost_ret (v := .tuple #[.slice none 0 0, .int .i64 1]) (by simp [results, Try.results7, go_sem]) rfl ⟨rfl, F.out⟩
  · exact absurd q (by rw [HE1.out]; decide)
set_option maxRecDepth 100000 in
set_option maxHeartbeats 8000000 in
theorem msave_nil {w : World} {g : GeoS} (hg : g.Wf) {ar ep : Int} (haw : (Lit.int .i64 ar).wf = true) {vs : Value} {L : List ObV} (ho : RdO w vs L) (hs : ∀ i, i < L.length → (L.getD i default).o.st.length ≤ 1000000) :
    Calls Try.prog 11 #[.pointer none, aggG g, .agg #[.int .i64 ar, .int .i64 ep, vs]] w fun e w' => e = .returned (.int .i64 1) ∧ Below w.heap.size w w' := by
  obtain ⟨va, vc, ev⟩ := ho.form
  subst ev
  have KR0 := fun V => @mref_nil V g hg
  have KS0 := fun V (i : Int) (hi : (Lit.int .i64 i).wf = true) => @larea_any V g hg ar i haw hi _ rfl
  have T2 := two18s w g ar ep (.slice va L.length vc) 24 37
  obtain ⟨E, hE⟩ : ∃ E : Int, Hid (E = 1) := ⟨_, rfl⟩
  obtain ⟨y, hy⟩ : ∃ y : Int, Hid (y = 1) := ⟨_, rfl⟩
  have FIE : Hid (∀ (bv : Bool) (X3 : Int), (bv = true ↔ ((0 ≤ ar ∧ ar < 2) ∧ 0 ≤ ep ∧ ep ≤ mo18)) → ((MayL (oL L) ∧ X3 = 0) ∨ (¬ MayL (oL L) ∧ X3 = 1)) → fiE [y, if bv = true then 0 else 1, X3] = E) := fun bv X3 _ _ => by rw [hy.out, hE.out]; rfl
  have EARLY : Hid (∀ V, ¬ E = 0 → Below w.heap.size w V → Ending.returned (.int .i64 E) = .returned (.int .i64 1) ∧ Below w.heap.size w V) := fun V _ b => ⟨by rw [hE.out], b⟩
  have HE1 := hidI hE.out
  have KSN := fun W (b : Below w.heap.size w W) => snap16_far (ho.below b) hs
  clear ho hs hE
  rw [← hy.out] at KR0
  have KS0 := True.intro
  have MAY := True.intro
  clear hy
  obtain ⟨k, m, z, s, t, o⟩ := g
  rw [aggE] at KR0 ⊢
  obtain ⟨W, hW⟩ : ∃ W, W = (w.alloc (.cells #[.int .i64 k, .int .i64 m, .int .i64 z, .int .i64 s, .int .i64 t, .int .i64 o] 24)).alloc (.cells #[.int .i64 ar, .int .i64 ep, .slice va L.length vc] 37) := ⟨_, rfl⟩
  have T3 : Hid (∀ V, Below W.heap.size W V → (GeoAt V w.heap.size ⟨k, m, z, s, t, o⟩ ∧ Below w.heap.size w V) ∧ V.cell? ⟨w.heap.size + 1, 0, none⟩ = some (.int .i64 ar) ∧ V.cell? ⟨w.heap.size + 1, 1, none⟩ = some (.int .i64 ep) ∧ V.cell? ⟨w.heap.size + 1, 2, none⟩ = some (.slice va L.length vc)) := by
    rw [hW]; exact T2
  clear T2
  obtain ⟨⟨⟨x0, x1, x2, x3, x4, x5⟩, B0⟩, y0, y1, y2⟩ := T3.out W (Below.refl _ _)
  simp only at x0 x1 x2 x3 x4 x5
  have KE := KSN W B0
  go_enter Try.func11, Try.ntmps11
  go_wp2_with fail
  rw [← hW]
  clear hW
  refine KE.mono ?_
  rintro ez w1 hsn
  obtain ⟨X3, pv, hez, hX3, B1, KEEP⟩ : ∃ (X3 : Int) (pv : Value), ez = Ending.returned (.tuple #[pv, .int .i64 X3]) ∧ ((MayL (oL L) ∧ X3 = 0) ∨ (¬ MayL (oL L) ∧ X3 = 1)) ∧ Below W.heap.size W w1 ∧ (MayL (oL L) → KeepRs W.heap.size w1 pv (snP (oL L))) ∧ ∃ pa pn pc, pv = .slice pa pn pc ∧ (MayL (oL L) → pn = 2) := by
    rcases hsn with ⟨m, u, rfl, k1, k2, k3⟩ | ⟨m, rfl, k3⟩
    · obtain ⟨pa, pc, e⟩ := k1.form
      exact ⟨0, u, rfl, Or.inl ⟨m, rfl⟩, k3, fun _ => k2, pa, _, pc, e, fun _ => rfl⟩
    · exact ⟨1, _, rfl, Or.inr ⟨m, rfl⟩, k3, fun q => absurd q m, none, 0, 0, rfl, fun q => absurd q m⟩
  obtain ⟨KEEP, pa, pn, pc, rfl, hpn⟩ := KEEP
  clear KE hsn
  subst hez
  clear x0 x1 x2 x3 x4 x5 y0 y1 y2
  have HB1 : Hid (Below W.heap.size W w1) := B1
  have LB : Hid (∀ V, Below w1.heap.size w1 V → (GeoAt V w.heap.size ⟨k, m, z, s, t, o⟩ ∧ V.cell? ⟨w.heap.size + 1, 0, none⟩ = some (.int .i64 ar) ∧ V.cell? ⟨w.heap.size + 1, 1, none⟩ = some (.int .i64 ep)) ∧ Below w.heap.size w V) := fun V b => by
    obtain ⟨⟨q1, q2⟩, q3, q4, _⟩ := T3.out V (HB1.out.step16 b HB1.out.size)
    exact ⟨⟨q1, q3, q4⟩, q2⟩
  have LL : Hid (∀ V cs e, Below w1.heap.size w1 V → Below w1.heap.size w1 (V.alloc (.cells cs e))) := fun V cs e b => b.step16 (belR _ _) b.size
  have HX3 : Hid ((MayL (oL L) ∧ X3 = 0) ∨ (¬ MayL (oL L) ∧ X3 = 1)) := hX3
  have HKEEP : Hid (MayL (oL L) → KeepRs W.heap.size w1 (.slice pa pn pc) (snP (oL L))) := KEEP
  have HPN : Hid (MayL (oL L) → pn = 2) := hpn
  have BD : Below w1.heap.size w1 w1.drew := (Below.refl _ _).drew
  have sD := (LB.out _ BD).1
  have KA : ∀ V, Below w1.heap.size w1 V → Calls Try.prog 19 #[.pointer none, .agg #[.int .i64 k, .int .i64 m, .int .i64 z, .int .i64 s, .int .i64 t, .int .i64 o]] V fun e w' => e = .returned (.int .i64 y) ∧ Below w1.heap.size w1 w' := fun V b => (KR0 V).mono fun e w' h => ⟨h.1, b.step16 h.2 b.size⟩
  clear B1 KR0 hX3 KEEP hpn
  go_upto_region 2 with fail
  go_cut [9] from 19 to 38 (fun s9 wx => s9 = .int .i64 E ∧ Below w1.heap.size w1 wx)
  case first =>
    clear EARLY MAY KS0 HKEEP HPN
    by_cases c1 : 0 ≤ ar
    rotate_left
    · have ZE : fiE [y, 1, X3] = E := FIE.out false X3 ⟨fun q => (by cases q), fun q => absurd q.1.1 c1⟩ HX3.out
      have KU : ∀ V, Below w1.heap.size w1 V → Calls Try.prog 20 #[.bool false, .int .i64 1] V fun e w' => e = .returned (.int .i64 1) ∧ Below w1.heap.size w1 w' := fun V b => (munless_any false 1).mono fun e w' h => ⟨h.1, by rw [h.2]; exact b⟩
      have KF : ∀ V, Below w1.heap.size w1 V → Calls Try.prog 18 #[.slice (some ⟨V.heap.size, 0, none⟩) 3 3] (V.alloc (.cells #[.int .i64 y, .int .i64 1, .int .i64 X3] 29)) fun e w' => e = .returned (.int .i64 E) ∧ Below w1.heap.size w1 w' := fun V b => (mfirst3 29 ZE).mono fun e w' h => ⟨h.1, b.step16 h.2 b.size⟩
      have c1' : decide (0 ≤ ar) = false := decide_eq_false c1
      have c1'' : decide (ar ≥ 0) = false := decide_eq_false c1
      clear ZE FIE HX3
      refine wp_region_held_drew (S := fun wx => (wx.cell? ⟨w.heap.size, 0, none⟩ = some (.int .i64 k) ∧ wx.cell? ⟨w.heap.size, 1, none⟩ = some (.int .i64 m) ∧ wx.cell? ⟨w.heap.size, 2, none⟩ = some (.int .i64 z) ∧ wx.cell? ⟨w.heap.size, 3, none⟩ = some (.int .i64 s) ∧ wx.cell? ⟨w.heap.size, 4, none⟩ = some (.int .i64 t) ∧ wx.cell? ⟨w.heap.size, 5, none⟩ = some (.int .i64 o)) ∧ wx.cell? ⟨w.heap.size + 1, 0, none⟩ = some (.int .i64 ar) ∧ wx.cell? ⟨w.heap.size + 1, 1, none⟩ = some (.int .i64 ep)) (by kernel_rfl) sD (fun hHeld => ?_)
      exact sve_no
    have c1' : decide (0 ≤ ar) = true := decide_eq_true c1
    have c1'' : decide (ar ≥ 0) = true := decide_eq_true c1
    by_cases c2 : ar < 2
    rotate_left
    · have ZE : fiE [y, 1, X3] = E := FIE.out false X3 ⟨fun q => (by cases q), fun q => absurd q.1.2 c2⟩ HX3.out
      have KU : ∀ V, Below w1.heap.size w1 V → Calls Try.prog 20 #[.bool false, .int .i64 1] V fun e w' => e = .returned (.int .i64 1) ∧ Below w1.heap.size w1 w' := fun V b => (munless_any false 1).mono fun e w' h => ⟨h.1, by rw [h.2]; exact b⟩
      have KF : ∀ V, Below w1.heap.size w1 V → Calls Try.prog 18 #[.slice (some ⟨V.heap.size, 0, none⟩) 3 3] (V.alloc (.cells #[.int .i64 y, .int .i64 1, .int .i64 X3] 29)) fun e w' => e = .returned (.int .i64 E) ∧ Below w1.heap.size w1 w' := fun V b => (mfirst3 29 ZE).mono fun e w' h => ⟨h.1, b.step16 h.2 b.size⟩
      have c2' : decide (ar < 2) = false := decide_eq_false c2
      clear ZE FIE HX3
      refine wp_region_held_drew (S := fun wx => (wx.cell? ⟨w.heap.size, 0, none⟩ = some (.int .i64 k) ∧ wx.cell? ⟨w.heap.size, 1, none⟩ = some (.int .i64 m) ∧ wx.cell? ⟨w.heap.size, 2, none⟩ = some (.int .i64 z) ∧ wx.cell? ⟨w.heap.size, 3, none⟩ = some (.int .i64 s) ∧ wx.cell? ⟨w.heap.size, 4, none⟩ = some (.int .i64 t) ∧ wx.cell? ⟨w.heap.size, 5, none⟩ = some (.int .i64 o)) ∧ wx.cell? ⟨w.heap.size + 1, 0, none⟩ = some (.int .i64 ar) ∧ wx.cell? ⟨w.heap.size + 1, 1, none⟩ = some (.int .i64 ep)) (by kernel_rfl) sD (fun hHeld => ?_)
      exact sve_out
    · obtain ⟨yb, hyb⟩ : ∃ yb, Hid (decide (0 ≤ ep ∧ ep ≤ mo18) = yb) := ⟨_, rfl⟩
      have KB : ∀ V, Below w1.heap.size w1 V → Calls Try.prog 21 #[.int .i64 ep] V fun e w' => e = .returned (.bool yb) ∧ Below w1.heap.size w1 w' := fun V b => (misbase_any hyb.out).mono fun e w' h => ⟨h.1, by rw [h.2]; exact b⟩
      obtain ⟨u2, hu2⟩ : ∃ u2 : Int, Hid (u2 = if yb = true then 0 else 1) := ⟨_, rfl⟩
      have ZE : fiE [y, u2, X3] = E := by
        rw [hu2.out]
        refine FIE.out yb X3 ⟨fun q => ⟨⟨c1, c2⟩, ?_⟩, fun q => ?_⟩ HX3.out
        · rw [← hyb.out] at q; exact of_decide_eq_true q
        · rw [← hyb.out]; exact decide_eq_true q.2
      have KU : ∀ V, Below w1.heap.size w1 V → Calls Try.prog 20 #[.bool yb, .int .i64 1] V fun e w' => e = .returned (.int .i64 u2) ∧ Below w1.heap.size w1 w' := fun V b => (munless_any yb 1).mono fun e w' h => ⟨by rw [hu2.out]; exact h.1, by rw [h.2]; exact b⟩
      have KF : ∀ V, Below w1.heap.size w1 V → Calls Try.prog 18 #[.slice (some ⟨V.heap.size, 0, none⟩) 3 3] (V.alloc (.cells #[.int .i64 y, .int .i64 u2, .int .i64 X3] 29)) fun e w' => e = .returned (.int .i64 E) ∧ Below w1.heap.size w1 w' := fun V b => (mfirst3 29 ZE).mono fun e w' h => ⟨h.1, b.step16 h.2 b.size⟩
      have c2' : decide (ar < 2) = true := decide_eq_true c2
      clear ZE FIE HX3 hu2 hyb
      refine wp_region_held_drew (S := fun wx => (wx.cell? ⟨w.heap.size, 0, none⟩ = some (.int .i64 k) ∧ wx.cell? ⟨w.heap.size, 1, none⟩ = some (.int .i64 m) ∧ wx.cell? ⟨w.heap.size, 2, none⟩ = some (.int .i64 z) ∧ wx.cell? ⟨w.heap.size, 3, none⟩ = some (.int .i64 s) ∧ wx.cell? ⟨w.heap.size, 4, none⟩ = some (.int .i64 t) ∧ wx.cell? ⟨w.heap.size, 5, none⟩ = some (.int .i64 o)) ∧ wx.cell? ⟨w.heap.size + 1, 0, none⟩ = some (.int .i64 ar) ∧ wx.cell? ⟨w.heap.size + 1, 1, none⟩ = some (.int .i64 ep)) (by kernel_rfl) sD (fun hHeld => ?_)
      exact sve_in
  case rest =>
    obtain ⟨rfl, hB⟩ := hcut
    clear KA sD BD FIE
    by_cases q : E = 0
    rotate_left
    · have q1 : (E == 0) = false := beq_eq_false_iff_ne.2 q
      have q2 : (E != 0) = true := by simp [bne, q1]
      have F9 : Hid _ := EARLY.out _ q (LB.out _ hB).2
      clear EARLY MAY KS0 HKEEP HPN HX3
      go_wp2
      exact bodyPost_ret (v := .int .i64 E) (by simp [results, Try.results11, go_sem]) rfl F9.out
    · exact absurd (q.symm.trans HE1.out) (by decide)
end Go.Proofs.Ytclieefpnbdbjaa.Gf

namespace Go.Proofs.Ytclieefpnbdbjaa.Gf
set_option linter.unusedVariables false
set_option linter.unusedSimpArgs false
open Go.RowKit
set_option maxRecDepth 100000 in
set_option maxHeartbeats 8000000 in
theorem mappend_nil {w : World} {g : GeoS} (hg : g.Wf) {base count : Int} {c : RcV} (hc : c.In w) :
    Calls Try.prog 10 #[.pointer none, aggG g, .int .i64 base, .int .i64 count, aggR c] w fun e w' => e = .returned (.int .i64 1) ∧ Below w.heap.size w w' := by
  obtain ⟨⟨kd, ky, ln, st⟩, vs⟩ := c
  obtain ⟨va, vc, ev⟩ := hc.rs.form
  simp only at ev
  subst ev
  have HC : Hid (RcV.In w ⟨⟨kd, ky, ln, st⟩, .slice va st.length vc⟩) := hc
  have KR0 := fun V => @mref_nil V g hg
  have T2 := two18 w g kd ln ky (.slice va st.length vc) 24 27
  obtain ⟨yb, hyb⟩ : ∃ yb, Hid (decide (0 ≤ base ∧ base ≤ mo18) = yb) := ⟨_, rfl⟩
  obtain ⟨cb, hcb⟩ : ∃ cb, decide (0 ≤ count) = cb := ⟨_, rfl⟩
  have hcb2 : decide (count ≥ 0) = cb := hcb
  obtain ⟨db, hdb⟩ : ∃ db, decide (count < g.t) = db := ⟨_, rfl⟩
  obtain ⟨X3, hX3⟩ : ∃ X3, Hid (X3 = chR ⟨kd, ky, ln, st⟩) := ⟨_, rfl⟩
  clear hc
  obtain ⟨k, m, z, s, t, o⟩ := g
  rw [aggE] at KR0 ⊢
  simp only at hdb
  show Calls Try.prog 10 #[.pointer none, .agg #[.int .i64 k, .int .i64 m, .int .i64 z, .int .i64 s, .int .i64 t, .int .i64 o], .int .i64 base, .int .i64 count, .agg #[.int .i64 kd, .string ⟨ky.toArray⟩, .int .i64 ln, .slice va st.length vc]] w _
  obtain ⟨W, hW⟩ : ∃ W, W = (w.alloc (.cells #[.int .i64 k, .int .i64 m, .int .i64 z, .int .i64 s, .int .i64 t, .int .i64 o] 24)).alloc (.cells #[.int .i64 kd, .string ⟨ky.toArray⟩, .int .i64 ln, .slice va st.length vc] 27) := ⟨_, rfl⟩
  have T3 : Hid (∀ V, Below W.heap.size W V → (GeoAt V w.heap.size ⟨k, m, z, s, t, o⟩ ∧ Below w.heap.size w V) ∧ V.cell? ⟨w.heap.size + 1, 0, none⟩ = some (.int .i64 kd) ∧ V.cell? ⟨w.heap.size + 1, 1, none⟩ = some (.string ⟨ky.toArray⟩) ∧ V.cell? ⟨w.heap.size + 1, 2, none⟩ = some (.int .i64 ln) ∧ V.cell? ⟨w.heap.size + 1, 3, none⟩ = some (.slice va st.length vc)) := by
    rw [hW]; exact T2
  clear T2
  have LB : Hid (∀ V, Below W.heap.size W V → GeoAt V w.heap.size ⟨k, m, z, s, t, o⟩ ∧ Below w.heap.size w V) := fun V b => (T3.out V b).1
  obtain ⟨⟨⟨x0, x1, x2, x3, x4, x5⟩, B0⟩, y0, y1, y2, y3⟩ := T3.out W (Below.refl _ _)
  simp only at x0 x1 x2 x3 x4 x5
  have KE := enc16_far (HC.out.below B0) (show chR (RcV.r ⟨⟨kd, ky, ln, st⟩, .slice va st.length vc⟩) = X3 from hX3.out.symm) rfl
  obtain ⟨bs, hbs⟩ : ∃ bs, Hid (bs = if OkR (RcV.r ⟨⟨kd, ky, ln, st⟩, .slice va st.length vc⟩) then enR (RcV.r ⟨⟨kd, ky, ln, st⟩, .slice va st.length vc⟩) else []) := ⟨_, rfl⟩
  rw [← hbs.out] at KE
  clear hbs hX3
  go_enter Try.func10, Try.ntmps10
  go_wp2_with fail
  rw [← hW]
  clear hW
  refine KE.mono ?_
  rintro _ w1 ⟨bv0, rfl, R1, F1, B1⟩
  clear KE x0 x1 x2 x3 x4 x5 y0 y1 y2 y3
  obtain ⟨ba, bc, ebv⟩ := R1.form
  subst ebv
  have HB1 : Hid (Below W.heap.size W w1) := B1
  have LB' : Hid (∀ V, Below w1.heap.size w1 V → GeoAt V w.heap.size ⟨k, m, z, s, t, o⟩ ∧ Below w.heap.size w V) := fun V b => LB.out V (HB1.out.step16 b HB1.out.size)
  have LL : Hid (∀ V cs e, Below w1.heap.size w1 V → Below w1.heap.size w1 (V.alloc (.cells cs e))) := fun V cs e b => b.step16 (belR _ _) b.size
  clear LB
  have LB := LB'
  clear LB'
  have BD : Below w1.heap.size w1 w1.drew := (Below.refl _ _).drew
  have sD := (LB.out _ BD).1
  have KA : ∀ V, Below w1.heap.size w1 V → Calls Try.prog 19 #[.pointer none, .agg #[.int .i64 k, .int .i64 m, .int .i64 z, .int .i64 s, .int .i64 t, .int .i64 o]] V fun e w' => e = .returned (.int .i64 1) ∧ Below w1.heap.size w1 w' := fun V b => (KR0 V).mono fun e w' h => ⟨h.1, b.step16 h.2 b.size⟩
  have KB : ∀ V, Below w1.heap.size w1 V → Calls Try.prog 21 #[.int .i64 base] V fun e w' => e = .returned (.bool yb) ∧ Below w1.heap.size w1 w' := fun V b => (misbase_any hyb.out).mono fun e w' h => ⟨h.1, by rw [h.2]; exact b⟩
  obtain ⟨u4, hu4⟩ : ∃ u4 : Int, Hid (u4 = if db = true then 0 else 180) := ⟨_, rfl⟩
  have KD : ∀ V, Below w1.heap.size w1 V → Calls Try.prog 20 #[.bool db, .int .i64 180] V fun e w' => e = .returned (.int .i64 u4) ∧ Below w1.heap.size w1 w' := fun V b => (munless_any db 180).mono fun e w' h => ⟨by rw [hu4.out]; exact h.1, by rw [h.2]; exact b⟩
  clear R1 F1 B1 KR0 hyb hu4
  go_upto_region 2 with fail
  go_cut [13] from 19 to 36 (fun s13 wx => s13 = .int .i64 1 ∧ Below w1.heap.size w1 wx)
  case first =>
    cases yb with
    | true =>
      obtain ⟨u2, hu2⟩ : ∃ u2 : Int, Hid (u2 = if cb = true then 0 else 1) := ⟨_, rfl⟩
      have KC : ∀ V, Below w1.heap.size w1 V → Calls Try.prog 20 #[.bool cb, .int .i64 1] V fun e w' => e = .returned (.int .i64 u2) ∧ Below w1.heap.size w1 w' := fun V b => (munless_any cb 1).mono fun e w' h => ⟨by rw [hu2.out]; exact h.1, by rw [h.2]; exact b⟩
      have KF : ∀ V, Below w1.heap.size w1 V → Calls Try.prog 18 #[.slice (some ⟨V.heap.size, 0, none⟩) 4 4] (V.alloc (.cells #[.int .i64 1, .int .i64 u2, .int .i64 X3, .int .i64 u4] 29)) fun e w' => e = .returned (.int .i64 1) ∧ Below w1.heap.size w1 w' := fun V b => (mfirst4 29 rfl).mono fun e w' h => ⟨h.1, b.step16 h.2 b.size⟩
      clear hu2
      refine wp_region_held_drew (S := fun wx => wx.cell? ⟨w.heap.size, 0, none⟩ = some (.int .i64 k) ∧ wx.cell? ⟨w.heap.size, 1, none⟩ = some (.int .i64 m) ∧ wx.cell? ⟨w.heap.size, 2, none⟩ = some (.int .i64 z) ∧ wx.cell? ⟨w.heap.size, 3, none⟩ = some (.int .i64 s) ∧ wx.cell? ⟨w.heap.size, 4, none⟩ = some (.int .i64 t) ∧ wx.cell? ⟨w.heap.size, 5, none⟩ = some (.int .i64 o)) (by kernel_rfl) sD (fun hHeld => ?_)
      refine tkH 0 ?_
      refine tkH 1 ?_
      refine tkH 3 ?_
      refine tkH 10 ?_
      refine tkH 11 ?_
      refine tkH 12 ?_
      refine tkH 13 ?_
      refine tkH 14 ?_
      exact apn
    | false =>
      have KC : ∀ V, Below w1.heap.size w1 V → Calls Try.prog 20 #[.bool false, .int .i64 1] V fun e w' => e = .returned (.int .i64 1) ∧ Below w1.heap.size w1 w' := fun V b => (munless_any false 1).mono fun e w' h => ⟨h.1, by rw [h.2]; exact b⟩
      have KF : ∀ V, Below w1.heap.size w1 V → Calls Try.prog 18 #[.slice (some ⟨V.heap.size, 0, none⟩) 4 4] (V.alloc (.cells #[.int .i64 1, .int .i64 1, .int .i64 X3, .int .i64 u4] 29)) fun e w' => e = .returned (.int .i64 1) ∧ Below w1.heap.size w1 w' := fun V b => (mfirst4 29 rfl).mono fun e w' h => ⟨h.1, b.step16 h.2 b.size⟩
      refine wp_region_held_drew (S := fun wx => wx.cell? ⟨w.heap.size, 0, none⟩ = some (.int .i64 k) ∧ wx.cell? ⟨w.heap.size, 1, none⟩ = some (.int .i64 m) ∧ wx.cell? ⟨w.heap.size, 2, none⟩ = some (.int .i64 z) ∧ wx.cell? ⟨w.heap.size, 3, none⟩ = some (.int .i64 s) ∧ wx.cell? ⟨w.heap.size, 4, none⟩ = some (.int .i64 t) ∧ wx.cell? ⟨w.heap.size, 5, none⟩ = some (.int .i64 o)) (by kernel_rfl) sD (fun hHeld => ?_)
      refine tkH 0 ?_
      refine tkH 1 ?_
      refine tkH 3 ?_
      refine tkH 10 ?_
      refine tkH 11 ?_
      refine tkH 12 ?_
      refine tkH 13 ?_
      refine tkH 14 ?_
      exact apo
  case rest =>
    obtain ⟨rfl, hB⟩ := hcut
    have F9 : Hid (Below w.heap.size w wc) := (LB.out _ hB).2
    clear KA KB KD sD BD hB LB LL
    go_wp2
    exact bodyPost_ret (v := .int .i64 1) (by simp [results, Try.results10, go_sem]) rfl ⟨rfl, F9.out⟩
end Go.Proofs.Ytclieefpnbdbjaa.Gf
