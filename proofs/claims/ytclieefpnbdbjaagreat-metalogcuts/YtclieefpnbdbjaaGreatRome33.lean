/- TEXTS JOINED: VoCR. -/
import Derived.Test.YtclieefpnbdbjaaGreatRome32
namespace Go.Proofs.YtclieefpnbdbjaaGreat.Gf
set_option linter.unusedVariables false
set_option linter.unusedSimpArgs false
open Go.RowKit Go.Shelf
theorem okL17_say {a : ArS} {ad : Int} : OkL17 (sayL a ad) := fun i hi hs => by
  rw [sayL_length] at hi
  rw [sF_say hi] at hs ⊢
  obtain ⟨_, ⟨h1, h2⟩, h3⟩ := (say_ok hs).1
  exact ⟨h1, h2, h3⟩
theorem RpRow.say {w : World} {g n : Nat} {a : ArS} {ad : Int} (hn : n = a.D.length) (h : RpRow w g n (fun i => rpS (sayV a ad i))) : RpRow w g n (fun i => rpS (sF (sayL a ad) i)) := h.congr fun i hi => by rw [sF_say (by rw [← hn]; exact hi)]
theorem lay5 {w : World} {a b c d e : Value} {t : Nat} : (w.alloc (.cells #[a, b, c, d, e] t)).cell? ⟨w.heap.size, 0, none⟩ = some a ∧ (w.alloc (.cells #[a, b, c, d, e] t)).cell? ⟨w.heap.size, 1, none⟩ = some b ∧ (w.alloc (.cells #[a, b, c, d, e] t)).cell? ⟨w.heap.size, 2, none⟩ = some c ∧ (w.alloc (.cells #[a, b, c, d, e] t)).cell? ⟨w.heap.size, 3, none⟩ = some d ∧ (w.alloc (.cells #[a, b, c, d, e] t)).cell? ⟨w.heap.size, 4, none⟩ = some e ∧ Below w.heap.size w (w.alloc (.cells #[a, b, c, d, e] t)) ∧ (∀ j, (w.alloc (.cells #[a, b, c, d, e] t)).frozen? ⟨w.heap.size, j, none⟩ = false) ∧ w.heap.size < (w.alloc (.cells #[a, b, c, d, e] t)).heap.size := by
  have z : ∀ j, (w.alloc (.cells #[a, b, c, d, e] t)).cell? ⟨w.heap.size, j, none⟩ = #[a, b, c, d, e][j]? := fun j => World.cell?_alloc_new _ _ _ _
  exact ⟨z 0, z 1, z 2, z 3, z 4, belR _ _, fun j => by simp [go_sem], by simp⟩
theorem vr_tail {p : Prop} (h : p := by
  refine koH hK sF' fun hHeld => ?_
  clear hK K'
  refine tkH 11 ?_
  obtain ⟨y0, y1, y2, y3, y4, yf⟩ := CY.out w4 (CV.out w4 bF)
  have f0 := yf 0
  have f1 := yf 1
  have f2 := yf 2
  have f3 := yf 3
  have f4 := yf 4
  refine rnH 12 fun K' hK => ?_
  go_simp
  obtain ⟨X, hX⟩ : ∃ X, X = ((((w4.setCell ⟨rb, 0, none⟩ (.bool (decide (0 < N)))).setCell ⟨rb, 1, none⟩ (.int .i64 E)).setCell ⟨rb, 2, none⟩ (.slice (some ⟨bd, 0, none⟩) D.length kF)).setCell ⟨rb, 3, none⟩ (.int .i64 (N : Int))).setCell ⟨rb, 4, none⟩ (.bool Z) := ⟨_, rfl⟩
  obtain ⟨oX, x0, x1, x2, x3, x4⟩ := set5 y0 y1 y2 y3 y4 hX
  have sX := HKO.out _ _ oX sF'
  have F : Hid (TellsVF w (rvX a) (rvV a K ad) (.returned (.tuple #[.agg #[.bool (decide (0 < N)), .int .i64 E, .slice (some ⟨bd, 0, none⟩) D.length kF, .int .i64 (N : Int), .bool Z], .int .i64 0])) X) := by
    show TellsVF _ _ _ _ _
    have z1 := BV.size
    have z2 := lF.out
    have z3 := hrb.out
    have z4 := LV.out
    rw [HV.out.1, HV.out.2]
    refine ⟨_, rfl, ?_, fun x n' c' e => ?_, (BV.step16 bF BV.size).trans (oX.below (by omega))⟩
    · exact rF.only (apart_block (by omega)) oX
    · simp at e
      obtain ⟨rfl, _⟩ := e
      exact Or.inr (by show w.heap.size ≤ bd; omega)
  rw [← hX]
  refine koH hK sX fun hHeld => ?_
  clear hK K' hX y0 y1 y2 y3 y4 yf f0 f1 f2 f3 f4 oX bF sF' rF lF
  refine tkH 13 ?_
  refine wpAnyH_done (by kernel_rfl) ?_ _
  clear sX HV HKO LV CY CV SE BV hHeld
  go_wp2
  exact bodyPost_ret (v := .tuple #[.agg #[.bool (decide (0 < N)), .int .i64 E, .slice (some ⟨bd, 0, none⟩) D.length kF, .int .i64 (N : Int), .bool Z], .int .i64 0]) (by simp [results, x0, x1, x2, x3, x4, go_sem, Tryz.results69]) rfl F.out) : p := h
set_option maxRecDepth 100000 in
set_option maxHeartbeats 4000000 in
theorem vread17_any {w : World} {ab : Nat} {GA : Nat → Prop} {a : ArS} (h : ArAt w ab GA a) {ad : Int} (ha : (Lit.int .i64 ad).wf = true) {u : Value} {K : List Bool} (hk : RdB w u K) :
    Calls Tryz.prog 69 #[.pointer (some ⟨ab, 0, none⟩), u, .int .i64 ad] w (TellsVF w (rvX a) (rvV a K ad)) := by
  have d2 := h.ok.d2
  obtain ⟨W, hW⟩ : ∃ W, W = w.alloc (.cells #[.bool false, .int .i64 0, .slice none 0 0, .int .i64 0, .bool false] 130) := ⟨_, rfl⟩
  obtain ⟨y0, y1, y2, y3, y4, BW, yf, lW⟩ := @lay5 w (.bool false) (.int .i64 0) (.slice none 0 0) (.int .i64 0) (.bool false) 130
  rw [← hW] at y0 y1 y2 y3 y4 BW yf lW
  have KQ := vask_any (h.below BW) ha
  have HK : Hid (RdB w u K) := hk
  obtain ⟨ua, uc, eu⟩ := hk.form
  subst eu
  obtain ⟨n, hn⟩ : ∃ n, Hid (n = a.D.length) := ⟨_, rfl⟩
  rw [← hn.out] at d2
  obtain ⟨rb, hrb⟩ : ∃ rb, Hid (rb = w.heap.size) := ⟨_, rfl⟩
  rw [← hrb.out] at y0 y1 y2 y3 y4 yf lW
  clear h hk
  go_enter Tryz.func69, Tryz.ntmps69
  go_wp2_with fail
  rw [← hW, ← hrb.out]
  clear hW
  refine KQ.mono ?_
  have CY : Hid (∀ W1, Below W.heap.size W W1 → W1.cell? ⟨rb, 0, none⟩ = some (.bool false) ∧ W1.cell? ⟨rb, 1, none⟩ = some (.int .i64 0) ∧ W1.cell? ⟨rb, 2, none⟩ = some (.slice none 0 0) ∧ W1.cell? ⟨rb, 3, none⟩ = some (.int .i64 0) ∧ W1.cell? ⟨rb, 4, none⟩ = some (.bool false) ∧ ∀ j, W1.frozen? ⟨rb, j, none⟩ = false) := fun W1 b =>
    ⟨(b.cell (p := ⟨rb, 0, none⟩) lW).trans y0, (b.cell (p := ⟨rb, 1, none⟩) lW).trans y1, (b.cell (p := ⟨rb, 2, none⟩) lW).trans y2, (b.cell (p := ⟨rb, 3, none⟩) lW).trans y3, (b.cell (p := ⟨rb, 4, none⟩) lW).trans y4, fun j => (b.frozen (p := ⟨rb, j, none⟩) lW).trans (yf j)⟩
  clear y0 y1 y2 y3 y4 yf
  rintro _ w1 (⟨ho, va, vn, vc, rfl, B1⟩ | ⟨ho, g, rfl, R1, lg, B1⟩)
  · obtain ⟨y0, y1, y2, y3, y4, yf⟩ := CY.out w1 B1
    have f0 := yf 0
    have f1 := yf 1
    have f2 := yf 2
    have f3 := yf 3
    have f4 := yf 4
    obtain ⟨X, hX⟩ : ∃ X, X = ((((w1.setCell ⟨rb, 0, none⟩ (.bool false)).setCell ⟨rb, 1, none⟩ (.int .i64 0)).setCell ⟨rb, 2, none⟩ (.slice none 0 0)).setCell ⟨rb, 3, none⟩ (.int .i64 0)).setCell ⟨rb, 4, none⟩ (.bool false) := ⟨_, rfl⟩
    obtain ⟨oX, x0, x1, x2, x3, x4⟩ := set5 y0 y1 y2 y3 y4 hX
    have F : Hid (TellsVF w (rvX a) (rvV a K ad) (.returned (.tuple #[.agg #[.bool false, .int .i64 0, .slice none 0 0, .int .i64 0, .bool false], .int .i64 130])) X) := by
      have e1 : rvX a = 130 := if_pos ho
      have e2 : rvV a K ad = noV := if_pos ho
      show TellsVF _ _ _ _ _
      rw [e1, e2]
      exact ⟨_, rfl, Or.inl ⟨none, 0, rfl, rfl, by unfold maxLen; omega, fun _ => rfl⟩, FarV.nil _ _ _, (BW.step16 B1 BW.size).trans (oX.below (by rw [hrb.out]; exact Nat.le_refl _))⟩
    clear KQ CY B1 ho oX yf BW
    go_wp2
    rw [← hX]
    clear hX
    exact bodyPost_ret (v := .tuple #[.agg #[.bool false, .int .i64 0, .slice none 0 0, .int .i64 0, .bool false], .int .i64 130]) (by simp [results, Tryz.results69, go_sem, x0, x1, x2, x3, x4]) rfl F.out
  · rw [← hn.out] at R1 ⊢
    have KE := elected_any (S := sayL a ad) (by rw [sayL_length]; exact hn.out) (by omega) okL17_say (RpRow.say hn.out R1)
    clear KQ
    go_wp2_with fail
    refine KE.mono ?_
    rintro _ w2 ⟨rfl, B2⟩
    clear KE
    have HV : Hid (rvX a = 0 ∧ rvV a K ad = ⟨decide (0 < elN (sayL a ad)), elE (sayL a ad), elD (sayL a ad), elN (sayL a ad), wiF (sayL a ad) K n⟩) := by
      have e0 : rvV a K ad = votS (sayL a ad) K := by unfold rvV; rw [if_neg (by rw [ho]; decide)]
      refine ⟨if_neg (by rw [ho]; decide), ?_⟩
      rw [e0, vot_same, el_has (sayL a ad) [], hn.out, sayL_length]
    have hDl : Hid ((elD (sayL a ad)).length ≤ maxLen) := by
      show _ ≤ _
      by_cases q : 0 < elN (sayL a ad)
      · rcases vo_or (sayL a ad) with h | ⟨e, d, h⟩
        · unfold elD; rw [vo_none h []]; exact Nat.zero_le _
        · have : OkSe ad e d.length := top_se h
          unfold elD; rw [vo_top h []]
          have := this.2.2
          show d.length ≤ _
          unfold maxLen; omega
      · rcases vo_or (sayL a ad) with h | ⟨e, d, h⟩
        · unfold elD; rw [vo_none h []]; exact Nat.zero_le _
        · have : OkSe ad e d.length := top_se h
          unfold elD; rw [vo_top h []]
          have := this.2.2
          show d.length ≤ _
          unfold maxLen; omega
    have RS := RpRow.say hn.out R1
    generalize elE (sayL a ad) = E at HV
    generalize elD (sayL a ad) = D at HV hDl
    generalize elN (sayL a ad) = N at HV
    have B12 : Below W.heap.size W w2 := B1.step16 B2 B1.size
    have BW2 : Below w.heap.size w w2 := BW.step16 B12 BW.size
    obtain ⟨V, hV⟩ : ∃ V, V = w2.alloc (.cells #[.int .i64 E, .string ⟨D.toArray⟩] 177) := ⟨_, rfl⟩
    have bV : Below w2.heap.size w2 V := by rw [hV]; exact belR _ _
    have v0 : V.cell? ⟨w2.heap.size, 0, none⟩ = some (.int .i64 E) := by rw [hV]; exact World.cell?_alloc_new _ _ _ _
    have v1 : V.cell? ⟨w2.heap.size, 1, none⟩ = some (.string ⟨D.toArray⟩) := by rw [hV]; exact World.cell?_alloc_new _ _ _ _
    have lV : w2.heap.size < V.heap.size := by rw [hV]; simp
    obtain ⟨ob, hob⟩ : ∃ ob, Hid (ob = w2.heap.size) := ⟨_, rfl⟩
    rw [← hob.out] at v0 v1 lV
    have RV := (RS.below B2).below bV
    have BV : Below w.heap.size w V := BW2.step16 bV BW2.size
    have KI := fun W2 (b : Below V.heap.size V W2) => iswit_any (RV.below b) (by omega) (HK.out.below (BV.step16 b BV.size))
    generalize wiF (sayL a ad) K n = Z at HV KI
    have s0 : V.cell? ⟨ob, 0, none⟩ = some (.int .i64 E) ∧ V.cell? ⟨ob, 1, none⟩ = some (.string ⟨D.toArray⟩) := ⟨v0, v1⟩
    have SE : Hid (∀ W2, Below V.heap.size V W2 → W2.cell? ⟨ob, 0, none⟩ = some (.int .i64 E) ∧ W2.cell? ⟨ob, 1, none⟩ = some (.string ⟨D.toArray⟩)) := fun W2 b => ⟨(b.cell (p := ⟨ob, 0, none⟩) lV).trans v0, (b.cell (p := ⟨ob, 1, none⟩) lV).trans v1⟩
    have BD : Below V.heap.size V V.drew := (Below.refl _ _).drew
    have sD := SE.out _ BD
    have HKO : Hid (∀ W2 W3, Only rb W2 W3 → (W2.cell? ⟨ob, 0, none⟩ = some (.int .i64 E) ∧ W2.cell? ⟨ob, 1, none⟩ = some (.string ⟨D.toArray⟩)) → (W3.cell? ⟨ob, 0, none⟩ = some (.int .i64 E) ∧ W3.cell? ⟨ob, 1, none⟩ = some (.string ⟨D.toArray⟩))) := by
      have ne : ob ≠ rb := by rw [hob.out, hrb.out]; have := B12.size; rw [hrb.out] at lW; omega
      exact fun W2 W3 o k => ⟨(o.cell (p := ⟨ob, 0, none⟩) ne).trans k.1, (o.cell (p := ⟨ob, 1, none⟩) ne).trans k.2⟩
    have LV : Hid (rb < V.heap.size) := by show _ < _; have := B12.size; have := bV.size; omega
    have CV : Hid (∀ W2, Below V.heap.size V W2 → Below W.heap.size W W2) := fun W2 b => (B12.step16 bV B12.size).step16 b (B12.step16 bV B12.size).size
    have CC : Hid (∀ Y, ∃ c U, (convert 9 42 (.string ⟨D.toArray⟩)).run Tryz.prog Y = .ok (.slice (some ⟨Y.heap.size, 0, none⟩) D.length c) U ∧ Rd U (.slice (some ⟨Y.heap.size, 0, none⟩) D.length c) D ∧ Below Y.heap.size Y U ∧ Y.heap.size < U.heap.size) := fun Y => conv_key Y D hDl.out
    clear R1 RS B1 B2 B12 bV v0 v1 RV
    go_wp2_with fail
    rw [← hV, ← hob.out]
    clear hV
    obtain ⟨kF, U1, e1, r1, bU1, lU1⟩ := CC.out V.drew
    have b1 : Below V.heap.size V U1 := BD.step16 bU1 BD.size
    have s1 := SE.out _ b1
    obtain ⟨y0, y1, y2, y3, y4, yf⟩ := CY.out _ (CV.out _ b1)
    refine wp_region_held_drew (S := fun wx => wx.cell? ⟨ob, 0, none⟩ = some (.int .i64 E) ∧ wx.cell? ⟨ob, 1, none⟩ = some (.string ⟨D.toArray⟩)) (by kernel_rfl) sD (fun hHeld => ?_)
    refine tkH 0 ?_
    refine tkH 1 ?_
    refine tkH 2 ?_
    refine tkH 3 ?_
    refine tkH 4 ?_
    refine tkH 5 ?_
    refine tkH 7 ?_
    refine tkH 8 ?_
    refine tkH 9 ?_
    refine rmH 6 10 (fun K' hK => ?_) (fun K' hK => ?_)
    · go_simp
      refine koH hK s1 fun hHeld => ?_
      clear hK K'
      refine rnH 10 fun K' hK => ?_
      go_simp
      go_at_call 116
      refine (KI _ b1).mono ?_
      rintro _ w4 ⟨rfl, B4⟩
      dsimp only
      have bF := b1.step16 B4 b1.size
      have sF' := SE.out _ bF
      have rF := r1.below B4
      obtain ⟨bd, hbd⟩ : ∃ bd, Hid (bd = V.heap.size) := ⟨_, rfl⟩
      have lF : Hid (V.heap.size ≤ bd) := by show _ ≤ _; rw [hbd.out]; exact Nat.le_refl _
      rw [show V.drew.heap.size = V.heap.size from rfl, ← hbd.out] at rF
      rw [← hbd.out]
      clear e1 r1 bU1 lU1 b1 s1 B4 hbd KI sD BD s0 y0 y1 y2 y3 y4 yf CC lV
      exact vr_tail
    · go_simp
      go_at_call 116
      refine (KI _ BD).mono ?_
      rintro _ w3 ⟨rfl, B3⟩
      dsimp only
      have b3 := BD.step16 B3 BD.size
      have s3 := SE.out _ b3
      refine koH hK s3 fun hHeld => ?_
      clear hK K'
      obtain ⟨kF, w4, e3, r3, bU3, lU3⟩ := CC.out w3
      have bF := b3.step16 bU3 b3.size
      have sF' := SE.out _ bF
      refine rnH 6 fun K' hK => ?_
      go_simp
      obtain ⟨bd, hbd⟩ : ∃ bd, Hid (bd = w3.heap.size) := ⟨_, rfl⟩
      have lF : Hid (V.heap.size ≤ bd) := by show _ ≤ _; rw [hbd.out]; exact b3.size
      have rF := r3
      rw [← hbd.out] at rF ⊢
      clear e1 r1 bU1 lU1 b1 s1 hbd KI sD BD s0 y0 y1 y2 y3 y4 yf CC lV e3 r3 bU3 lU3 B3 b3 s3
      exact vr_tail
end Go.Proofs.YtclieefpnbdbjaaGreat.Gf
