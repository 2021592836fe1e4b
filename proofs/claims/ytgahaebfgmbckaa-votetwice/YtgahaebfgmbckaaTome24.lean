/- TEXTS JOINED: VoCR, VoC. -/
import Derived.Test.YtgahaebfgmbckaaTome19
import Derived.Test.YtgahaebfgmbckaaTome20
import Derived.Test.YtgahaebfgmbckaaTome22
import Derived.Test.YtgahaebfgmbckaaTome23
namespace Go.Proofs.Ytgahaebfgmbckaa.Gf
set_option linter.unusedVariables false
set_option linter.unusedSimpArgs false
open Go.RowKit Go.Shelf
theorem okL17_say {a : ArS} {ad : Int} : OkL17 (sayL a ad) := fun i hi hs => by
  rw [sayL_length] at hi
  rw [sF_say hi] at hs ⊢
  obtain ⟨_, ⟨h1, h2⟩, h3⟩ := (say_ok hs).1
  exact ⟨h1, h2, h3⟩
theorem RpRow.say {w : World} {g n : Nat} {a : ArS} {ad : Int} (hn : n = a.D.length) (h : RpRow w g n (fun i => rpS (sayV a ad i))) : RpRow w g n (fun i => rpS (sF (sayL a ad) i)) := h.congr fun i hi => by rw [sF_say (by rw [← hn]; exact hi)]
theorem lay5 {w : World} {a b c d e : Value} {t : Nat} : (w.alloc (.cells #[a, b, c, d, e] t)).cell? ⟨w.heap.size, 0, none⟩ = some a ∧ (w.alloc (.cells #[a, b, c, d, e] t)).cell? ⟨w.heap.size, 1, none⟩ = some b ∧ (w.alloc (.cells #[a, b, c, d, e] t)).cell? ⟨w.heap.size, 2, none⟩ = some c ∧ (w.alloc (.cells #[a, b, c, d, e] t)).cell? ⟨w.heap.size, 3, none⟩ = some d ∧ (w.alloc (.cells #[a, b, c, d, e] t)).cell? ⟨w.heap.size, 4, none⟩ = some e ∧ Below w.heap.size w (w.alloc (.cells #[a, b, c, d, e] t)) ∧ (∀ j, (w.alloc (.cells #[a, b, c, d, e] t)).frozen? ⟨w.heap.size, j, none⟩ = false) ∧ w.heap.size < (w.alloc (.cells #[a, b, c, d, e] t)).heap.size := by
  have z : ∀ j, (w.alloc (.cells #[a, b, c, d, e] t)).cell? ⟨w.heap.size, j, none⟩ = #[a, b, c, d, e][j]? := fun j => World.cell?_alloc_new _ _ _ _
  exact ⟨z 0, z 1, z 2, z 3, z 4, belR _ _, fun j => by simp [go_sem], by simp⟩
theorem vr_tail {p : Prop} (h : p := by
  refine koH hK sF' fun hHeld => ?_
  clear hK K'
  refine tkH 11 ?_
  obtain ⟨y0, y1, y2, y3, y4, yf⟩ := CY.out w4 (CV.out w4 bF)
  have f0 := yf 0
  have f1 := yf 1
  have f2 := yf 2
  have f3 := yf 3
  have f4 := yf 4
  refine rnH 12 fun K' hK => ?_
  go_simp
  obtain ⟨X, hX⟩ : ∃ X, X = ((((w4.setCell ⟨rb, 0, none⟩ (.bool (decide (0 < N)))).setCell ⟨rb, 1, none⟩ (.int .i64 E)).setCell ⟨rb, 2, none⟩ (.slice (some ⟨bd, 0, none⟩) D.length kF)).setCell ⟨rb, 3, none⟩ (.int .i64 (N : Int))).setCell ⟨rb, 4, none⟩ (.bool Z) := ⟨_, rfl⟩
  obtain ⟨oX, x0, x1, x2, x3, x4⟩ := set5 y0 y1 y2 y3 y4 hX
  have sX := HKO.out _ _ oX sF'
  have F : Hid (TellsVF w (rvX a) (rvV a K ad) (.returned (.tuple #[.agg #[.bool (decide (0 < N)), .int .i64 E, .slice (some ⟨bd, 0, none⟩) D.length kF, .int .i64 (N : Int), .bool Z], .int .i64 0])) X) := by
    show TellsVF _ _ _ _ _
    have z1 := BV.size
    have z2 := lF.out
    have z3 := hrb.out
    have z4 := LV.out
    rw [HV.out.1, HV.out.2]
    refine ⟨_, rfl, ?_, fun x n' c' e => ?_, (BV.step16 bF BV.size).trans (oX.below (by omega))⟩
    · exact rF.only (apart_block (by omega)) oX
    · simp at e
      obtain ⟨rfl, _⟩ := e
      exact Or.inr (by show w.heap.size ≤ bd; omega)
  rw [← hX]
  refine koH hK sX fun hHeld => ?_
  clear hK K' hX y0 y1 y2 y3 y4 yf f0 f1 f2 f3 f4 oX bF sF' rF lF
  refine tkH 13 ?_
  refine wpAnyH_done (by kernel_rfl) ?_ _
  clear sX HV HKO LV CY CV SE BV hHeld
  go_wp2
  exact bodyPost_ret (v := .tuple #[.agg #[.bool (decide (0 < N)), .int .i64 E, .slice (some ⟨bd, 0, none⟩) D.length kF, .int .i64 (N : Int), .bool Z], .int .i64 0]) (by simp [results, x0, x1, x2, x3, x4, go_sem, Try.results14]) rfl F.out) : p := h
set_option maxRecDepth 100000 in
set_option maxHeartbeats 4000000 in
theorem vread17_any {w : World} {ab : Nat} {GA : Nat → Prop} {a : ArS} (h : ArAt w ab GA a) {ad : Int} (ha : (Lit.int .i64 ad).wf = true) {u : Value} {K : List Bool} (hk : RdB w u K) :
    Calls Try.prog 14 #[.pointer (some ⟨ab, 0, none⟩), u, .int .i64 ad] w (TellsVF w (rvX a) (rvV a K ad)) := by
  have d2 := h.ok.d2
  obtain ⟨W, hW⟩ : ∃ W, W = w.alloc (.cells #[.bool false, .int .i64 0, .slice none 0 0, .int .i64 0, .bool false] 34) := ⟨_, rfl⟩
  obtain ⟨y0, y1, y2, y3, y4, BW, yf, lW⟩ := @lay5 w (.bool false) (.int .i64 0) (.slice none 0 0) (.int .i64 0) (.bool false) 34
  rw [← hW] at y0 y1 y2 y3 y4 BW yf lW
  have KQ := vask_any (h.below BW) ha
  have HK : Hid (RdB w u K) := hk
  obtain ⟨ua, uc, eu⟩ := hk.form
  subst eu
  obtain ⟨n, hn⟩ : ∃ n, Hid (n = a.D.length) := ⟨_, rfl⟩
  rw [← hn.out] at d2
  obtain ⟨rb, hrb⟩ : ∃ rb, Hid (rb = w.heap.size) := ⟨_, rfl⟩
  rw [← hrb.out] at y0 y1 y2 y3 y4 yf lW
  clear h hk
  go_enter Try.func14, Try.ntmps14
  go_wp2_with fail
  rw [← hW, ← hrb.out]
  clear hW
  refine KQ.mono ?_
  have CY : Hid (∀ W1, Below W.heap.size W W1 → W1.cell? ⟨rb, 0, none⟩ = some (.bool false) ∧ W1.cell? ⟨rb, 1, none⟩ = some (.int .i64 0) ∧ W1.cell? ⟨rb, 2, none⟩ = some (.slice none 0 0) ∧ W1.cell? ⟨rb, 3, none⟩ = some (.int .i64 0) ∧ W1.cell? ⟨rb, 4, none⟩ = some (.bool false) ∧ ∀ j, W1.frozen? ⟨rb, j, none⟩ = false) := fun W1 b =>
    ⟨(b.cell (p := ⟨rb, 0, none⟩) lW).trans y0, (b.cell (p := ⟨rb, 1, none⟩) lW).trans y1, (b.cell (p := ⟨rb, 2, none⟩) lW).trans y2, (b.cell (p := ⟨rb, 3, none⟩) lW).trans y3, (b.cell (p := ⟨rb, 4, none⟩) lW).trans y4, fun j => (b.frozen (p := ⟨rb, j, none⟩) lW).trans (yf j)⟩
  clear y0 y1 y2 y3 y4 yf
  rintro _ w1 (⟨ho, va, vn, vc, rfl, B1⟩ | ⟨ho, g, rfl, R1, lg, B1⟩)
  · obtain ⟨y0, y1, y2, y3, y4, yf⟩ := CY.out w1 B1
    have f0 := yf 0
    have f1 := yf 1
    have f2 := yf 2
    have f3 := yf 3
    have f4 := yf 4
    obtain ⟨X, hX⟩ : ∃ X, X = ((((w1.setCell ⟨rb, 0, none⟩ (.bool false)).setCell ⟨rb, 1, none⟩ (.int .i64 0)).setCell ⟨rb, 2, none⟩ (.slice none 0 0)).setCell ⟨rb, 3, none⟩ (.int .i64 0)).setCell ⟨rb, 4, none⟩ (.bool false) := ⟨_, rfl⟩
    obtain ⟨oX, x0, x1, x2, x3, x4⟩ := set5 y0 y1 y2 y3 y4 hX
    have F : Hid (TellsVF w (rvX a) (rvV a K ad) (.returned (.tuple #[.agg #[.bool false, .int .i64 0, .slice none 0 0, .int .i64 0, .bool false], .int .i64 130])) X) := by
      have e1 : rvX a = 130 := if_pos ho
      have e2 : rvV a K ad = noV := if_pos ho
      show TellsVF _ _ _ _ _
      rw [e1, e2]
      exact ⟨_, rfl, Or.inl ⟨none, 0, rfl, rfl, by unfold maxLen; omega, fun _ => rfl⟩, FarV.nil _ _ _, (BW.step16 B1 BW.size).trans (oX.below (by rw [hrb.out]; exact Nat.le_refl _))⟩
    clear KQ CY B1 ho oX yf BW
    go_wp2
    rw [← hX]
    clear hX
    exact bodyPost_ret (v := .tuple #[.agg #[.bool false, .int .i64 0, .slice none 0 0, .int .i64 0, .bool false], .int .i64 130]) (by simp [results, Try.results14, go_sem, x0, x1, x2, x3, x4]) rfl F.out
  · rw [← hn.out] at R1 ⊢
    have KE := elected_any (S := sayL a ad) (by rw [sayL_length]; exact hn.out) (by omega) okL17_say (RpRow.say hn.out R1)
    clear KQ
    go_wp2_with fail
    refine KE.mono ?_
    rintro _ w2 ⟨rfl, B2⟩
    clear KE
    have HV : Hid (rvX a = 0 ∧ rvV a K ad = ⟨decide (0 < elN (sayL a ad)), elE (sayL a ad), elD (sayL a ad), elN (sayL a ad), wiF (sayL a ad) K n⟩) := by
      have e0 : rvV a K ad = votS (sayL a ad) K := by unfold rvV; rw [if_neg (by rw [ho]; decide)]
      refine ⟨if_neg (by rw [ho]; decide), ?_⟩
      rw [e0, vot_same, el_has (sayL a ad) [], hn.out, sayL_length]
    have hDl : Hid ((elD (sayL a ad)).length ≤ maxLen) := by
      show _ ≤ _
      by_cases q : 0 < elN (sayL a ad)
      · rcases vo_or (sayL a ad) with h | ⟨e, d, h⟩
        · unfold elD; rw [vo_none h []]; exact Nat.zero_le _
        · have : OkSe ad e d.length := top_se h
          unfold elD; rw [vo_top h []]
          have := this.2.2
          show d.length ≤ _
          unfold maxLen; omega
      · rcases vo_or (sayL a ad) with h | ⟨e, d, h⟩
        · unfold elD; rw [vo_none h []]; exact Nat.zero_le _
        · have : OkSe ad e d.length := top_se h
          unfold elD; rw [vo_top h []]
          have := this.2.2
          show d.length ≤ _
          unfold maxLen; omega
    have RS := RpRow.say hn.out R1
    generalize elE (sayL a ad) = E at HV
    generalize elD (sayL a ad) = D at HV hDl
    generalize elN (sayL a ad) = N at HV
    have B12 : Below W.heap.size W w2 := B1.step16 B2 B1.size
    have BW2 : Below w.heap.size w w2 := BW.step16 B12 BW.size
    obtain ⟨V, hV⟩ : ∃ V, V = w2.alloc (.cells #[.int .i64 E, .string ⟨D.toArray⟩] 76) := ⟨_, rfl⟩
    have bV : Below w2.heap.size w2 V := by rw [hV]; exact belR _ _
    have v0 : V.cell? ⟨w2.heap.size, 0, none⟩ = some (.int .i64 E) := by rw [hV]; exact World.cell?_alloc_new _ _ _ _
    have v1 : V.cell? ⟨w2.heap.size, 1, none⟩ = some (.string ⟨D.toArray⟩) := by rw [hV]; exact World.cell?_alloc_new _ _ _ _
    have lV : w2.heap.size < V.heap.size := by rw [hV]; simp
    obtain ⟨ob, hob⟩ : ∃ ob, Hid (ob = w2.heap.size) := ⟨_, rfl⟩
    rw [← hob.out] at v0 v1 lV
    have RV := (RS.below B2).below bV
    have BV : Below w.heap.size w V := BW2.step16 bV BW2.size
    have KI := fun W2 (b : Below V.heap.size V W2) => iswit_any (RV.below b) (by omega) (HK.out.below (BV.step16 b BV.size))
    generalize wiF (sayL a ad) K n = Z at HV KI
    have s0 : V.cell? ⟨ob, 0, none⟩ = some (.int .i64 E) ∧ V.cell? ⟨ob, 1, none⟩ = some (.string ⟨D.toArray⟩) := ⟨v0, v1⟩
    have SE : Hid (∀ W2, Below V.heap.size V W2 → W2.cell? ⟨ob, 0, none⟩ = some (.int .i64 E) ∧ W2.cell? ⟨ob, 1, none⟩ = some (.string ⟨D.toArray⟩)) := fun W2 b => ⟨(b.cell (p := ⟨ob, 0, none⟩) lV).trans v0, (b.cell (p := ⟨ob, 1, none⟩) lV).trans v1⟩
    have BD : Below V.heap.size V V.drew := (Below.refl _ _).drew
    have sD := SE.out _ BD
    have HKO : Hid (∀ W2 W3, Only rb W2 W3 → (W2.cell? ⟨ob, 0, none⟩ = some (.int .i64 E) ∧ W2.cell? ⟨ob, 1, none⟩ = some (.string ⟨D.toArray⟩)) → (W3.cell? ⟨ob, 0, none⟩ = some (.int .i64 E) ∧ W3.cell? ⟨ob, 1, none⟩ = some (.string ⟨D.toArray⟩))) := by
      have ne : ob ≠ rb := by rw [hob.out, hrb.out]; have := B12.size; rw [hrb.out] at lW; omega
      exact fun W2 W3 o k => ⟨(o.cell (p := ⟨ob, 0, none⟩) ne).trans k.1, (o.cell (p := ⟨ob, 1, none⟩) ne).trans k.2⟩
    have LV : Hid (rb < V.heap.size) := by show _ < _; have := B12.size; have := bV.size; omega
    have CV : Hid (∀ W2, Below V.heap.size V W2 → Below W.heap.size W W2) := fun W2 b => (B12.step16 bV B12.size).step16 b (B12.step16 bV B12.size).size
    have CC : Hid (∀ Y, ∃ c U, (convert 9 22 (.string ⟨D.toArray⟩)).run Try.prog Y = .ok (.slice (some ⟨Y.heap.size, 0, none⟩) D.length c) U ∧ Rd U (.slice (some ⟨Y.heap.size, 0, none⟩) D.length c) D ∧ Below Y.heap.size Y U ∧ Y.heap.size < U.heap.size) := fun Y => conv_key Y D hDl.out
    clear R1 RS B1 B2 B12 bV v0 v1 RV
    go_wp2_with fail
    rw [← hV, ← hob.out]
    clear hV
    obtain ⟨kF, U1, e1, r1, bU1, lU1⟩ := CC.out V.drew
    have b1 : Below V.heap.size V U1 := BD.step16 bU1 BD.size
    have s1 := SE.out _ b1
    obtain ⟨y0, y1, y2, y3, y4, yf⟩ := CY.out _ (CV.out _ b1)
    refine wp_region_held_drew (S := fun wx => wx.cell? ⟨ob, 0, none⟩ = some (.int .i64 E) ∧ wx.cell? ⟨ob, 1, none⟩ = some (.string ⟨D.toArray⟩)) (by kernel_rfl) sD (fun hHeld => ?_)
    refine tkH 0 ?_
    refine tkH 1 ?_
    refine tkH 2 ?_
    refine tkH 3 ?_
    refine tkH 4 ?_
    refine tkH 5 ?_
    refine tkH 7 ?_
    refine tkH 8 ?_
    refine tkH 9 ?_
    refine rmH 6 10 (fun K' hK => ?_) (fun K' hK => ?_)
    · go_simp
      refine koH hK s1 fun hHeld => ?_
      clear hK K'
      refine rnH 10 fun K' hK => ?_
      go_simp
      go_at_call 34
      refine (KI _ b1).mono ?_
      rintro _ w4 ⟨rfl, B4⟩
      dsimp only
      have bF := b1.step16 B4 b1.size
      have sF' := SE.out _ bF
      have rF := r1.below B4
      obtain ⟨bd, hbd⟩ : ∃ bd, Hid (bd = V.heap.size) := ⟨_, rfl⟩
      have lF : Hid (V.heap.size ≤ bd) := by show _ ≤ _; rw [hbd.out]; exact Nat.le_refl _
      rw [show V.drew.heap.size = V.heap.size from rfl, ← hbd.out] at rF
      rw [← hbd.out]
      clear e1 r1 bU1 lU1 b1 s1 B4 hbd KI sD BD s0 y0 y1 y2 y3 y4 yf CC lV
      exact vr_tail
    · go_simp
      go_at_call 34
      refine (KI _ BD).mono ?_
      rintro _ w3 ⟨rfl, B3⟩
      dsimp only
      have b3 := BD.step16 B3 BD.size
      have s3 := SE.out _ b3
      refine koH hK s3 fun hHeld => ?_
      clear hK K'
      obtain ⟨kF, w4, e3, r3, bU3, lU3⟩ := CC.out w3
      have bF := b3.step16 bU3 b3.size
      have sF' := SE.out _ bF
      refine rnH 6 fun K' hK => ?_
      go_simp
      obtain ⟨bd, hbd⟩ : ∃ bd, Hid (bd = w3.heap.size) := ⟨_, rfl⟩
      have lF : Hid (V.heap.size ≤ bd) := by show _ ≤ _; rw [hbd.out]; exact b3.size
      have rF := r3
      rw [← hbd.out] at rF ⊢
      clear e1 r1 bU1 lU1 b1 s1 hbd KI sD BD s0 y0 y1 y2 y3 y4 yf CC lV e3 r3 bU3 lU3 B3 b3 s3
      exact vr_tail
theorem vread17_nil {w : World} {ad : Int} {u : Value} {K : List Bool} (hk : RdB w u K) : Calls Try.prog 14 #[.pointer none, u, .int .i64 ad] w fun e w' => e = .returned (.tuple #[aggV noV (.slice none 0 0), .int .i64 1]) ∧ Below w.heap.size w w' := by
  rw [show aggV noV (.slice none 0 0) = .agg #[.bool false, .int .i64 0, .slice none 0 0, .int .i64 0, .bool false] from rfl]
  obtain ⟨ua, uc, eu⟩ := hk.form
  subst eu
  clear hk
  obtain ⟨W, hW⟩ : ∃ W, W = w.alloc (.cells #[.bool false, .int .i64 0, .slice none 0 0, .int .i64 0, .bool false] 34) := ⟨_, rfl⟩
  obtain ⟨y0, y1, y2, y3, y4, BW, yf, lW⟩ := @lay5 w (.bool false) (.int .i64 0) (.slice none 0 0) (.int .i64 0) (.bool false) 34
  rw [← hW] at y0 y1 y2 y3 y4 BW yf lW
  obtain ⟨rb, hrb⟩ : ∃ rb, Hid (rb = w.heap.size) := ⟨_, rfl⟩
  rw [← hrb.out] at y0 y1 y2 y3 y4 yf lW
  go_enter Try.func14, Try.ntmps14
  go_wp2_with fail
  rw [← hW, ← hrb.out]
  clear hW
  refine vask_nil.mono ?_
  rintro _ w1 ⟨rfl, B1⟩
  replace y0 := (B1.cell (p := ⟨rb, 0, none⟩) lW).trans y0
  replace y1 := (B1.cell (p := ⟨rb, 1, none⟩) lW).trans y1
  replace y2 := (B1.cell (p := ⟨rb, 2, none⟩) lW).trans y2
  replace y3 := (B1.cell (p := ⟨rb, 3, none⟩) lW).trans y3
  replace y4 := (B1.cell (p := ⟨rb, 4, none⟩) lW).trans y4
  have zf : ∀ j, w1.frozen? ⟨rb, j, none⟩ = false := fun j => (B1.frozen (p := ⟨rb, j, none⟩) lW).trans (yf j)
  have f0 := zf 0
  have f1 := zf 1
  have f2 := zf 2
  have f3 := zf 3
  have f4 := zf 4
  obtain ⟨X, hX⟩ : ∃ X, X = ((((w1.setCell ⟨rb, 0, none⟩ (.bool false)).setCell ⟨rb, 1, none⟩ (.int .i64 0)).setCell ⟨rb, 2, none⟩ (.slice none 0 0)).setCell ⟨rb, 3, none⟩ (.int .i64 0)).setCell ⟨rb, 4, none⟩ (.bool false) := ⟨_, rfl⟩
  obtain ⟨oX, x0, x1, x2, x3, x4⟩ := set5 y0 y1 y2 y3 y4 hX
  have F : Hid (Below w.heap.size w X) := (BW.step16 B1 BW.size).trans (oX.below (by rw [hrb.out]; exact Nat.le_refl _))
  clear B1 oX yf zf BW
  go_wp2
  rw [← hX]
  clear hX
  exact bodyPost_ret (v := .tuple #[.agg #[.bool false, .int .i64 0, .slice none 0 0, .int .i64 0, .bool false], .int .i64 1]) (by simp [results, Try.results14, go_sem, x0, x1, x2, x3, x4]) rfl ⟨rfl, F.out⟩
end Go.Proofs.Ytgahaebfgmbckaa.Gf

namespace Go.Proofs.Ytgahaebfgmbckaa.Gf
set_option linter.unusedVariables false
set_option linter.unusedSimpArgs false
open Go.RowKit Go.Shelf
set_option maxRecDepth 100000 in
set_option maxHeartbeats 2000000 in
theorem vwrite17_any {w : World} {ab : Nat} {GA : Nat → Prop} {a : ArS} (h : ArAt w ab GA a) {ad ep : Int} (ha : (Lit.int .i64 ad).wf = true) {v : Value} {p : List UInt8} (hp : Rd w v p) (hpl : p.length ≤ 100000) :
    Calls Try.prog 10 #[.pointer (some ⟨ab, 0, none⟩), .int .i64 ad, .int .i64 ep, v] w (LeavesA w ab GA (wvS a ad ep p) (.tuple #[.int .i64 (wvN a ad ep p), .int .i64 (wvX a ad ep p)])) := by
  have KP := spack_far (a := ad) (e := ep) hp
  obtain ⟨va, vc, ev⟩ := hp.form
  subst ev
  have lG := h.lt
  by_cases ho : OkSe ad ep p.length
  rotate_left
  · rw [(pa_not ho).1, (pa_not ho).2] at KP
    have e1 : wvP a ad ep p = ⟨false, 0, a⟩ := if_neg ho
    have FIN : Hid (∀ w1, Below w.heap.size w w1 → LeavesA w ab GA (wvS a ad ep p) (.tuple #[.int .i64 (wvN a ad ep p), .int .i64 (wvX a ad ep p)]) (.returned (.tuple #[.int .i64 0, .int .i64 1])) w1) := fun w1 b => by
      have e2 : wvX a ad ep p = 1 := if_neg ho
      unfold wvS wvN
      rw [e2, e1]
      exact ⟨rfl, GA, h.below b, Grew.of_below b⟩
    clear hp h e1 ho lG
    go_enter Try.func10, Try.ntmps10
    go_wp2_with fail
    refine KP.mono ?_
    rintro _ w1 ⟨s, rfl, R1, F1, B1⟩
    obtain ⟨sa, sc, es⟩ := R1.form
    subst es
    have F := FIN.out w1 B1
    have F' : Hid _ := F
    clear KP R1 F1 B1 FIN F
    go_wp2
    exact bodyPost_ret (v := .tuple #[.int .i64 0, .int .i64 1]) (by simp [results, Try.results10, go_sem]) rfl F'.out
  · rw [(pa_ok ho).1, (pa_ok ho).2] at KP
    obtain ⟨b, hb0⟩ : ∃ b, Hid (b = pkS ad.toNat ep.toNat p) := ⟨_, rfl⟩
    rw [← hb0.out] at KP
    obtain ⟨n, hn⟩ : ∃ n, Hid (n = a.D.length) := ⟨_, rfl⟩
    have d2 : n ≤ 32 := by rw [hn.out]; exact h.ok.d2
    have eP : Hid (puW a ad b (List.range n) n = wvP a ad ep p) := by
      show _ = _
      unfold wvP
      rw [if_pos ho, ← hb0.out, ← hn.out, puW_to n, range_all, List.length_range]
    have eX : Hid (wvX a ad ep p = puE (wvP a ad ep p)) := by show _ = _; unfold wvX; rw [if_pos ho]
    have HA : Hid (ArAt w ab GA a) := h
    clear hp h ho hb0
    go_enter Try.func10, Try.ntmps10
    go_wp2_with fail
    refine KP.mono ?_
    rintro _ w1 ⟨s, rfl, R1, F1, B1⟩
    clear KP
    obtain ⟨sa, sc, es⟩ := R1.form
    have hA1 := HA.out.below B1
    have KA := vall_any hA1
    rw [← hn.out] at KA
    have HP : Hid (∀ W, TurnG GA w1 W → Rd W s b) := fun W t => R1.turnG (F1.apart lG) t
    subst es
    go_wp2_with fail
    refine KA.mono ?_
    rintro _ w2 ⟨g, rfl, rl, sl, B2⟩
    clear KA
    have hA2 := hA1.below B2
    have ng : ¬ GA g := fun e => by have := lG g e; have := B1.size; omega
    have KW := vwrite_any hA2 ha (pv := .slice sa b.length sc) (b := b) (fun W t => HP.out W ((Below.turnG B2 GA).trans t)) (da := some ⟨g, 0, none⟩) (dc := n) (n := n) (l := List.range n) (by simp) (by omega) (fun i hi => by simp [List.getD, hi]; omega) (fun W t => row_rdI (by simp) (rl.of_block (t.block g rl.lt ng)) (fun i hi => by simp [List.getD, hi]) (by omega))
    rw [eP.out] at KW
    have B12 := B1.step16 B2 B1.size
    clear hA1 hA2 ng rl sl R1 F1
    go_wp2_with fail
    refine KW.mono ?_
    rintro _ w3 ⟨rfl, GA', A3, g3⟩
    have F : Hid (LeavesA w ab GA (wvS a ad ep p) (.tuple #[.int .i64 (wvN a ad ep p), .int .i64 (wvX a ad ep p)]) (.returned (.tuple #[.int .i64 (puN (wvP a ad ep p)), .int .i64 (puE (wvP a ad ep p))])) w3) := by
      refine ⟨by rw [eX.out]; rfl, GA', A3, (Grew.of_below B12).trans g3⟩
    clear KW A3 g3 B1 B2 B12 eX eP
    go_wp2
    exact bodyPost_ret (v := .tuple #[.int .i64 (puN (wvP a ad ep p)), .int .i64 (puE (wvP a ad ep p))]) (by simp [results, Try.results10, go_sem]) rfl F.out
theorem vwrite17_nil {w : World} {ad ep : Int} {v : Value} {p : List UInt8} (hp : Rd w v p) : Calls Try.prog 10 #[.pointer none, .int .i64 ad, .int .i64 ep, v] w fun e w' => e = .returned (.tuple #[.int .i64 0, .int .i64 1]) ∧ Below w.heap.size w w' := by
  obtain ⟨va, vc, ev⟩ := hp.form
  subst ev
  clear hp
  go_enter Try.func10, Try.ntmps10
  go_wp2
  exact bodyPost_ret (v := .tuple #[.int .i64 0, .int .i64 1]) (by simp [results, Try.results10, go_sem]) rfl ⟨rfl, Below.refl _ _⟩
theorem vmend17_nil {w : World} {ad : Int} {u : Value} {K : List Bool} (hk : RdB w u K) : Calls Try.prog 11 #[.pointer none, u, .int .i64 ad] w fun e w' => e = .returned (.tuple #[.int .i64 0, .int .i64 1]) ∧ Below w.heap.size w w' := by
  obtain ⟨ua, uc, eu⟩ := hk.form
  subst eu
  clear hk
  go_enter Try.func11, Try.ntmps11
  go_wp2_with fail
  refine vask_nil.mono ?_
  rintro _ w1 ⟨rfl, B1⟩
  go_wp2
  exact bodyPost_ret (v := .tuple #[.int .i64 0, .int .i64 1]) (by simp [results, Try.results11, go_sem]) rfl ⟨rfl, B1⟩
theorem md17_off {a : ArS} {K : List Bool} {ad : Int} (h : a.off = true) : mdP a K ad = ⟨true, 0, a⟩ := if_pos h
theorem md17_none {a : ArS} {K : List Bool} {ad : Int} (h : a.off = false) (q : ¬ 0 < elN (sayL a ad)) : mdP a K ad = ⟨false, 0, a⟩ := by
  unfold mdP
  rw [if_neg (by rw [h]; decide), el_has, if_neg (by rw [decide_eq_true_eq]; exact q)]
theorem md17_some {a : ArS} {K : List Bool} {ad : Int} (h : a.off = false) (q : 0 < elN (sayL a ad)) : mdP a K ad = puV a ad (pkS ad.toNat (elE (sayL a ad)).toNat (elD (sayL a ad))) (toV a ad (elE (sayL a ad)) (elD (sayL a ad))) a.D.length := by
  unfold mdP
  rw [if_neg (by rw [h]; decide), if_pos (by rw [el_has]; exact decide_eq_true q), vot_same (sayL a ad) K]
theorem el_ok {a : ArS} {ad : Int} (q : 0 < elN (sayL a ad)) : OkSe ad (elE (sayL a ad)) (elD (sayL a ad)).length := by
  rcases vo_or (sayL a ad) with h | ⟨e, d, h⟩
  · exfalso
    unfold elN at q
    rw [vo_none h []] at q
    exact absurd q (Nat.lt_irrefl 0)
  · have e1 : elE (sayL a ad) = e := by unfold elE; rw [vo_top h []]
    have e2 : elD (sayL a ad) = d := by unfold elD; rw [vo_top h []]
    rw [e1, e2]
    exact top_se h
set_option maxRecDepth 100000 in
set_option maxHeartbeats 2000000 in
theorem vmend17_any {w : World} {ab : Nat} {GA : Nat → Prop} {a : ArS} (h : ArAt w ab GA a) {ad : Int} (ha : (Lit.int .i64 ad).wf = true) {u : Value} {K : List Bool} (hk : RdB w u K) :
    Calls Try.prog 11 #[.pointer (some ⟨ab, 0, none⟩), u, .int .i64 ad] w (LeavesA w ab GA (mdS a K ad) (.tuple #[.int .i64 (mdN a K ad), .int .i64 (mdX a K ad)])) := by
  obtain ⟨ua, uc, eu⟩ := hk.form
  subst eu
  clear hk
  have lG := h.lt
  have KQ := vask_any h ha
  have d2 := h.ok.d2
  obtain ⟨n, hn⟩ : ∃ n, Hid (n = a.D.length) := ⟨_, rfl⟩
  rw [← hn.out] at d2
  have HA : Hid (ArAt w ab GA a) := h
  have FIN : Hid (∀ (P : PuS) w1, mdP a K ad = P → (∃ GA', ArAt w1 ab GA' P.st ∧ Grew GA w GA' w1) → LeavesA w ab GA (mdS a K ad) (.tuple #[.int .i64 (mdN a K ad), .int .i64 (mdX a K ad)]) (.returned (.tuple #[.int .i64 (puN P), .int .i64 (puE P)])) w1) := fun P w1 e k => by
    unfold mdS mdN mdX
    rw [e]
    exact ⟨rfl, k⟩
  clear h
  go_enter Try.func11, Try.ntmps11
  go_wp2_with fail
  refine KQ.mono ?_
  rintro _ w1 (⟨ho, va, vn, vc, rfl, B1⟩ | ⟨ho, g, rfl, R1, lg, B1⟩)
  · have F : Hid (LeavesA w ab GA (mdS a K ad) (.tuple #[.int .i64 (mdN a K ad), .int .i64 (mdX a K ad)]) (.returned (.tuple #[.int .i64 0, .int .i64 130])) w1) := FIN.out ⟨true, 0, a⟩ w1 (md17_off ho) ⟨GA, HA.out.below B1, Grew.of_below B1⟩
    clear KQ FIN B1 ho
    go_wp2
    exact bodyPost_ret (v := .tuple #[.int .i64 0, .int .i64 130]) (by simp [results, Try.results11, go_sem]) rfl F.out
  · rw [← hn.out] at R1 ⊢
    have KE := elected_any (S := sayL a ad) (by rw [sayL_length]; exact hn.out) (by omega) okL17_say (RpRow.say hn.out R1)
    clear KQ
    go_wp2_with fail
    refine KE.mono ?_
    rintro _ w2 ⟨rfl, B2⟩
    clear KE
    have EO := fun q => @el_ok a ad q
    have MN := fun q => @md17_none a K ad ho q
    have MS := fun q => @md17_some a K ad ho q
    generalize elE (sayL a ad) = E at EO MN MS
    generalize elD (sayL a ad) = D at EO MN MS
    generalize elN (sayL a ad) = N at EO MN MS
    have B12 := B1.step16 B2 B1.size
    have R2 := R1.below B2
    by_cases q : N = 0
    · subst q
      have F : Hid (∀ W, Below w2.heap.size w2 W → LeavesA w ab GA (mdS a K ad) (.tuple #[.int .i64 (mdN a K ad), .int .i64 (mdX a K ad)]) (.returned (.tuple #[.int .i64 0, .int .i64 0])) W) := fun W b => FIN.out ⟨false, 0, a⟩ W (MN (by omega)) ⟨GA, HA.out.below (B12.step16 b B12.size), Grew.of_below (B12.step16 b B12.size)⟩
      clear FIN EO MN MS B1 B2 B12 R1 R2 ho
      go_wp2
      exact bodyPost_ret (v := .tuple #[.int .i64 0, .int .i64 0]) (by simp [results, Try.results11, go_sem]) rfl (F.out _ (belR _ _))
    · have q1 : ((N : Int) == 0) = false := beq_eq_false_iff_ne.2 (by omega)
      have q2 : ¬ (N : Int) = 0 := by omega
      have eo : OkSe ad E D.length := EO (by omega)
      have ms := MS (by omega)
      obtain ⟨V, hV⟩ : ∃ V, V = w2.alloc (.cells #[.int .i64 E, .string ⟨D.toArray⟩] 76) := ⟨_, rfl⟩
      have bV : Below w2.heap.size w2 V := by rw [hV]; exact belR _ _
      have v0 : V.cell? ⟨w2.heap.size, 0, none⟩ = some (.int .i64 E) := by rw [hV]; exact World.cell?_alloc_new _ _ _ _
      have v1 : V.cell? ⟨w2.heap.size, 1, none⟩ = some (.string ⟨D.toArray⟩) := by rw [hV]; exact World.cell?_alloc_new _ _ _ _
      have lV : w2.heap.size < V.heap.size := by rw [hV]; simp
      obtain ⟨c, U, hcv, rU, bU, lU⟩ := conv_key V D (by have := eo.2.2; unfold maxLen; omega)
      have KP := spack_far (a := ad) (e := E) rU
      rw [(pa_ok eo).1, (pa_ok eo).2] at KP
      obtain ⟨b, hb0⟩ : ∃ b, Hid (b = pkS ad.toNat E.toNat D) := ⟨_, rfl⟩
      rw [← hb0.out] at KP ms
      have b2U : Below w2.heap.size w2 U := bV.step16 bU bV.size
      have u0 := (bU.cell (p := ⟨w2.heap.size, 0, none⟩) lV).trans v0
      have u1 := (bU.cell (p := ⟨w2.heap.size, 1, none⟩) lV).trans v1
      have RU := R2.below b2U
      have BU : Below w.heap.size w U := B12.step16 b2U B12.size
      have MSd : Hid (mdP a K ad = puV a ad b (toV a ad E D) a.D.length) := ms
      obtain ⟨ob, hob⟩ : ∃ ob, Hid (ob = w2.heap.size) := ⟨_, rfl⟩
      rw [← hob.out] at u0 u1 v0 v1
      have lo : ob < U.heap.size := by rw [hob.out]; omega
      clear ms EO MN MS B1 B2 R1 R2 B12 b2U rU eo bV hb0
      go_wp2_with fail
      rw [← hV, ← hob.out]
      rw [hcv]
      clear hV hcv bU v0 v1 lV lU
      go_wp2_with fail
      refine KP.mono ?_
      rintro _ w3 ⟨s, rfl, S3, F3, B3⟩
      clear KP
      obtain ⟨sa, sc, es⟩ := S3.form
      have BU3 := BU.step16 B3 BU.size
      have R3 := RU.below B3
      replace u0 := (B3.cell (p := ⟨ob, 0, none⟩) lo).trans u0
      replace u1 := (B3.cell (p := ⟨ob, 1, none⟩) lo).trans u1
      have A3 := HA.out.below BU3
      have HP : Hid (∀ W, TurnG GA w3 W → Rd W s b) := fun W t => S3.turnG (fun x n' c' e => (F3 x n' c' e).imp id fun q hg => by have := lG _ hg; have := BU.size; omega) t
      subst es
      have KU := unlike_any A3 hn.out R3 (e := E) (d := D)
      go_wp2_with fail
      refine KU.mono ?_
      rintro _ w4 ⟨dv, rfl, O4, B4⟩
      clear KU
      have A4 := A3.below B4
      obtain ⟨dl, hdl⟩ : ∃ dl, Hid (dl = (List.range n).filter (toV a ad E D)) := ⟨_, rfl⟩
      rw [← hdl.out] at O4
      have ld : dl.length ≤ n := by rw [hdl.out]; exact filt_len n
      have O4' : OwnN17 w4 w3.heap.size dv dl := O4
      obtain ⟨ya, yc, ey⟩ := (O4.rd (by omega)).form
      rw [zsN_length] at ey
      subst ey
      have KW := vwrite_any A4 ha (pv := .slice sa b.length sc) (b := b) (fun W t => HP.out W ((Below.turnG B4 GA).trans t)) (da := ya) (dc := yc) (n := dl.length) (l := dl) rfl (by omega)
        (fun i hi => by
          have hm : dl.getD i 0 ∈ dl := by rw [show dl.getD i 0 = dl[i] by simp [List.getD, hi]]; exact List.getElem_mem hi
          have hm2 : dl.getD i 0 ∈ (List.range n).filter (toV a ad E D) := by rw [← hdl.out]; exact hm
          have := List.mem_range.1 (List.mem_filter.1 hm2).1
          omega)
        (fun W t => by
          have ng : ∀ k, (Value.slice ya dl.length yc).ownBlock = some k → ¬ GA k := fun k hk hg => by
            have h1 := (World.ownsRow.lt O4' k hk).1
            have h2 := lG k hg
            have h3 := BU3.size
            omega
          exact (show OwnN17 W w3.heap.size (.slice ya dl.length yc) dl from owns_block O4' fun k hk => t.block k (World.ownsRow.lt O4' k hk).2 (ng k hk)).rd (by omega))
      have eW : puW a ad b dl dl.length = mdP a K ad := by rw [MSd.out, ← hn.out, hdl.out]; exact (puW_to n).symm
      rw [eW] at KW
      have BU4 := BU3.step16 B4 BU3.size
      have F : Hid (∀ w5, (∃ GA', ArAt w5 ab GA' (mdP a K ad).st ∧ Grew GA w4 GA' w5) → LeavesA w ab GA (mdS a K ad) (.tuple #[.int .i64 (mdN a K ad), .int .i64 (mdX a K ad)]) (.returned (.tuple #[.int .i64 (puN (mdP a K ad)), .int .i64 (puE (mdP a K ad))])) w5) := fun w5 ⟨GA', k1, k2⟩ => FIN.out _ w5 rfl ⟨GA', k1, (Grew.of_below BU4).trans k2⟩
      clear A3 A4 R3 u0 u1 S3 F3 O4 O4' B3 B4 BU BU3 BU4 eW FIN MSd hdl RU
      go_wp2_with fail
      refine KW.mono ?_
      rintro _ w5 ⟨rfl, L5⟩
      have F' := F.out w5 L5
      have F2 : Hid _ := F'
      clear KW F F' L5
      go_wp2
      exact bodyPost_ret (v := .tuple #[.int .i64 (puN (mdP a K ad)), .int .i64 (puE (mdP a K ad))]) (by simp [results, Try.results11, go_sem]) rfl F2.out
end Go.Proofs.Ytgahaebfgmbckaa.Gf
