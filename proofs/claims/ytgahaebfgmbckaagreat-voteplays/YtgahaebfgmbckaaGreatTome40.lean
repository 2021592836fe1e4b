/- TEXTS JOINED: VoRefF, VoSame. -/
import Derived.Test.YtgahaebfgmbckaaGreatTome35
import Derived.Test.YtgahaebfgmbckaaGreatTome39
namespace Go.Proofs.YtgahaebfgmbckaaGreat.Gf
set_option linter.unusedVariables false
set_option linter.unusedSimpArgs false
open Go.RowKit
theorem RaAt.at17 {w : World} {rb : Nat} {HR GA : Nat → Prop} {a : ArS} (h : RaAt w rb HR GA a) : ∃ xb cx, ∃ rd : Nat → Nat, w.cell? ⟨rb, 0, none⟩ = some (.slice (some ⟨xb, 0, none⟩) a.D.length cx) ∧ rb < w.heap.size ∧ xb < w.heap.size ∧ ∀ i, i < a.D.length → rd i < w.heap.size ∧ w.cell? ⟨xb, i, none⟩ = some (.pointer (some ⟨rd i, 0, none⟩)) ∧ w.cell? ⟨rd i, 3, none⟩ = some (.bool (diA a (i : Int)).dead) := by
  obtain ⟨xb, yb, cx, cy, rd, hM, ok⟩ := h
  refine ⟨xb, cx, rd, hM.c0, hM.lt _ hM.hr, hM.lt _ hM.hx, fun i hi => ⟨hM.lt _ (hM.hd i hi), hM.x i hi, ?_⟩⟩
  obtain ⟨vl, vw, Tl, Tw, hI⟩ := hM.dk i hi
  exact hI.c3
theorem md_row {p : Prop} (h : p := by
  go_wp2
  go_roundw
  case rel => exact ⟨k + 1, by omega, by go_num, RN.out, OnN⟩
  case measure => simp [intOf]; omega) : p := h
theorem md_dead {p : Prop} (h : p := by
  go_wp2_with fail
  refine wp_region_held_drew (S := fun wx => wx.cell? ⟨rb, 0, none⟩ = some (.slice (some ⟨xb, 0, none⟩) n cx) ∧ wx.cell? ⟨xb, k, none⟩ = some (.pointer (some ⟨rdk, 0, none⟩)) ∧ wx.cell? ⟨rdk, 3, none⟩ = some (.bool true) ∧ wx.cell? ⟨lb, lo + k * 4, none⟩ = some (.bool si) ∧ wx.cell? ⟨lb, lo + k * 4 + 2, none⟩ = some (.int .i64 se) ∧ wx.cell? ⟨vb, 1, none⟩ = some (.int .i64 ve)) (by kernel_rfl) HS1 (fun hHeld => ?_)
  refine tkH 0 ?_
  refine tkH 1 ?_
  refine tkH 2 ?_
  refine tkH 3 ?_
  refine tkH 4 ?_
  refine tkH 5 ?_
  refine tkH 6 ?_
  refine tkH 7 ?_
  refine tkH 8 ?_
  refine tkH 9 ?_
  refine tkH 10 ?_
  refine tkH 11 ?_
  refine tkH 12 ?_
  refine tkH 13 ?_
  refine skH 14 ?_
  refine skH 15 ?_
  refine skH 16 ?_
  refine skH 17 ?_
  refine skH 18 ?_
  refine skH 19 ?_
  refine skH 20 ?_
  refine skH 21 ?_
  refine skH 22 ?_
  refine skH 23 ?_
  refine skH 24 ?_
  refine skH 25 ?_
  refine skH 26 ?_
  refine skH 27 ?_
  refine skH 28 ?_
  refine skH 29 ?_
  refine skH 30 ?_
  refine skH 31 ?_
  refine skH 32 ?_
  refine tkH 33 ?_
  refine tkH 34 ?_
  refine rnH 35 fun K' hK => ?_
  go_simp
  refine koH hK HS2 fun hHeld => ?_
  clear hK K'
  refine wpAnyH_done (by kernel_rfl) ?_ _
  clear HS1 HS2
  exact md_row) : p := h
theorem md_not {p : Prop} (h : p := by
  go_wp2_with fail
  refine wp_region_held_drew (S := fun wx => wx.cell? ⟨rb, 0, none⟩ = some (.slice (some ⟨xb, 0, none⟩) n cx) ∧ wx.cell? ⟨xb, k, none⟩ = some (.pointer (some ⟨rdk, 0, none⟩)) ∧ wx.cell? ⟨rdk, 3, none⟩ = some (.bool false) ∧ wx.cell? ⟨lb, lo + k * 4, none⟩ = some (.bool false) ∧ wx.cell? ⟨lb, lo + k * 4 + 2, none⟩ = some (.int .i64 se) ∧ wx.cell? ⟨vb, 1, none⟩ = some (.int .i64 ve)) (by kernel_rfl) HS1 (fun hHeld => ?_)
  refine tkH 0 ?_
  refine tkH 1 ?_
  refine tkH 2 ?_
  refine tkH 3 ?_
  refine tkH 4 ?_
  refine tkH 5 ?_
  refine tkH 6 ?_
  refine tkH 7 ?_
  refine tkH 8 ?_
  refine tkH 9 ?_
  refine tkH 10 ?_
  refine tkH 11 ?_
  refine tkH 12 ?_
  refine tkH 13 ?_
  refine tkH 14 ?_
  refine tkH 15 ?_
  refine tkH 16 ?_
  refine tkH 17 ?_
  refine tkH 18 ?_
  refine tkH 19 ?_
  refine skH 20 ?_
  refine skH 21 ?_
  refine skH 22 ?_
  refine skH 23 ?_
  refine skH 24 ?_
  refine skH 25 ?_
  refine skH 26 ?_
  refine skH 27 ?_
  refine tkH 28 ?_
  refine tkH 29 ?_
  refine skH 30 ?_
  refine tkH 31 ?_
  refine tkH 32 ?_
  refine tkH 33 ?_
  refine tkH 34 ?_
  refine rnH 35 fun K' hK => ?_
  go_simp
  refine koH hK HS2 fun hHeld => ?_
  clear hK K'
  refine wpAnyH_done (by kernel_rfl) ?_ _
  clear HS1 HS2
  exact md_row) : p := h
theorem md_other {p : Prop} (h : p := by
  go_wp2_with fail
  refine wp_region_held_drew (S := fun wx => wx.cell? ⟨rb, 0, none⟩ = some (.slice (some ⟨xb, 0, none⟩) n cx) ∧ wx.cell? ⟨xb, k, none⟩ = some (.pointer (some ⟨rdk, 0, none⟩)) ∧ wx.cell? ⟨rdk, 3, none⟩ = some (.bool false) ∧ wx.cell? ⟨lb, lo + k * 4, none⟩ = some (.bool true) ∧ wx.cell? ⟨lb, lo + k * 4 + 2, none⟩ = some (.int .i64 se) ∧ wx.cell? ⟨vb, 1, none⟩ = some (.int .i64 ve)) (by kernel_rfl) HS1 (fun hHeld => ?_)
  refine tkH 0 ?_
  refine tkH 1 ?_
  refine tkH 2 ?_
  refine tkH 3 ?_
  refine tkH 4 ?_
  refine tkH 5 ?_
  refine tkH 6 ?_
  refine tkH 7 ?_
  refine tkH 8 ?_
  refine tkH 9 ?_
  refine tkH 10 ?_
  refine tkH 11 ?_
  refine tkH 12 ?_
  refine tkH 13 ?_
  refine tkH 14 ?_
  refine tkH 15 ?_
  refine tkH 16 ?_
  refine tkH 17 ?_
  refine tkH 18 ?_
  refine tkH 19 ?_
  refine tkH 20 ?_
  refine tkH 21 ?_
  refine tkH 22 ?_
  refine tkH 23 ?_
  refine tkH 24 ?_
  refine tkH 25 ?_
  refine tkH 26 ?_
  refine tkH 27 ?_
  refine tkH 28 ?_
  refine tkH 29 ?_
  refine skH 30 ?_
  refine tkH 31 ?_
  refine tkH 32 ?_
  refine tkH 33 ?_
  refine tkH 34 ?_
  refine rnH 35 fun K' hK => ?_
  go_simp
  refine koH hK HS2 fun hHeld => ?_
  clear hK K'
  refine wpAnyH_done (by kernel_rfl) ?_ _
  clear HS1 HS2
  exact md_row) : p := h
theorem md_same {p : Prop} (h : p := by
  go_wp2_with fail
  refine wp_region_held_drew (S := fun wx => wx.cell? ⟨rb, 0, none⟩ = some (.slice (some ⟨xb, 0, none⟩) n cx) ∧ wx.cell? ⟨xb, k, none⟩ = some (.pointer (some ⟨rdk, 0, none⟩)) ∧ wx.cell? ⟨rdk, 3, none⟩ = some (.bool false) ∧ wx.cell? ⟨lb, lo + k * 4, none⟩ = some (.bool true) ∧ wx.cell? ⟨lb, lo + k * 4 + 2, none⟩ = some (.int .i64 ve) ∧ wx.cell? ⟨vb, 1, none⟩ = some (.int .i64 ve)) (by kernel_rfl) HS1 (fun hHeld => ?_)
  refine tkH 0 ?_
  refine tkH 1 ?_
  refine tkH 2 ?_
  refine tkH 3 ?_
  refine tkH 4 ?_
  refine tkH 5 ?_
  refine tkH 6 ?_
  refine tkH 7 ?_
  refine tkH 8 ?_
  refine tkH 9 ?_
  refine tkH 10 ?_
  refine tkH 11 ?_
  refine tkH 12 ?_
  refine tkH 13 ?_
  refine tkH 14 ?_
  refine tkH 15 ?_
  refine tkH 16 ?_
  refine tkH 17 ?_
  refine tkH 18 ?_
  refine tkH 19 ?_
  refine tkH 20 ?_
  refine tkH 21 ?_
  refine tkH 22 ?_
  refine tkH 23 ?_
  refine tkH 24 ?_
  refine tkH 25 ?_
  refine tkH 26 ?_
  refine tkH 27 ?_
  refine tkH 28 ?_
  refine tkH 29 ?_
  refine tkH 30 ?_
  refine tkH 31 ?_
  refine tkH 32 ?_
  refine tkH 33 ?_
  refine tkH 34 ?_
  refine rnH 35 fun K' hK => ?_
  go_simp
  refine koH hK HS2 fun hHeld => ?_
  clear hK K'
  refine wpAnyH_done (by kernel_rfl) ?_ _
  clear HS1 HS2
  exact md_row) : p := h
set_option maxRecDepth 100000 in
set_option maxHeartbeats 4000000 in
theorem rmend17_any {w : World} {rb : Nat} {HR GA : Nat → Prop} {a : ArS} (h : RaAt w rb HR GA a) {ad : Int} {u : Value} {K : List Bool} (hk : RdB w u K) :
    Calls Tryz.prog 19 #[.pointer (some ⟨rb, 0, none⟩), u, .int .i64 ad] w (LeavesRA w rb HR GA (mdS a K ad) (.tuple #[.int .i64 (mdN a K ad), .int .i64 (mdX a K ad)])) := by
  have d2 := h.ok17.d2
  have KS := rsaid17_any h (ad := ad)
  have HK : Hid (RdB w u K) := hk
  have HA : Hid (RaAt w rb HR GA a) := h
  obtain ⟨ua, uc, eu⟩ := hk.form
  subst eu
  clear h hk
  go_enter Tryz.func19, Tryz.ntmps19
  go_wp2_with fail
  refine KS.mono ?_
  rintro _ w1 (⟨ho, rfl, b1⟩ | ⟨ho, L, v, rfl, O1, eL, b1⟩)
  · have FIN : Hid (LeavesRA w rb HR GA (mdS a K ad) (.tuple #[.int .i64 (mdN a K ad), .int .i64 (mdX a K ad)]) (.returned (.tuple #[.int .i64 0, .int .i64 130])) w1) := by
      have e : mdP a K ad = ⟨true, 0, a⟩ := if_pos ho
      show LeavesRA _ _ _ _ _ _ _ _
      unfold mdS mdN mdX
      rw [e]
      exact ⟨rfl, HA.out.below b1, Below.turnG b1 HR⟩
    clear KS b1
    go_wp2
    exact bodyPost_ret (v := .tuple #[.int .i64 0, .int .i64 130]) (by simp [results, Tryz.results19, go_sem]) rfl FIN.out
  have lL : L.length = a.D.length := by
    have := congrArg List.length eL
    rwa [sL_length, sayL_length] at this
  obtain ⟨n, hn⟩ : ∃ n, Hid (n = a.D.length) := ⟨_, rfl⟩
  have HL : Hid (L.length = n) := by show _ = _; rw [lL, hn.out]
  rw [← hn.out] at d2
  have R1 := O1.rd (by rw [lL, ← hn.out]; omega)
  have KV := rvote17_any R1 (by rw [lL, ← hn.out]; omega) (HK.out.below b1)
  have EL : Hid (sL L = sayL a ad) := eL
  rw [eL] at KV
  have HR1 : Hid (RdSa w1 v L) := R1
  obtain ⟨la, lc, el⟩ := R1.form
  rw [lL, ← hn.out] at el
  subst el
  clear KS eL O1 R1 lL
  go_wp2_with fail
  refine KV.mono ?_
  rintro _ w2 ⟨vd, rfl, RV, OV, b2⟩
  clear KV OV
  obtain ⟨V, hV⟩ : ∃ V, Hid (V = votS (sayL a ad) K) := ⟨_, rfl⟩
  rw [← hV.out] at RV ⊢
  obtain ⟨vh, ve, vda, vco, vw⟩ := V
  obtain ⟨da, dc, ed⟩ := RV.form
  simp only at ed RV
  subst ed
  rw [show aggV ⟨vh, ve, vda, vco, vw⟩ (.slice da vda.length dc) = .agg #[.bool vh, .int .i64 ve, .slice da vda.length dc, .int .i64 ((vco : Nat) : Int), .bool vw] from rfl]
  obtain ⟨w3, hw3⟩ : ∃ w3, w3 = w2.alloc (.cells #[.bool vh, .int .i64 ve, .slice da vda.length dc, .int .i64 ((vco : Nat) : Int), .bool vw] 45) := ⟨_, rfl⟩
  have b3 : Below w2.heap.size w2 w3 := by rw [hw3]; exact belR _ _
  have B3 : Below w.heap.size w w3 := (b1.step16 b2 b1.size).step16 b3 (Nat.le_trans b1.size b2.size)
  cases vh with
  | false =>
    have FIN : Hid (LeavesRA w rb HR GA (mdS a K ad) (.tuple #[.int .i64 (mdN a K ad), .int .i64 (mdX a K ad)]) (.returned (.tuple #[.int .i64 0, .int .i64 0])) w3) := by
      have e : mdP a K ad = ⟨false, 0, a⟩ := by
        unfold mdP
        rw [if_neg (by rw [ho]; decide), ← hV.out]
        rfl
      show LeavesRA _ _ _ _ _ _ _ _
      unfold mdS mdN mdX
      rw [e]
      exact ⟨rfl, HA.out.below B3, Below.turnG B3 HR⟩
    rw [hw3] at FIN
    clear RV B3 b1 b2 b3 hw3 hV
    go_wp2
    exact bodyPost_ret (v := .tuple #[.int .i64 0, .int .i64 0]) (by simp [results, Tryz.results19, go_sem]) rfl FIN.out
  | true =>
    have TOP : Hid (Top (sayL a ad) (sayL a ad).length ve vda) := by
      rcases vo_or (sayL a ad) with q | ⟨e, d, q⟩
      · have := vo_none q K
        rw [← hV.out] at this
        cases this
      · have := vo_top q K
        rw [← hV.out] at this
        simp only [VoS.mk.injEq] at this
        obtain ⟨_, rfl, rfl, _⟩ := this
        exact q
    have OS := top_se TOP.out
    have EM : Hid (mdP a K ad = puV a ad (pkS ad.toNat ve.toNat vda) (toV a ad ve vda) a.D.length) := md_top ho TOP.out K
    obtain ⟨vb, hvb⟩ : ∃ vb, Hid (vb = w2.heap.size) := ⟨_, rfl⟩
    have s3 : w3.heap.size = w2.heap.size + 1 := by rw [hw3]; simp
    have V3 : ∀ j, w3.cell? ⟨vb, j, none⟩ = #[Value.bool true, .int .i64 ve, .slice da vda.length dc, .int .i64 ((vco : Nat) : Int), .bool vw][j]? := fun j => by rw [hw3, hvb.out]; exact World.cell?_alloc_new _ _ _ _
    have mk1 := run_make_row' (P := Tryz.prog) 33 4 (.bool false) 1 Tryz.underlying33 info_bool17 rfl .i64 .i64 n (by omega) (by omega) w3
    obtain ⟨w4, hw4⟩ : ∃ w4, w4 = w3.alloc (Obj.cells (madeCells #[Value.bool false] n) 4) := ⟨_, rfl⟩
    have b4 : Below w3.heap.size w3 w4 := by rw [hw4]; exact belR _ _
    have hur : w4.rowIs w3.heap.size 4 n (fun _ => .bool false) := by rw [hw4]; exact World.rowIs_made _ _ _ _
    obtain ⟨g, hg⟩ : ∃ g, Hid (g = w3.heap.size) := ⟨_, rfl⟩
    rw [← hw4, ← hg.out] at mk1
    rw [← hg.out] at hur
    have B4 : Below w.heap.size w w4 := B3.step16 b4 B3.size
    have Bw14 : Below w1.heap.size w1 w4 := (b2.step16 b3 b2.size).step16 b4 (Nat.le_trans b2.size b3.size)
    have HB : Hid (∀ W, Only g w4 W → Below w3.heap.size w3 W) := fun W o => b4.trans (o.below (by rw [hg.out]; exact Nat.le_refl _))
    have HBw : Hid (∀ W, Only g w4 W → Below w.heap.size w W) := fun W o => B3.step16 (HB.out W o) B3.size
    have HB1 : Hid (∀ W, Only g w4 W → Below w1.heap.size w1 W) := fun W o => (b2.step16 b3 b2.size).step16 (HB.out W o) (Nat.le_trans b2.size b3.size)
    have ng : Hid (¬ HR g) := fun q => by have := HA.out.lt17 g q; have := hg.out; have := B3.size; omega
    have HV3 : Hid (∀ W, Only g w4 W → ∀ j, W.cell? ⟨vb, j, none⟩ = #[Value.bool true, .int .i64 ve, .slice da vda.length dc, .int .i64 ((vco : Nat) : Int), .bool vw][j]?) := fun W o j => ((HB.out W o).cell (p := ⟨vb, j, none⟩) (by show vb < _; rw [hvb.out, s3]; omega)).trans (V3 j)
    have HB1g : Hid (w1.heap.size ≤ g) := by show _ ≤ _; rw [hg.out]; exact Nat.le_trans b2.size b3.size
    have HBg : Hid (w.heap.size ≤ g ∧ vb < g) := ⟨by rw [hg.out]; exact B3.size, by rw [hg.out, hvb.out, s3]; omega⟩
    have HRV : Hid (Rd w1 (.slice da vda.length dc) vda) := RV
    have START : Hid (w4.rowIs g 4 n (fun j => .bool (if j < 0 then toV a ad ve vda j else false))) := hur.congr fun j _ => by rw [if_neg (by omega)]
    have q0 := V3 0
    simp at q0
    rw [hw3, hvb.out] at q0
    rw [hw3] at mk1
    go_wp2_with fail
    rw [← hvb.out]
    try rw [← hw3]
    try rw [← hw4]
    clear mk1 q0 hw3 hw4 b1 b2 b3 b4 B3 B4 Bw14 hur V3 s3 RV hV
    go_loopw [12] (fun i wr => ∃ k : Nat, k ≤ n ∧ i = .int .i64 (k : Int) ∧ wr.rowIs g 4 n (fun j => .bool (if j < k then toV a ad ve vda j else false)) ∧ Hid (Only g w4 wr)) (fun i _ => n - (intOf i).toNat)
    case atStart => exact ⟨0, Nat.zero_le _, rfl, START.out, Only.refl _ _⟩
    case round =>
      clear START
      obtain ⟨k, hk, rfl, hr, hOn⟩ := hrel
      have BW := HBw.out wr hOn.out
      by_cases hlt : k < n
      · have hlt' : (k : Int) < (n : Int) := by omega
        obtain ⟨lb, lo, ela, llb, z⟩ := (HR1.out.below (HB1.out wr hOn.out)).at (i := k) (by rw [HL.out]; exact hlt)
        subst ela
        have ES : Hid ((L.getD k default).s = sayV a ad k) := by show _ = _; rw [← sL_at, EL.out, sF_say (by rw [← hn.out]; exact hlt)]
        generalize L.getD k default = c at z ES
        obtain ⟨⟨si, sn, se, sd⟩, vs⟩ := c
        obtain ⟨xb, cx, rd, c0, lr, lx, dk⟩ := (HA.out).at17
        obtain ⟨ld, x0, x3⟩ := dk k (by rw [← hn.out]; exact hlt)
        have ED : Hid (toV a ad ve vda k = (!(diA a (k : Int)).dead && !isV ⟨si, sn, se, sd⟩ ve vda)) := by show _ = _; unfold toV; rw [← ES.out]
        rw [← hn.out] at c0
        generalize (diA a (k : Int)).dead = dd at x3 ED
        generalize rd k = rdk at ld x0 x3
        obtain ⟨va, vc, ev⟩ := z.rd.form
        simp only at ev
        subst ev
        have r1 : Rd wr (.slice va sd.length vc) sd := z.rd
        have r2 : Rd wr (.slice da vda.length dc) vda := HRV.out.below (HB1.out wr hOn.out)
        have z3 : wr.cell? ⟨lb, lo + k * 4 + 3, none⟩ = some (.slice va sd.length vc) := z.c3
        have v2 := HV3.out wr hOn.out 2
        simp at v2
        have FX : Hid (∀ m, (wr.drewN m).rowIs g 4 n (fun j => .bool (if j < k then toV a ad ve vda j else false)) ∧ Only g w4 (wr.drewN m) ∧ ((wr.drewN m).cell? ⟨rb, 0, none⟩ = some (.slice (some ⟨xb, 0, none⟩) n cx) ∧ (wr.drewN m).cell? ⟨xb, k, none⟩ = some (.pointer (some ⟨rdk, 0, none⟩)) ∧ (wr.drewN m).cell? ⟨rdk, 3, none⟩ = some (.bool dd) ∧ (wr.drewN m).cell? ⟨lb, lo + k * 4, none⟩ = some (.bool si) ∧ (wr.drewN m).cell? ⟨lb, lo + k * 4 + 2, none⟩ = some (.int .i64 se) ∧ (wr.drewN m).cell? ⟨vb, 1, none⟩ = some (.int .i64 ve))) := fun m => by
          have v1 := HV3.out wr hOn.out 1
          simp at v1
          exact ⟨hr, hOn.out.drewN m, (BW.cell (p := ⟨rb, 0, none⟩) lr).trans c0, (BW.cell (p := ⟨xb, k, none⟩) lx).trans x0, (BW.cell (p := ⟨rdk, 3, none⟩) ld).trans x3, z.c0, z.c2, v1⟩
        have NG : Hid (rb ≠ g ∧ xb ≠ g ∧ rdk ≠ g ∧ vb ≠ g) := by
          have h1 := HBg.out
          refine ⟨by omega, by omega, by omega, by omega⟩
        have NL : Hid (lb ≠ g) := by
          obtain ⟨lb', lo', e', ll', _⟩ := HR1.out.at (i := k) (by rw [HL.out]; exact hlt)
          simp at e'
          have h1 := HB1g.out
          show lb ≠ g
          omega
        obtain ⟨sb, hsb⟩ : ∃ sb, Hid (sb = sameB sd vda) := ⟨_, rfl⟩
        have KSm : Hid (∀ m, Calls Tryz.prog 42 #[.slice va sd.length vc, .slice da vda.length dc] (wr.drewN m) fun e w' => e = .returned (.bool sb) ∧ ∃ n, w' = (wr.drewN m).drewN n) := fun m => by rw [hsb.out]; exact same_any (r1.drewN m) (r2.drewN m)
        have ET : Hid (toV a ad ve vda k = (!dd && !(si && (se == ve) && sb))) := by
          show _ = _
          rw [ED.out, hsb.out]
          unfold isV sameB
          rw [show (sd == vda) = decide (sd = vda) by rw [Bool.eq_iff_iff]; simp]
        clear z ES ED r1 r2 c0 x0 x3 dk hr hOn BW hsb
        go_wp2_with fail
        go_quiet ((go_at_call 42; go_loud (exact Calls.quiet_of (KSm.out _))))
        obtain ⟨hr, hOn, HS1⟩ := FX.out nq
        clear FX KSm z3 v2
        generalize wr.drewN nq = Wd at hr hOn HS1
        have cq := hr.drew.cell hlt
        have fq := hr.drew.frozen k
        have SET : Hid (∀ x, toV a ad ve vda k = x → (Wd.drew.setCell ⟨g, k, none⟩ (.bool x)).rowIs g 4 n (fun j => .bool (if j < k + 1 then toV a ad ve vda j else false))) := fun x hx => (hr.drew.set k (.bool x)).congr fun j hj => by
          by_cases e : j = k
          · rw [if_pos e, if_pos (by omega), e, hx]
          · rw [if_neg e]
            by_cases e2 : j < k
            · rw [if_pos e2, if_pos (by omega)]
            · rw [if_neg e2, if_neg (by omega)]
        have ON : Hid (∀ x, Only g w4 (Wd.drew.setCell ⟨g, k, none⟩ (.bool x))) := fun x => hOn.drew.setCell _ _
        have S2 : Hid (∀ x, ((Wd.drew.setCell ⟨g, k, none⟩ (.bool x)).cell? ⟨rb, 0, none⟩ = some (.slice (some ⟨xb, 0, none⟩) n cx) ∧ (Wd.drew.setCell ⟨g, k, none⟩ (.bool x)).cell? ⟨xb, k, none⟩ = some (.pointer (some ⟨rdk, 0, none⟩)) ∧ (Wd.drew.setCell ⟨g, k, none⟩ (.bool x)).cell? ⟨rdk, 3, none⟩ = some (.bool dd) ∧ (Wd.drew.setCell ⟨g, k, none⟩ (.bool x)).cell? ⟨lb, lo + k * 4, none⟩ = some (.bool si) ∧ (Wd.drew.setCell ⟨g, k, none⟩ (.bool x)).cell? ⟨lb, lo + k * 4 + 2, none⟩ = some (.int .i64 se) ∧ (Wd.drew.setCell ⟨g, k, none⟩ (.bool x)).cell? ⟨vb, 1, none⟩ = some (.int .i64 ve))) := fun x => by
          have o : Only g Wd.drew (Wd.drew.setCell ⟨g, k, none⟩ (.bool x)) := (Only.refl _ _).setCell _ _
          obtain ⟨n1, n2, n3, n4⟩ := NG.out
          exact ⟨(o.cell (p := ⟨rb, 0, none⟩) n1).trans HS1.1, (o.cell (p := ⟨xb, k, none⟩) n2).trans HS1.2.1, (o.cell (p := ⟨rdk, 3, none⟩) n3).trans HS1.2.2.1, (o.cell (p := ⟨lb, lo + k * 4, none⟩) NL.out).trans HS1.2.2.2.1, (o.cell (p := ⟨lb, lo + k * 4 + 2, none⟩) NL.out).trans HS1.2.2.2.2.1, (o.cell (p := ⟨vb, 1, none⟩) n4).trans HS1.2.2.2.2.2⟩
        clear hr hOn
        cases dd with
        | true =>
          have RN : Hid _ := SET.out false (by rw [ET.out]; rfl)
          have OnN : Hid _ := ON.out false
          have HS2 := S2.out false
          clear SET ON S2 ET
          exact md_dead
        | false =>
          cases si with
          | false =>
            have RN : Hid _ := SET.out true (by rw [ET.out]; rfl)
            have OnN : Hid _ := ON.out true
            have HS2 := S2.out true
            clear SET ON S2 ET
            exact md_not
          | true =>
            by_cases qe : ve = se
            rotate_left
            · have qe' : (se == ve) = false := beq_eq_false_iff_ne.2 fun q => qe q.symm
              have RN : Hid _ := SET.out true (by rw [ET.out, qe']; simp)
              have OnN : Hid _ := ON.out true
              have HS2 := S2.out true
              clear SET ON S2 ET
              exact md_other
            · subst qe
              cases sb with
              | true =>
                have RN : Hid _ := SET.out false (by rw [ET.out]; simp)
                have OnN : Hid _ := ON.out false
                have HS2 := S2.out false
                clear SET ON S2 ET
                exact md_same
              | false =>
                have RN : Hid _ := SET.out true (by rw [ET.out]; simp)
                have OnN : Hid _ := ON.out true
                have HS2 := S2.out true
                clear SET ON S2 ET
                exact md_same
      · obtain rfl : k = n := by omega
        have hge : ¬ (k : Int) < (k : Int) := by omega
        have hT : ∀ W, TurnG HR wr W → RdB W (.slice (some ⟨g, 0, none⟩) k k) ((List.range k).map fun j => if j < k then toV a ad ve vda j else false) := fun W t => row_rdB (hr.of_block (t.block g hr.lt ng.out)) (by omega)
        have KP := rput17_any (HA.out.below BW) (ad := ad) (ep := ve) (HRV.out.below (HB1.out wr hOn.out)) (Nat.le_trans OS.2.2 (by decide)) hT (by rw [← hn.out]; simp)
        have eP : ppP a ad ve vda (hb ((List.range k).map fun j => if j < k then toV a ad ve vda j else false)) = mdP a K ad := by
          rw [EM.out]
          unfold ppP
          rw [if_pos OS]
          exact puV_congr (n := a.D.length) (fun i hi => by rw [hb_range (by rw [hn.out]; exact hi), if_pos (by rw [hn.out]; exact hi)]) _ (Nat.le_refl _)
        have eX : ppX a ad ve vda (hb ((List.range k).map fun j => if j < k then toV a ad ve vda j else false)) = mdX a K ad := by unfold ppX mdX; rw [if_pos OS, eP]
        rw [eP, eX] at KP
        have TW : Hid (TurnG HR w wr) := Below.turnG BW HR
        have v1 := HV3.out wr hOn.out 1
        have v2 := HV3.out wr hOn.out 2
        simp at v1 v2
        clear hT eP eX hr hOn BW
        go_wp2_with fail
        refine KP.mono ?_
        rintro _ w5 ⟨rfl, R5, T5⟩
        have FIN : Hid (LeavesRA w rb HR GA (mdS a K ad) (.tuple #[.int .i64 (mdN a K ad), .int .i64 (mdX a K ad)]) (.returned (.tuple #[.int .i64 (mdN a K ad), .int .i64 (mdX a K ad)])) w5) := ⟨rfl, R5, TW.out.trans T5⟩
        rw [show puN (mdP a K ad) = mdN a K ad from rfl]
        clear KP R5 T5 v1 v2
        go_wp2
        exact bodyPost_ret (v := .tuple #[.int .i64 (mdN a K ad), .int .i64 (mdX a K ad)]) (by simp [results, Tryz.results19, go_sem]) rfl FIN.out
end Go.Proofs.YtgahaebfgmbckaaGreat.Gf

namespace Go.Proofs.YtgahaebfgmbckaaGreat.Gf
set_option linter.unusedVariables false
set_option linter.unusedSimpArgs false
open Go.RowKit
def SaysV (p : Prop) (w : World) (e : Ending) (w' : World) : Prop := ∃ x : Bool, e = .returned (.bool x) ∧ (x = true ↔ p) ∧ Below w.heap.size w w'
theorem SaysV.no {p : Prop} (h : ¬ p) {w w' : World} {x : Bool} (e : x = false) (b : Below w.heap.size w w') : SaysV p w (.returned (.bool x)) w' := ⟨x, rfl, ⟨fun q => (by rw [e] at q; cases q), fun q => absurd q h⟩, b⟩
theorem SaysV.yes {p : Prop} (h : p) {w w' : World} {x : Bool} (e : x = true) (b : Below w.heap.size w w') : SaysV p w (.returned (.bool x)) w' := ⟨x, rfl, ⟨fun _ => h, fun _ => e⟩, b⟩
theorem sv_no {p : Prop} (h : p := by
  clear EQ
  go_wp2
  go_ret
  exact SaysV.no N.out rfl FIN.out) : p := h
set_option maxRecDepth 100000 in
set_option maxHeartbeats 2000000 in
theorem rsame17_any {w : World} {V U : VoS} {vd ud : Value} (h : Rd w vd V.da) (k : Rd w ud U.da) : Calls Tryz.prog 18 #[aggV V vd, aggV U ud] w (SaysV (V = U) w) := by
  obtain ⟨vh, ve, vda, vco, vw⟩ := V
  obtain ⟨uh, ue, uda, uco, uw⟩ := U
  simp only at h k
  obtain ⟨w2, hw2⟩ : ∃ w2, w2 = (w.alloc (.cells #[.bool vh, .int .i64 ve, vd, .int .i64 ((vco : Nat) : Int), .bool vw] 45)).alloc (.cells #[.bool uh, .int .i64 ue, ud, .int .i64 ((uco : Nat) : Int), .bool uw] 45) := ⟨_, rfl⟩
  have B2 : Below w.heap.size w w2 := by rw [hw2]; exact (belR _ _).step16 (belR _ _) (belR _ _).size
  have EQ : Hid ((⟨vh, ve, vda, vco, vw⟩ : VoS) = ⟨uh, ue, uda, uco, uw⟩ ↔ (vda = uda ∧ vh = uh ∧ ve = ue ∧ vco = uco ∧ vw = uw)) := by
    show _ ↔ _
    rw [VoS.mk.injEq]
    exact ⟨fun ⟨a, b, c, d, e⟩ => ⟨c, a, b, d, e⟩, fun ⟨c, a, b, d, e⟩ => ⟨a, b, c, d, e⟩⟩
  have KS := same_b (h.below B2) (k.below B2)
  rw [hw2] at KS B2
  obtain ⟨va, vc, ev⟩ := h.form
  subst ev
  obtain ⟨ua, uc, eu⟩ := k.form
  subst eu
  obtain ⟨sb, hsb⟩ : ∃ sb, Hid (sb = sameB vda uda) := ⟨_, rfl⟩
  rw [← hsb.out] at KS
  have SB : Hid (sb = true ↔ vda = uda) := by show _ ↔ _; rw [hsb.out]; unfold sameB; exact decide_eq_true_iff
  show Calls Tryz.prog 18 #[.agg #[.bool vh, .int .i64 ve, .slice va vda.length vc, .int .i64 ((vco : Nat) : Int), .bool vw], .agg #[.bool uh, .int .i64 ue, .slice ua uda.length uc, .int .i64 ((uco : Nat) : Int), .bool uw]] w _
  generalize ((⟨vh, ve, vda, vco, vw⟩ : VoS) = ⟨uh, ue, uda, uco, uw⟩) = PP at EQ ⊢
  clear h k hw2 hsb
  go_enter Tryz.func18, Tryz.ntmps18
  go_wp2_with fail
  refine KS.mono ?_
  rintro _ w3 ⟨rfl, B3⟩
  clear KS
  have FIN : Hid (Below w.heap.size w w3) := B2.step16 B3 B2.size
  have e1 : w.heap.size < (w.alloc (.cells #[.bool vh, .int .i64 ve, .slice va vda.length vc, .int .i64 ((vco : Nat) : Int), .bool vw] 45)).heap.size := by simp
  have CV : ∀ j, w3.cell? ⟨w.heap.size, j, none⟩ = #[Value.bool vh, .int .i64 ve, .slice va vda.length vc, .int .i64 ((vco : Nat) : Int), .bool vw][j]? := fun j => by
    rw [B3.cell (p := ⟨w.heap.size, j, none⟩) (by simp; omega), World.cell?_alloc_lt _ _ _ (by simp), World.cell?_alloc_new]
  have CU : ∀ j, w3.cell? ⟨w.heap.size + 1, j, none⟩ = #[Value.bool uh, .int .i64 ue, .slice ua uda.length uc, .int .i64 ((uco : Nat) : Int), .bool uw][j]? := fun j => by
    rw [B3.cell (p := ⟨w.heap.size + 1, j, none⟩) (by simp), show w.heap.size + 1 = (w.alloc (.cells #[.bool vh, .int .i64 ve, .slice va vda.length vc, .int .i64 ((vco : Nat) : Int), .bool vw] 45)).heap.size by simp, World.cell?_alloc_new]
  have v0 := CV 0
  have v1 := CV 1
  have v3 := CV 3
  have v4 := CV 4
  have u0 := CU 0
  have u1 := CU 1
  have u3 := CU 3
  have u4 := CU 4
  simp at v0 v1 v3 v4 u0 u1 u3 u4
  clear CV CU B2 B3 e1
  cases sb with
  | false =>
    have N : Hid (¬ PP) := fun q => by have := SB.out.2 (EQ.out.1 q).1; cases this
    exact sv_no
  | true =>
    have qd := SB.out.1 rfl
    by_cases q1 : vh = uh
    rotate_left
    · have N : Hid (¬ PP) := fun q => q1 (EQ.out.1 q).2.1
      have q1' : (vh == uh) = false := beq_eq_false_iff_ne.2 q1
      clear qd
      exact sv_no
    by_cases q2 : ve = ue
    rotate_left
    · have N : Hid (¬ PP) := fun q => q2 (EQ.out.1 q).2.2.1
      have q2' : (ve == ue) = false := beq_eq_false_iff_ne.2 q2
      have q1' : (vh == uh) = true := beq_iff_eq.2 q1
      clear qd
      exact sv_no
    by_cases q3 : vco = uco
    rotate_left
    · have N : Hid (¬ PP) := fun q => q3 (EQ.out.1 q).2.2.2.1
      have q3' : ((vco : Int) == (uco : Int)) = false := beq_eq_false_iff_ne.2 (by omega)
      have q1' : (vh == uh) = true := beq_iff_eq.2 q1
      have q2' : (ve == ue) = true := beq_iff_eq.2 q2
      clear qd
      exact sv_no
    by_cases q4 : vw = uw
    rotate_left
    · have N : Hid (¬ PP) := fun q => q4 (EQ.out.1 q).2.2.2.2
      have q4' : (vw == uw) = false := beq_eq_false_iff_ne.2 q4
      clear qd
      exact sv_no
    · have Y : Hid PP := EQ.out.2 ⟨qd, q1, q2, q3, q4⟩
      subst q1 q2 q3 q4
      clear EQ qd
      go_wp2
      go_ret
      exact SaysV.yes Y.out (by simp) FIN.out
end Go.Proofs.YtgahaebfgmbckaaGreat.Gf
