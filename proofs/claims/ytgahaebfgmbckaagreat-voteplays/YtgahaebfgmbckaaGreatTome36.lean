/- TEXTS JOINED: VoC, VoAw. -/
import Derived.Test.YtgahaebfgmbckaaGreatTome35
namespace Go.Proofs.YtgahaebfgmbckaaGreat.Gf
set_option linter.unusedVariables false
set_option linter.unusedSimpArgs false
open Go.RowKit Go.Shelf
set_option maxRecDepth 100000 in
set_option maxHeartbeats 2000000 in
theorem vwrite17_any {w : World} {ab : Nat} {GA : Nat → Prop} {a : ArS} (h : ArAt w ab GA a) {ad ep : Int} (ha : (Lit.int .i64 ad).wf = true) {v : Value} {p : List UInt8} (hp : Rd w v p) (hpl : p.length ≤ 100000) :
    Calls Tryz.prog 10 #[.pointer (some ⟨ab, 0, none⟩), .int .i64 ad, .int .i64 ep, v] w (LeavesA w ab GA (wvS a ad ep p) (.tuple #[.int .i64 (wvN a ad ep p), .int .i64 (wvX a ad ep p)])) := by
  have KP := spack_far (a := ad) (e := ep) hp
  obtain ⟨va, vc, ev⟩ := hp.form
  subst ev
  have lG := h.lt
  by_cases ho : OkSe ad ep p.length
  rotate_left
  · rw [(pa_not ho).1, (pa_not ho).2] at KP
    have e1 : wvP a ad ep p = ⟨false, 0, a⟩ := if_neg ho
    have FIN : Hid (∀ w1, Below w.heap.size w w1 → LeavesA w ab GA (wvS a ad ep p) (.tuple #[.int .i64 (wvN a ad ep p), .int .i64 (wvX a ad ep p)]) (.returned (.tuple #[.int .i64 0, .int .i64 1])) w1) := fun w1 b => by
      have e2 : wvX a ad ep p = 1 := if_neg ho
      unfold wvS wvN
      rw [e2, e1]
      exact ⟨rfl, GA, h.below b, Grew.of_below b⟩
    clear hp h e1 ho lG
    go_enter Tryz.func10, Tryz.ntmps10
    go_wp2_with fail
    refine KP.mono ?_
    rintro _ w1 ⟨s, rfl, R1, F1, B1⟩
    obtain ⟨sa, sc, es⟩ := R1.form
    subst es
    have F := FIN.out w1 B1
    have F' : Hid _ := F
    clear KP R1 F1 B1 FIN F
    go_wp2
    exact bodyPost_ret (v := .tuple #[.int .i64 0, .int .i64 1]) (by simp [results, Tryz.results10, go_sem]) rfl F'.out
  · rw [(pa_ok ho).1, (pa_ok ho).2] at KP
    obtain ⟨b, hb0⟩ : ∃ b, Hid (b = pkS ad.toNat ep.toNat p) := ⟨_, rfl⟩
    rw [← hb0.out] at KP
    obtain ⟨n, hn⟩ : ∃ n, Hid (n = a.D.length) := ⟨_, rfl⟩
    have d2 : n ≤ 32 := by rw [hn.out]; exact h.ok.d2
    have eP : Hid (puW a ad b (List.range n) n = wvP a ad ep p) := by
      show _ = _
      unfold wvP
      rw [if_pos ho, ← hb0.out, ← hn.out, puW_to n, range_all, List.length_range]
    have eX : Hid (wvX a ad ep p = puE (wvP a ad ep p)) := by show _ = _; unfold wvX; rw [if_pos ho]
    have HA : Hid (ArAt w ab GA a) := h
    clear hp h ho hb0
    go_enter Tryz.func10, Tryz.ntmps10
    go_wp2_with fail
    refine KP.mono ?_
    rintro _ w1 ⟨s, rfl, R1, F1, B1⟩
    clear KP
    obtain ⟨sa, sc, es⟩ := R1.form
    have hA1 := HA.out.below B1
    have KA := vall_any hA1
    rw [← hn.out] at KA
    have HP : Hid (∀ W, TurnG GA w1 W → Rd W s b) := fun W t => R1.turnG (F1.apart lG) t
    subst es
    go_wp2_with fail
    refine KA.mono ?_
    rintro _ w2 ⟨g, rfl, rl, sl, B2⟩
    clear KA
    have hA2 := hA1.below B2
    have ng : ¬ GA g := fun e => by have := lG g e; have := B1.size; omega
    have KW := vwrite_any hA2 ha (pv := .slice sa b.length sc) (b := b) (fun W t => HP.out W ((Below.turnG B2 GA).trans t)) (da := some ⟨g, 0, none⟩) (dc := n) (n := n) (l := List.range n) (by simp) (by omega) (fun i hi => by simp [List.getD, hi]; omega) (fun W t => row_rdI (by simp) (rl.of_block (t.block g rl.lt ng)) (fun i hi => by simp [List.getD, hi]) (by omega))
    rw [eP.out] at KW
    have B12 := B1.step16 B2 B1.size
    clear hA1 hA2 ng rl sl R1 F1
    go_wp2_with fail
    refine KW.mono ?_
    rintro _ w3 ⟨rfl, GA', A3, g3⟩
    have F : Hid (LeavesA w ab GA (wvS a ad ep p) (.tuple #[.int .i64 (wvN a ad ep p), .int .i64 (wvX a ad ep p)]) (.returned (.tuple #[.int .i64 (puN (wvP a ad ep p)), .int .i64 (puE (wvP a ad ep p))])) w3) := by
      refine ⟨by rw [eX.out]; rfl, GA', A3, (Grew.of_below B12).trans g3⟩
    clear KW A3 g3 B1 B2 B12 eX eP
    go_wp2
    exact bodyPost_ret (v := .tuple #[.int .i64 (puN (wvP a ad ep p)), .int .i64 (puE (wvP a ad ep p))]) (by simp [results, Tryz.results10, go_sem]) rfl F.out
theorem md17_off {a : ArS} {K : List Bool} {ad : Int} (h : a.off = true) : mdP a K ad = ⟨true, 0, a⟩ := if_pos h
theorem md17_none {a : ArS} {K : List Bool} {ad : Int} (h : a.off = false) (q : ¬ 0 < elN (sayL a ad)) : mdP a K ad = ⟨false, 0, a⟩ := by
  unfold mdP
  rw [if_neg (by rw [h]; decide), el_has, if_neg (by rw [decide_eq_true_eq]; exact q)]
theorem md17_some {a : ArS} {K : List Bool} {ad : Int} (h : a.off = false) (q : 0 < elN (sayL a ad)) : mdP a K ad = puV a ad (pkS ad.toNat (elE (sayL a ad)).toNat (elD (sayL a ad))) (toV a ad (elE (sayL a ad)) (elD (sayL a ad))) a.D.length := by
  unfold mdP
  rw [if_neg (by rw [h]; decide), if_pos (by rw [el_has]; exact decide_eq_true q), vot_same (sayL a ad) K]
theorem el_ok {a : ArS} {ad : Int} (q : 0 < elN (sayL a ad)) : OkSe ad (elE (sayL a ad)) (elD (sayL a ad)).length := by
  rcases vo_or (sayL a ad) with h | ⟨e, d, h⟩
  · exfalso
    unfold elN at q
    rw [vo_none h []] at q
    exact absurd q (Nat.lt_irrefl 0)
  · have e1 : elE (sayL a ad) = e := by unfold elE; rw [vo_top h []]
    have e2 : elD (sayL a ad) = d := by unfold elD; rw [vo_top h []]
    rw [e1, e2]
    exact top_se h
set_option maxRecDepth 100000 in
set_option maxHeartbeats 2000000 in
theorem vmend17_any {w : World} {ab : Nat} {GA : Nat → Prop} {a : ArS} (h : ArAt w ab GA a) {ad : Int} (ha : (Lit.int .i64 ad).wf = true) {u : Value} {K : List Bool} (hk : RdB w u K) :
    Calls Tryz.prog 13 #[.pointer (some ⟨ab, 0, none⟩), u, .int .i64 ad] w (LeavesA w ab GA (mdS a K ad) (.tuple #[.int .i64 (mdN a K ad), .int .i64 (mdX a K ad)])) := by
  obtain ⟨ua, uc, eu⟩ := hk.form
  subst eu
  clear hk
  have lG := h.lt
  have KQ := vask_any h ha
  have d2 := h.ok.d2
  obtain ⟨n, hn⟩ : ∃ n, Hid (n = a.D.length) := ⟨_, rfl⟩
  rw [← hn.out] at d2
  have HA : Hid (ArAt w ab GA a) := h
  have FIN : Hid (∀ (P : PuS) w1, mdP a K ad = P → (∃ GA', ArAt w1 ab GA' P.st ∧ Grew GA w GA' w1) → LeavesA w ab GA (mdS a K ad) (.tuple #[.int .i64 (mdN a K ad), .int .i64 (mdX a K ad)]) (.returned (.tuple #[.int .i64 (puN P), .int .i64 (puE P)])) w1) := fun P w1 e k => by
    unfold mdS mdN mdX
    rw [e]
    exact ⟨rfl, k⟩
  clear h
  go_enter Tryz.func13, Tryz.ntmps13
  go_wp2_with fail
  refine KQ.mono ?_
  rintro _ w1 (⟨ho, va, vn, vc, rfl, B1⟩ | ⟨ho, g, rfl, R1, lg, B1⟩)
  · have F : Hid (LeavesA w ab GA (mdS a K ad) (.tuple #[.int .i64 (mdN a K ad), .int .i64 (mdX a K ad)]) (.returned (.tuple #[.int .i64 0, .int .i64 130])) w1) := FIN.out ⟨true, 0, a⟩ w1 (md17_off ho) ⟨GA, HA.out.below B1, Grew.of_below B1⟩
    clear KQ FIN B1 ho
    go_wp2
    exact bodyPost_ret (v := .tuple #[.int .i64 0, .int .i64 130]) (by simp [results, Tryz.results13, go_sem]) rfl F.out
  · rw [← hn.out] at R1 ⊢
    have KE := elected_any (S := sayL a ad) (by rw [sayL_length]; exact hn.out) (by omega) okL17_say (RpRow.say hn.out R1)
    clear KQ
    go_wp2_with fail
    refine KE.mono ?_
    rintro _ w2 ⟨rfl, B2⟩
    clear KE
    have EO := fun q => @el_ok a ad q
    have MN := fun q => @md17_none a K ad ho q
    have MS := fun q => @md17_some a K ad ho q
    generalize elE (sayL a ad) = E at EO MN MS
    generalize elD (sayL a ad) = D at EO MN MS
    generalize elN (sayL a ad) = N at EO MN MS
    have B12 := B1.step16 B2 B1.size
    have R2 := R1.below B2
    by_cases q : N = 0
    · subst q
      have F : Hid (∀ W, Below w2.heap.size w2 W → LeavesA w ab GA (mdS a K ad) (.tuple #[.int .i64 (mdN a K ad), .int .i64 (mdX a K ad)]) (.returned (.tuple #[.int .i64 0, .int .i64 0])) W) := fun W b => FIN.out ⟨false, 0, a⟩ W (MN (by omega)) ⟨GA, HA.out.below (B12.step16 b B12.size), Grew.of_below (B12.step16 b B12.size)⟩
      clear FIN EO MN MS B1 B2 B12 R1 R2 ho
      go_wp2
      exact bodyPost_ret (v := .tuple #[.int .i64 0, .int .i64 0]) (by simp [results, Tryz.results13, go_sem]) rfl (F.out _ (belR _ _))
    · have q1 : ((N : Int) == 0) = false := beq_eq_false_iff_ne.2 (by omega)
      have q2 : ¬ (N : Int) = 0 := by omega
      have eo : OkSe ad E D.length := EO (by omega)
      have ms := MS (by omega)
      obtain ⟨V, hV⟩ : ∃ V, V = w2.alloc (.cells #[.int .i64 E, .string ⟨D.toArray⟩] 87) := ⟨_, rfl⟩
      have bV : Below w2.heap.size w2 V := by rw [hV]; exact belR _ _
      have v0 : V.cell? ⟨w2.heap.size, 0, none⟩ = some (.int .i64 E) := by rw [hV]; exact World.cell?_alloc_new _ _ _ _
      have v1 : V.cell? ⟨w2.heap.size, 1, none⟩ = some (.string ⟨D.toArray⟩) := by rw [hV]; exact World.cell?_alloc_new _ _ _ _
      have lV : w2.heap.size < V.heap.size := by rw [hV]; simp
      obtain ⟨c, U, hcv, rU, bU, lU⟩ := conv_key V D (by have := eo.2.2; unfold maxLen; omega)
      have KP := spack_far (a := ad) (e := E) rU
      rw [(pa_ok eo).1, (pa_ok eo).2] at KP
      obtain ⟨b, hb0⟩ : ∃ b, Hid (b = pkS ad.toNat E.toNat D) := ⟨_, rfl⟩
      rw [← hb0.out] at KP ms
      have b2U : Below w2.heap.size w2 U := bV.step16 bU bV.size
      have u0 := (bU.cell (p := ⟨w2.heap.size, 0, none⟩) lV).trans v0
      have u1 := (bU.cell (p := ⟨w2.heap.size, 1, none⟩) lV).trans v1
      have RU := R2.below b2U
      have BU : Below w.heap.size w U := B12.step16 b2U B12.size
      have MSd : Hid (mdP a K ad = puV a ad b (toV a ad E D) a.D.length) := ms
      obtain ⟨ob, hob⟩ : ∃ ob, Hid (ob = w2.heap.size) := ⟨_, rfl⟩
      rw [← hob.out] at u0 u1 v0 v1
      have lo : ob < U.heap.size := by rw [hob.out]; omega
      clear ms EO MN MS B1 B2 R1 R2 B12 b2U rU eo bV hb0
      go_wp2_with fail
      rw [← hV, ← hob.out]
      rw [hcv]
      clear hV hcv bU v0 v1 lV lU
      go_wp2_with fail
      refine KP.mono ?_
      rintro _ w3 ⟨s, rfl, S3, F3, B3⟩
      clear KP
      obtain ⟨sa, sc, es⟩ := S3.form
      have BU3 := BU.step16 B3 BU.size
      have R3 := RU.below B3
      replace u0 := (B3.cell (p := ⟨ob, 0, none⟩) lo).trans u0
      replace u1 := (B3.cell (p := ⟨ob, 1, none⟩) lo).trans u1
      have A3 := HA.out.below BU3
      have HP : Hid (∀ W, TurnG GA w3 W → Rd W s b) := fun W t => S3.turnG (fun x n' c' e => (F3 x n' c' e).imp id fun q hg => by have := lG _ hg; have := BU.size; omega) t
      subst es
      have KU := unlike_any A3 hn.out R3 (e := E) (d := D)
      go_wp2_with fail
      refine KU.mono ?_
      rintro _ w4 ⟨dv, rfl, O4, B4⟩
      clear KU
      have A4 := A3.below B4
      obtain ⟨dl, hdl⟩ : ∃ dl, Hid (dl = (List.range n).filter (toV a ad E D)) := ⟨_, rfl⟩
      rw [← hdl.out] at O4
      have ld : dl.length ≤ n := by rw [hdl.out]; exact filt_len n
      have O4' : OwnN17 w4 w3.heap.size dv dl := O4
      obtain ⟨ya, yc, ey⟩ := (O4.rd (by omega)).form
      rw [zsN_length] at ey
      subst ey
      have KW := vwrite_any A4 ha (pv := .slice sa b.length sc) (b := b) (fun W t => HP.out W ((Below.turnG B4 GA).trans t)) (da := ya) (dc := yc) (n := dl.length) (l := dl) rfl (by omega)
        (fun i hi => by
          have hm : dl.getD i 0 ∈ dl := by rw [show dl.getD i 0 = dl[i] by simp [List.getD, hi]]; exact List.getElem_mem hi
          have hm2 : dl.getD i 0 ∈ (List.range n).filter (toV a ad E D) := by rw [← hdl.out]; exact hm
          have := List.mem_range.1 (List.mem_filter.1 hm2).1
          omega)
        (fun W t => by
          have ng : ∀ k, (Value.slice ya dl.length yc).ownBlock = some k → ¬ GA k := fun k hk hg => by
            have h1 := (World.ownsRow.lt O4' k hk).1
            have h2 := lG k hg
            have h3 := BU3.size
            omega
          exact (show OwnN17 W w3.heap.size (.slice ya dl.length yc) dl from owns_block O4' fun k hk => t.block k (World.ownsRow.lt O4' k hk).2 (ng k hk)).rd (by omega))
      have eW : puW a ad b dl dl.length = mdP a K ad := by rw [MSd.out, ← hn.out, hdl.out]; exact (puW_to n).symm
      rw [eW] at KW
      have BU4 := BU3.step16 B4 BU3.size
      have F : Hid (∀ w5, (∃ GA', ArAt w5 ab GA' (mdP a K ad).st ∧ Grew GA w4 GA' w5) → LeavesA w ab GA (mdS a K ad) (.tuple #[.int .i64 (mdN a K ad), .int .i64 (mdX a K ad)]) (.returned (.tuple #[.int .i64 (puN (mdP a K ad)), .int .i64 (puE (mdP a K ad))])) w5) := fun w5 ⟨GA', k1, k2⟩ => FIN.out _ w5 rfl ⟨GA', k1, (Grew.of_below BU4).trans k2⟩
      clear A3 A4 R3 u0 u1 S3 F3 O4 O4' B3 B4 BU BU3 BU4 eW FIN MSd hdl RU
      go_wp2_with fail
      refine KW.mono ?_
      rintro _ w5 ⟨rfl, L5⟩
      have F' := F.out w5 L5
      have F2 : Hid _ := F'
      clear KW F F' L5
      go_wp2
      exact bodyPost_ret (v := .tuple #[.int .i64 (puN (mdP a K ad)), .int .i64 (puE (mdP a K ad))]) (by simp [results, Tryz.results13, go_sem]) rfl F2.out
end Go.Proofs.YtgahaebfgmbckaaGreat.Gf

namespace Go.Proofs.YtgahaebfgmbckaaGreat.Gf
set_option linter.unusedVariables false
set_option linter.unusedSimpArgs false
open Go.RowKit
/-- a vote that was told, apart from an array's blocks -/
structure ToldV (w : World) (G : Nat → Prop) (b : Nat) (V : VoS) (vd : Value) : Prop where
  c0 : w.cell? ⟨b, 0, none⟩ = some (.bool V.has)
  c1 : w.cell? ⟨b, 1, none⟩ = some (.int .i64 V.ep)
  c2 : w.cell? ⟨b, 2, none⟩ = some vd
  c3 : w.cell? ⟨b, 3, none⟩ = some (.int .i64 ((V.co : Nat) : Int))
  c4 : w.cell? ⟨b, 4, none⟩ = some (.bool V.wi)
  lt : b < w.heap.size
  ap : ¬ G b
  rd : Told w G vd V.da
section
variable {w w' : World} {G G' : Nat → Prop} {b : Nat} {V : VoS} {vd : Value}
theorem ToldV.grew (h : ToldV w G b V vd) (g : Grew G w G' w') : ToldV w' G' b V vd := by
  have e : ∀ j, w'.cell? ⟨b, j, none⟩ = w.cell? ⟨b, j, none⟩ := fun j => g.turn.cell (p := ⟨b, j, none⟩) h.lt h.ap
  exact ⟨(e _).trans h.c0, (e _).trans h.c1, (e _).trans h.c2, (e _).trans h.c3, (e _).trans h.c4, Nat.lt_of_lt_of_le h.lt g.turn.size, g.off h.lt h.ap, h.rd.grew g⟩
theorem ToldV.below (h : ToldV w G b V vd) (hb : Below w.heap.size w w') : ToldV w' G b V vd := by
  have e : ∀ j, w'.cell? ⟨b, j, none⟩ = w.cell? ⟨b, j, none⟩ := fun j => hb.cell (p := ⟨b, j, none⟩) h.lt
  exact ⟨(e _).trans h.c0, (e _).trans h.c1, (e _).trans h.c2, (e _).trans h.c3, (e _).trans h.c4, Nat.lt_of_lt_of_le h.lt hb.size, h.ap, h.rd.below hb⟩
theorem ToldV.laid {w0 : World} {ab : Nat} {a : ArS} (h : ArAt w0 ab G a) (hr : Rd w vd V.da) (hf : FarV w0 vd) (hb : Below w0.heap.size w0 w) (e : Nat) (hbb : b = w.heap.size) : ToldV (w.alloc (.cells #[.bool V.has, .int .i64 V.ep, vd, .int .i64 ((V.co : Nat) : Int), .bool V.wi] e)) G b V vd := by
  subst hbb
  have c : ∀ j, (w.alloc (.cells #[.bool V.has, .int .i64 V.ep, vd, .int .i64 ((V.co : Nat) : Int), .bool V.wi] e)).cell? ⟨w.heap.size, j, none⟩ = #[Value.bool V.has, .int .i64 V.ep, vd, .int .i64 ((V.co : Nat) : Int), .bool V.wi][j]? := fun j => World.cell?_alloc_new _ _ _ _
  exact ⟨c 0, c 1, c 2, c 3, c 4, by simp, fun k => by have := h.lt _ k; have := hb.size; omega, hr.below (belR _ _), hf.apart h.lt⟩
end
theorem vread_is {w : World} {ab : Nat} {GA : Nat → Prop} {a : ArS} (h : ArAt w ab GA a) {ad : Int} (ha : (Lit.int .i64 ad).wf = true) {u : Value} {K : List Bool} (hk : RdB w u K) {x : Int} (hx : rvX a = x) {V : VoS} (hv : rvV a K ad = V) :
    Calls Tryz.prog 11 #[.pointer (some ⟨ab, 0, none⟩), u, .int .i64 ad] w (TellsVF w x V) := by
  rw [← hx, ← hv]; exact vread17_any h ha hk
set_option maxRecDepth 100000 in
set_option maxHeartbeats 4000000 in
theorem awake17_any {w : World} : Calls Tryz.prog 4 #[] w fun e w' => e = .returned (.bool true) ∧ Below w.heap.size w w' := by
  go_enter Tryz.func4, Tryz.ntmps4
  go_wp2_with fail
  refine (anew_is (n := 3) (s := 4) (m := 3) (k := 4) rfl (by decide) (by decide) (by decide) (by decide) rfl).mono ?_
  rintro _ u1 ⟨ab, G1, rfl, A1, H1, B1⟩
  have S1 : ArB u1 w.heap.size ab G1 (newA 3 4) := ⟨A1, H1, B1.size⟩
  have C1 : Below w.heap.size w u1 := B1
  clear A1 H1 B1
  have S2 := S1.below (belR u1 (.cells #[.int .u8 7] 5))
  have C2 := C1.step16 (belR u1 (.cells #[.int .u8 7] 5)) C1.size
  have K := vwrite17_any S2.at_ (ad := 1) (ep := 5) (by decide) (p := [7]) (rd_lit [7] rfl rfl (by decide)) (by decide)
  rw [vw_1.1, vw_1.2.1] at K
  clear S1 C1
  go_wp2_with fail
  refine K.mono ?_
  rintro _ u3 ⟨rfl, G3, A3, g3⟩
  have S3 : ArB u3 w.heap.size ab G3 vw1 := S2.grew A3 g3
  have C3 := C2.trans (S2.bel g3)
  clear K S2 C2 A3 g3
  have S4 := S3.below (belR u3 (.cells #[.bool true] 4))
  have C4 := C3.step16 (belR u3 (.cells #[.bool true] 4)) C3.size
  have K := vread_is S4.at_ (ad := 1) (by decide) (rdB_lit (w := u3) (e := 4) [true] rfl rfl rfl (by decide)) vw_r1.1 vw_r1.2
  clear S3 C3
  go_wp2_with fail
  refine K.mono ?_
  rintro _ u5 ⟨vd, rfl, R5, F5, b5⟩
  obtain ⟨va, vc, ev⟩ := R5.form
  subst ev
  have T6 : ToldV (u5.alloc (.cells #[.bool true, .int .i64 5, .slice va 1 vc, .int .i64 3, .bool true] 45)) G3 u5.heap.size ⟨true, 5, [7], 3, true⟩ (.slice va 1 vc) := ToldV.laid S4.at_ (V := ⟨true, 5, [7], 3, true⟩) R5 F5 b5 45 rfl
  have S6 := (S4.below b5).below (belR u5 (.cells #[.bool true, .int .i64 5, .slice va 1 vc, .int .i64 3, .bool true] 45))
  have C6 := (C4.step16 b5 C4.size).step16 (belR u5 (.cells #[.bool true, .int .i64 5, .slice va 1 vc, .int .i64 3, .bool true] 45)) (C4.step16 b5 C4.size).size
  rw [show aggV ⟨true, 5, [7], 3, true⟩ (.slice va ([7] : List UInt8).length vc) = .agg #[.bool true, .int .i64 5, .slice va 1 vc, .int .i64 3, .bool true] from rfl]
  clear K S4 C4 R5 F5 b5
  have K := arepl_any S6.at_ (i := 0) (by decide)
  go_wp2_with fail
  refine K.mono ?_
  rintro _ u7 ⟨rfl, G7, A7, g7⟩
  have S7 : ArB u7 w.heap.size ab G7 vw2 := S6.grew A7 g7
  have T7 := T6.grew g7
  have C7 := C6.trans (S6.bel g7)
  obtain ⟨b5, hb5⟩ : ∃ b5, b5 = u5.heap.size := ⟨_, rfl⟩
  rw [← hb5] at T7 ⊢
  clear K S6 C6 T6 A7 g7 hb5
  have K := vread_is S7.at_ (ad := 1) (by decide) rdB_none vw_r2.1 vw_r2.2
  go_wp2_with fail
  refine K.mono ?_
  rintro _ u8 ⟨vd, rfl, R8, F8, b8⟩
  obtain ⟨wa, wc, ew⟩ := R8.form
  subst ew
  have T9 : ToldV (u8.alloc (.cells #[.bool true, .int .i64 5, .slice wa 1 wc, .int .i64 2, .bool false] 45)) G7 u8.heap.size ⟨true, 5, [7], 2, false⟩ (.slice wa 1 wc) := ToldV.laid S7.at_ (V := ⟨true, 5, [7], 2, false⟩) R8 F8 b8 45 rfl
  have q9 := belR u8 (.cells #[.bool true, .int .i64 5, .slice wa 1 wc, .int .i64 2, .bool false] 45)
  have S9 := (S7.below b8).below q9
  have U9 := (T7.below b8).below q9
  have C9 := (C7.step16 b8 C7.size).step16 q9 (C7.step16 b8 C7.size).size
  rw [show aggV ⟨true, 5, [7], 2, false⟩ (.slice wa ([7] : List UInt8).length wc) = .agg #[.bool true, .int .i64 5, .slice wa 1 wc, .int .i64 2, .bool false] from rfl]
  clear K S7 T7 C7 R8 F8 b8 q9
  have K := vmend17_any S9.at_ (ad := 1) (by decide) rdB_none
  rw [vw_m.1, vw_m.2.1] at K
  go_wp2_with fail
  refine K.mono ?_
  rintro _ u10 ⟨rfl, G10, A10, g10⟩
  have S10 : ArB u10 w.heap.size ab G10 vw3 := S9.grew A10 g10
  have T10 := U9.grew g10
  have V10 := T9.grew g10
  have C10 := C9.trans (S9.bel g10)
  obtain ⟨b8, hb8⟩ : ∃ b8, b8 = u8.heap.size := ⟨_, rfl⟩
  rw [← hb8] at V10 ⊢
  clear K S9 U9 T9 C9 A10 g10 hb8
  have K := vread_is S10.at_ (ad := 2) (by decide) rdB_none vw_r3.1 vw_r3.2
  go_wp2_with fail
  refine K.mono ?_
  rintro _ u11 ⟨vd, rfl, R11, F11, b11⟩
  obtain ⟨xa, xc, ex⟩ := R11.form
  subst ex
  have q12 := belR u11 (.cells #[.bool false, .int .i64 0, .slice xa 0 xc, .int .i64 0, .bool false] 45)
  have T12 := (T10.below b11).below q12
  have V12 := (V10.below b11).below q12
  have C12 := (C10.step16 b11 C10.size).step16 q12 (C10.step16 b11 C10.size).size
  rw [show aggV ⟨false, 0, [], 0, false⟩ (.slice xa ([] : List UInt8).length xc) = .agg #[.bool false, .int .i64 0, .slice xa 0 xc, .int .i64 0, .bool false] from rfl]
  have X12 : (u11.alloc (.cells #[.bool false, .int .i64 0, .slice xa 0 xc, .int .i64 0, .bool false] 45)).cell? ⟨u11.heap.size, 0, none⟩ = some (.bool false) := by rw [World.cell?_alloc_new]; rfl
  obtain ⟨bb, oo, cc, e7, c7⟩ := T12.rd.byte
  simp at e7
  obtain ⟨rfl, rfl⟩ := e7
  have v0 : (u11.alloc (.cells #[.bool false, .int .i64 0, .slice xa 0 xc, .int .i64 0, .bool false] 45)).cell? ⟨b5, 0, none⟩ = some (.bool true) := T12.c0
  have v1 : (u11.alloc (.cells #[.bool false, .int .i64 0, .slice xa 0 xc, .int .i64 0, .bool false] 45)).cell? ⟨b5, 1, none⟩ = some (.int .i64 5) := T12.c1
  have v2 := T12.c2
  have v3 : (u11.alloc (.cells #[.bool false, .int .i64 0, .slice xa 0 xc, .int .i64 0, .bool false] 45)).cell? ⟨b5, 3, none⟩ = some (.int .i64 3) := T12.c3
  have v4 : (u11.alloc (.cells #[.bool false, .int .i64 0, .slice xa 0 xc, .int .i64 0, .bool false] 45)).cell? ⟨b5, 4, none⟩ = some (.bool true) := T12.c4
  have y3 : (u11.alloc (.cells #[.bool false, .int .i64 0, .slice xa 0 xc, .int .i64 0, .bool false] 45)).cell? ⟨b8, 3, none⟩ = some (.int .i64 2) := V12.c3
  have y4 : (u11.alloc (.cells #[.bool false, .int .i64 0, .slice xa 0 xc, .int .i64 0, .bool false] 45)).cell? ⟨b8, 4, none⟩ = some (.bool false) := V12.c4
  have FIN : Hid (Below w.heap.size w (u11.alloc (.cells #[.bool false, .int .i64 0, .slice xa 0 xc, .int .i64 0, .bool false] 45))) := C12
  clear K T10 V10 C10 R11 F11 b11 q12 T12 V12 C12 S10
  go_wp2
  go_ret
  exact ⟨rfl, FIN.out⟩
end Go.Proofs.YtgahaebfgmbckaaGreat.Gf
