/- TEXTS JOINED: CtRefG. -/
import Derived.Test.YtndlfmofjmieaaaPome20
namespace Go.Proofs.Ytndlfmofjmieaaa.Gf
set_option linter.unusedVariables false
set_option linter.unusedSimpArgs false
open Go.RowKit
set_option maxRecDepth 100000 in
set_option maxHeartbeats 40000000 in
theorem rapply19_put {w : World} {rb : Nat} {g : GeoS} {LV : List ObV} {v : Value} (h : CatR w rb g LV v) (hgw : g.Wf) (hgo : g.o ≤ 64) (hll : LV.length ≤ 64) {c : RcV} (hc : c.In w) (hcap : ∀ n d, c.vs = .slice none n d → d = 0) {ep : Int} (he : (Lit.int .i64 ep).wf = true) {X : Int} {L : List ObS} (hd : Hid (¬ c.r.kind = 2)) (hX : apCX g (oL LV) c.r ep = X) (hL : apCS g (oL LV) c.r ep = L) :
    Calls Try.prog 38 #[.pointer (some ⟨rb, 0, none⟩), aggR c, .int .i64 ep] w (RApp19 w rb g X L) := by
  obtain ⟨⟨kd, ky, ln, st⟩, vs⟩ := c
  have HC := hidC hc
  obtain ⟨sa, sc, e⟩ := hc.rs.form
  simp only at e hX hL hcap
  subst e
  have H := hidC h
  clear h hc
  obtain ⟨ck, hck⟩ : ∃ z, Hid (chR ⟨kd, ky, ln, st⟩ = z) := ⟨_, rfl⟩
  have KC : ∀ V, Below w.heap.size w V → Calls Try.prog 54 #[.agg #[.int .i64 kd, .string ⟨ky.toArray⟩, .int .i64 ln, .slice sa st.length sc]] V fun e w' => e = .returned (.int .i64 ck) ∧ Below V.heap.size V w' := fun V bV =>
    rchk16_any (c := ⟨⟨kd, ky, ln, st⟩, .slice sa st.length sc⟩) (HC.out.below bV) hck.out
  have CKO : ck = 0 ↔ OkR ⟨kd, ky, ln, st⟩ := by
    rw [← hck.out]
    unfold chR
    by_cases q : OkR ⟨kd, ky, ln, st⟩
    · rw [if_pos q]; exact ⟨fun _ => q, fun _ => rfl⟩
    · rw [if_neg q]; exact ⟨fun k => absurd k (by decide), fun k => absurd k q⟩
  have OKS : Hid (ck = 0 → st.length ≤ 256) := fun q => (CKO.1 q).2.2.2.2.2.1
  have KI := fun V (bV : Below w.heap.size w V) => rfind19_any (H.out.below bV).cat ky
  obtain ⟨ix, hix⟩ : ∃ z, Hid (finI (oL LV) ky = z) := ⟨_, rfl⟩
  rw [hix.out] at KI
  have FN : Hid (ix < 0 ↔ finK (oL LV) ky = none) := by show _ ↔ _; rw [← hix.out]; exact finI_neg19 _ _
  obtain ⟨pX, hpX⟩ : ∃ z : Bool, Hid (decide (fitC g (oL LV) ⟨ky, ln, ep, st⟩) = z) := ⟨_, rfl⟩
  have A1 : Hid (¬ ck = 0 → X = 1 ∧ oL LV = L) := fun q => by
    have e : apCX g (oL LV) ⟨kd, ky, ln, st⟩ ep = 1 := by unfold apCX; rw [if_pos fun k => q (CKO.2 k)]
    refine ⟨hX.symm.trans e, ?_⟩
    rw [← hL]
    unfold apCS
    rw [e, if_neg (by decide)]
  have A2 : Hid (ck = 0 → kd = 2 → ix < 0 → X = 193 ∧ oL LV = L) := fun q q2 q3 => by
    have e : apCX g (oL LV) ⟨kd, ky, ln, st⟩ ep = 193 := by
      unfold apCX
      rw [if_neg (fun k => k (CKO.1 q)), if_pos q2, if_pos (FN.out.1 q3)]
    refine ⟨hX.symm.trans e, ?_⟩
    rw [← hL]
    unfold apCS
    rw [e, if_neg (by decide)]
  have A3 : Hid (ck = 0 → kd = 2 → ¬ ix < 0 → X = 0 ∧ deC (oL LV) ky = L) := fun q q2 q3 => by
    have e : apCX g (oL LV) ⟨kd, ky, ln, st⟩ ep = 0 := by
      unfold apCX
      rw [if_neg (fun k => k (CKO.1 q)), if_pos q2, if_neg (fun k => q3 (FN.out.2 k))]
    refine ⟨hX.symm.trans e, ?_⟩
    rw [← hL]
    unfold apCS
    rw [e, if_pos rfl, if_pos q2]
  have A4 : Hid (ck = 0 → ¬ kd = 2 → ix < 0 → g.o ≤ (LV.length : Int) → X = 191 ∧ oL LV = L) := fun q q2 q3 q4 => by
    have e : apCX g (oL LV) ⟨kd, ky, ln, st⟩ ep = 191 := by
      unfold apCX
      rw [if_neg (fun k => k (CKO.1 q)), if_neg q2, if_pos ⟨FN.out.1 q3, by rw [oL_length]; exact q4⟩]
    refine ⟨hX.symm.trans e, ?_⟩
    rw [← hL]
    unfold apCS
    rw [e, if_neg (by decide)]
  have A5 : Hid (ck = 0 → ¬ kd = 2 → ¬ (ix < 0 ∧ g.o ≤ (LV.length : Int)) → (pX = false → X = 1 ∧ oL LV = L) ∧ (pX = true → X = 0 ∧ wiC (oL LV) ⟨ky, ln, ep, st⟩ = L)) := fun q q2 q3 => by
    have q5 : ¬ (finK (oL LV) ky = none ∧ g.o ≤ ((oL LV).length : Int)) := fun k => q3 ⟨FN.out.2 k.1, by have := k.2; rw [oL_length] at this; exact this⟩
    constructor
    · intro q4
      have nf : ¬ fitC g (oL LV) (obR ⟨kd, ky, ln, st⟩ ep) := of_decide_eq_false (hpX.out.trans q4)
      have e : apCX g (oL LV) ⟨kd, ky, ln, st⟩ ep = 1 := by
        unfold apCX
        rw [if_neg (fun k => k (CKO.1 q)), if_neg q2, if_neg q5, if_pos nf]
      refine ⟨hX.symm.trans e, ?_⟩
      rw [← hL]
      unfold apCS
      rw [e, if_neg (by decide)]
    · intro q4
      have nf : fitC g (oL LV) (obR ⟨kd, ky, ln, st⟩ ep) := of_decide_eq_true (hpX.out.trans q4)
      have e : apCX g (oL LV) ⟨kd, ky, ln, st⟩ ep = 0 := by
        unfold apCX
        rw [if_neg (fun k => k (CKO.1 q)), if_neg q2, if_neg q5, if_neg (fun k => k nf)]
      refine ⟨hX.symm.trans e, ?_⟩
      rw [← hL]
      unfold apCS
      rw [e, if_pos rfl, if_neg q2]
      rfl
  have IXS : Hid (¬ ix < 0 → ∃ n : Nat, ix = (n : Int) ∧ n < LV.length ∧ (oL LV).take n ++ (oL LV).drop (n + 1) = deC (oL LV) ky) := fun q => by
    have h1 := hix.out
    unfold finI at h1
    by_cases k : idK (oL LV) ky < (oL LV).length
    · rw [if_pos k] at h1
      refine ⟨idK (oL LV) ky, h1.symm, by rwa [oL_length] at k, ?_⟩
      exact (idK_del k).symm
    · rw [if_neg k] at h1; omega
  clear CKO hX hL hck hix
  obtain ⟨W, hW⟩ : ∃ W, W = w.alloc (.cells #[.int .i64 kd, .string ⟨ky.toArray⟩, .int .i64 ln, .slice sa st.length sc] 39) := ⟨_, rfl⟩
  have TA : Hid (∀ V, Below W.heap.size W V → Below w.heap.size w V ∧ V.cell? ⟨w.heap.size, 0, none⟩ = some (.int .i64 kd) ∧ V.cell? ⟨w.heap.size, 1, none⟩ = some (.string ⟨ky.toArray⟩) ∧ V.cell? ⟨w.heap.size, 2, none⟩ = some (.int .i64 ln) ∧ V.cell? ⟨w.heap.size, 3, none⟩ = some (.slice sa st.length sc) ∧ ∀ j, V.frozen? ⟨w.heap.size, j, none⟩ = false) := by rw [hW]; exact box4 _ _ _ _ _ _
  have K1 := KC W (TA.out W (Below.refl _ _)).1
  clear KC
  show Calls Try.prog 38 #[.pointer (some ⟨rb, 0, none⟩), .agg #[.int .i64 kd, .string ⟨ky.toArray⟩, .int .i64 ln, .slice sa st.length sc], .int .i64 ep] w _
  go_enter Try.func38, Try.ntmps38
  go_wp2_with fail
  rw [← hW]
  clear hW
  refine K1.mono ?_
  clear K1
  rintro _ w2 ⟨rfl, b2⟩
  by_cases hck : ck = 0
  rotate_left
  · obtain ⟨rfl, e⟩ := A1.out hck
    have n1 : (ck == 0) = false := beq_eq_false_iff_ne.2 hck
    have n2 : (ck != 0) = true := by simp [bne, n1]
    have F : Hid (RApp19 w rb g 1 L (.returned (.int .i64 1)) w2) := ⟨LV, v, rfl, H.out.below (TA.out w2 b2).1, e, Below.turnG (TA.out w2 b2).1 _⟩
    clear A1 A2 A3 A4 A5 KI TA H HC b2 e IXS FN OKS
    go_wp2
    go_ret
    exact F.out
  subst hck
  obtain ⟨B2, q0, q1, q2, q3, _⟩ := TA.out w2 b2
  have K2 := KI w2 B2
  have bb := hidC b2
  have SL := OKS.out rfl
  clear KI A1 B2 b2 q0 q2 q3 OKS
  go_wp2_with fail
  refine K2.mono ?_
  clear K2 q1
  rintro _ w3 ⟨rfl, b3⟩
  have b3' := hidC (bb.out.stepL b3 bb.out.size)
  obtain ⟨B3, q0, q1, q2, q3, _⟩ := TA.out w3 b3'.out
  have BB := hidC B3
  clear bb b3 B3 q1 q2 q3
  have hkd : ¬ kd = 2 := hd.out
  clear hd
  have n1 : (kd == 2) = false := beq_eq_false_iff_ne.2 hkd
  have R3 := H.out.below BB.out
  obtain ⟨va, vc, ev, hvf⟩ := R3.ow.form19
  subst ev
  have R3h := hidC R3
  obtain ⟨go, hgo2⟩ : ∃ z, z = g.o := ⟨_, rfl⟩
  rw [← hgo2] at A4 A5
  have C9 : Hid (∀ V, Below w3.heap.size w3 V → V.cell? ⟨rb, 6, none⟩ = some (.slice va LV.length vc) ∧ V.cell? ⟨rb, 5, none⟩ = some (.int .i64 go)) := fun V bV => ⟨(R3h.out.below bV).c6, by rw [hgo2]; exact (R3h.out.below bV).ge.2.2.2.2.2⟩
  have REST : Hid (¬ (ix < 0 ∧ go ≤ (LV.length : Int)) → True) := fun _ => trivial
  clear R3 A2 A3 IXS FN hgo2 REST
  by_cases hneg : ix < 0
  · have d1 := hidC (show decide (ix < 0) = true from decide_eq_true hneg)
    have HNEG := hidC hneg
    by_cases hfull : go ≤ (LV.length : Int)
    · obtain ⟨rfl, e⟩ := A4.out (by first | rfl | trivial) hkd hneg hfull
      have F : Hid (RApp19 w rb g 191 L (.returned (.int .i64 191)) w3.drew) := ⟨LV, _, rfl, R3h.out.below (Below.refl _ _).drew, e, (Below.turnG BB.out _).drew⟩
      have ho : (LV.length : Int) ≥ go := hfull
      clear A4 A5 TA H HC b3' e R3h hneg HNEG
      go_wp2_with fail
      refine wp_region_held_drew (S := fun V => V.cell? ⟨rb, 6, none⟩ = some (.slice va LV.length vc) ∧ V.cell? ⟨rb, 5, none⟩ = some (.int .i64 go)) (by kernel_rfl) (C9.out _ (Below.refl _ _).drew) (fun hHeld => ?_)
      refine tkH 0 ?_
      refine tkH 1 ?_
      simp only [d1.out]
      refine tkH 2 ?_
      refine tkH 3 ?_
      refine tkH 4 ?_
      refine tkH 5 ?_
      refine tkH 6 ?_
      refine tkH 7 ?_
      refine tkH 8 ?_
      refine tkH 9 ?_
      refine tkH 10 ?_
      refine tkH 11 ?_
      refine tkH 12 ?_
      refine tkH 13 ?_
      refine tkH 14 ?_
      refine wpAnyH_done (by kernel_rfl) ?_ _
      clear hHeld
      clear C9
      go_wp2
      go_ret
      exact F.out
    · have A6 := hidC (A5.out (by first | rfl | trivial) hkd (fun q => hfull q.2))
      have ho : ¬ (LV.length : Int) ≥ go := hfull
      clear A4 A5 hneg HNEG
      go_wp2_with fail
      refine wp_region_held_drew (S := fun V => V.cell? ⟨rb, 6, none⟩ = some (.slice va LV.length vc) ∧ V.cell? ⟨rb, 5, none⟩ = some (.int .i64 go)) (by kernel_rfl) (C9.out _ (Below.refl _ _).drew) (fun hHeld => ?_)
      refine tkH 0 ?_
      refine tkH 1 ?_
      simp only [d1.out]
      refine tkH 2 ?_
      refine tkH 3 ?_
      refine tkH 4 ?_
      refine tkH 5 ?_
      refine tkH 6 ?_
      refine tkH 7 ?_
      refine tkH 8 ?_
      refine tkH 9 ?_
      refine tkH 10 ?_
      refine tkH 11 ?_
      refine tkH 12 ?_
      refine tkH 13 ?_
      refine tkH 14 ?_
      refine wpAnyH_done (by kernel_rfl) ?_ _
      clear hHeld
      have dh : decide (go ≤ (LV.length : Int)) = false := decide_eq_false (by omega)
      clear C9 d1
      have SR : Hid (∀ V, Below w3.heap.size w3 V → V.cell? ⟨w.heap.size, 0, none⟩ = some (.int .i64 kd) ∧ V.cell? ⟨w.heap.size, 1, none⟩ = some (.string ⟨ky.toArray⟩) ∧ V.cell? ⟨w.heap.size, 2, none⟩ = some (.int .i64 ln) ∧ V.cell? ⟨w.heap.size, 3, none⟩ = some (.slice sa st.length sc)) := fun V bV => by
        obtain ⟨_, p0, p1, p2, p3, _⟩ := TA.out V (b3'.out.step16 bV b3'.out.size)
        exact ⟨p0, p1, p2, p3⟩
      have RS : Hid (∀ V, Below w3.heap.size w3 V → RdI V (.slice sa st.length sc) st) := fun V bV => (HC.out.rs.below BB.out).below bV
      have WFS : Hid ((Lit.int .i64 ln).wf = true ∧ (Lit.int .i64 ep).wf = true ∧ ky.length ≤ maxLen ∧ ∀ z ∈ st, (Lit.int .i64 z).wf = true) := ⟨HC.out.wl, he, HC.out.ky, HC.out.wi⟩
      have bD : Below w3.heap.size w3 w3.drew := (Below.refl _ _).drew
      obtain ⟨wx, ewx⟩ : ∃ x, x = w3.drew := ⟨_, rfl⟩
      have bx : Below w3.heap.size w3 wx := by rw [ewx]; exact bD
      have bx0 : Below w3.heap.size w3 wx.drew := bx.drew
      rw [← ewx]
      clear ewx
      go_upto_region 11 with fail
      go_cut [8] from 41 to 65 (fun s8 wx => ObBox19 w3 ⟨ky, ln, ep, st⟩ s8 wx)
      case first =>
        refine wp_region_held_drew (S := fun V => V.cell? ⟨w.heap.size, 0, none⟩ = some (.int .i64 kd) ∧ V.cell? ⟨w.heap.size, 1, none⟩ = some (.string ⟨ky.toArray⟩) ∧ V.cell? ⟨w.heap.size, 2, none⟩ = some (.int .i64 ln) ∧ V.cell? ⟨w.heap.size, 3, none⟩ = some (.slice sa st.length sc)) (by kernel_rfl) (SR.out _ bx0) (fun hHeld => ?_)
        refine tkH 0 ?_
        refine tkH 1 ?_
        refine tkH 2 ?_
        refine tkH 3 ?_
        refine tkH 4 ?_
        refine tkH 6 ?_
        refine tkH 7 ?_
        clear hHeld
        refine rmH 5 10 (fun K' hK => ?_) fun K' hK => ?_
        · have bA : Below w3.heap.size w3 (wx.alloc (.cells #[] 3)).drew := (bx.stepL (belL _ _) bx.size).drew
          have oA : OwnZ (wx.alloc (.cells #[] 3)).drew w3.heap.size 3 (.slice (some ⟨wx.heap.size, 0, none⟩) 0 0) [] := (made_zs wx bx.size)
          go_simp
          refine koH hK (SR.out _ bA) fun hHeld => ?_
          clear hK K' hHeld
          refine rmH 8 10 (fun K' hK => ?_) fun K' hK => ?_
          · refine step_append_zs rfl (.tmp 61) (.tmp 63) rfl w3.heap.size (.slice (some ⟨wx.heap.size, 0, none⟩) 0 0) [] rfl oA (.slice sa st.length sc) st rfl (RS.out _ bA) hcap (by simp; omega) bA.size ?_
            intro v1 w1 o1 g1
            rw [List.nil_append] at o1
            have b1 : Below w3.heap.size w3 w1 := g1.bel19 bA bA.size (fun q e => by have := bx.size; rw [own_is19 e]; omega)
            have pl := zs_place g1 o1
            have nwz : NewS w3.heap.size v1 := OwnZ.new o1
            obtain ⟨va1, vc1, rfl⟩ := owns_form o1
            have rd1 := OwnZ.rd o1 (by omega)
            go_simp
            refine koH hK (SR.out w1 b1) fun hHeld => ?_
            clear hK K'
            have plh := hidC pl
            have nwh := hidC nwz
            have rdh := hidC rd1
            have oh := hidC o1
            have gh := hidC g1
            clear pl nwz rd1 o1 g1
            refine tkH 9 (v := .agg #[.string ⟨ky.toArray⟩, .int .i64 ln, .int .i64 ep, .slice va1 st.length vc1]) ?_ (hy := Or.inl ⟨by rfl, fun w _ => by show Sem.run _ _ _ = _; simp [go_sem]⟩)
            clear hHeld
            have pl := plh.out
            have nwz := nwh.out
            have rd1 := rdh.out
            have g1 := gh.out
            have o1 := oh.out
            obtain ⟨wz, hwz⟩ : ∃ x, x = w1.alloc (.cells #[.string ⟨#[]⟩, .int .i64 0, .int .i64 0, .slice none 0 0] 52) := ⟨_, rfl⟩
            obtain ⟨bz, z0, z1, z2, z3, zf⟩ := box4 w1 (.string ⟨#[]⟩) (.int .i64 0) (.int .i64 0) (.slice none 0 0) 52 _ (Below.refl _ _)
            rw [← hwz] at bz z0 z1 z2 z3 zf
            have BZ : Below w3.heap.size w3 wz := b1.stepL bz b1.size
            have ltb : w1.heap.size < wz.heap.size := by rw [hwz]; simp
            have lob : w3.heap.size ≤ w1.heap.size := b1.size
            have rdz := rd1.below bz
            have okz : ObOk wz ⟨⟨ky, ln, ep, st⟩, .slice va1 st.length vc1⟩ := ⟨WFS.out.1, WFS.out.2.1, WFS.out.2.2.1, rdz, WFS.out.2.2.2⟩
            have nez : ApartG (fun x => x = w1.heap.size) (.slice va1 st.length vc1) := fun x n c e => (rd1.lays x n c e).imp id fun q q2 => by omega
            refine rnH 10 (fun K' hK => ?_)
            go_simp
            rw [← hwz]
            refine koH hK (SR.out wz BZ) fun hHeld => ?_
            clear hK K' hHeld hwz pl g1 o1 rd1 oA bA
            have f0 := zf 0
            have f1 := zf 1
            have f2 := zf 2
            have f3 := zf 3
            refine rnH 11 (fun K' hK => ?_)
            obtain ⟨wy, hy⟩ : ∃ x, x = (((wz.setCell ⟨w1.heap.size, 0, none⟩ (.string ⟨ky.toArray⟩)).setCell ⟨w1.heap.size, 1, none⟩ (.int .i64 ln)).setCell ⟨w1.heap.size, 2, none⟩ (.int .i64 ep)).setCell ⟨w1.heap.size, 3, none⟩ (.slice va1 st.length vc1) := ⟨_, rfl⟩
            obtain ⟨OB, BY⟩ := obox_end (o := ⟨ky, ln, ep, st⟩) BZ lob ltb z0 z1 z2 z3 okz nwz nez hy
            go_simp
            rw [← hy]
            clear hy
            refine koH hK (SR.out wy BY) fun hHeld => ?_
            clear hK K' hHeld f0 f1 f2 f3 zf z0 z1 z2 z3 okz nwz nez BZ
            refine wpAnyH_done (by kernel_rfl) ?_ _
            have OBH := hidC OB
            clear OB BY
            go_wp2_with fail
            go_meet
            case rel => exact OBH.out
          · have bA2 : Below w3.heap.size w3 ((wx.alloc (.cells #[] 3)).alloc (.cells #[.string ⟨#[]⟩, .int .i64 0, .int .i64 0, .slice none 0 0] 52)).drew := ((bx.stepL (belL _ _) bx.size).stepL (belL _ _) (by have := bx.size; simp; omega)).drew
            have oA2 : OwnZ ((wx.alloc (.cells #[] 3)).alloc (.cells #[.string ⟨#[]⟩, .int .i64 0, .int .i64 0, .slice none 0 0] 52)).drew w3.heap.size 3 (.slice (some ⟨wx.heap.size, 0, none⟩) 0 0) [] := (made_zs wx bx.size).alloc _
            obtain ⟨_, z0, z1, z2, z3, zf⟩ := box4 (wx.alloc (.cells #[] 3)) (.string ⟨#[]⟩) (.int .i64 0) (.int .i64 0) (.slice none 0 0) 52 _ (Below.refl _ _)
            have sx : (wx.alloc (.cells #[] 3)).heap.size = wx.heap.size + 1 := by simp
            rw [sx] at z0 z1 z2 z3 zf
            go_simp
            refine koH hK (SR.out _ bA2) fun hHeld => ?_
            clear hK K' hHeld oA bA
            have oA := oA2
            have bA := bA2
            refine rnH 8 (fun K' hK => ?_)
            refine step_append_zs rfl (.tmp 61) (.tmp 63) rfl w3.heap.size (.slice (some ⟨wx.heap.size, 0, none⟩) 0 0) [] rfl oA (.slice sa st.length sc) st rfl (RS.out _ bA) hcap (by simp; omega) bA.size ?_
            intro v1 w1 o1 g1
            rw [List.nil_append] at o1
            have b1 : Below w3.heap.size w3 w1 := g1.bel19 bA bA.size (fun q e => by have := bx.size; rw [own_is19 e]; omega)
            have pl := zs_place g1 o1
            have nwz : NewS w3.heap.size v1 := OwnZ.new o1
            obtain ⟨va1, vc1, rfl⟩ := owns_form o1
            have rd1 := OwnZ.rd o1 (by omega)
            go_simp
            refine koH hK (SR.out w1 b1) fun hHeld => ?_
            clear hK K'
            have plh := hidC pl
            have nwh := hidC nwz
            have rdh := hidC rd1
            have oh := hidC o1
            have gh := hidC g1
            clear pl nwz rd1 o1 g1
            refine tkH 9 (v := .agg #[.string ⟨ky.toArray⟩, .int .i64 ln, .int .i64 ep, .slice va1 st.length vc1]) ?_ (hy := Or.inl ⟨by rfl, fun w _ => by show Sem.run _ _ _ = _; simp [go_sem]⟩)
            clear hHeld
            have pl := plh.out
            have nwz := nwh.out
            have rd1 := rdh.out
            have g1 := gh.out
            have o1 := oh.out
            obtain ⟨wz, hwz⟩ : ∃ x, x = w1 := ⟨_, rfl⟩
            subst hwz
            have hlt : wx.heap.size + 1 < (((wx.alloc (.cells #[] 3)).alloc (.cells #[.string ⟨#[]⟩, .int .i64 0, .int .i64 0, .slice none 0 0] 52)).drew).heap.size := by simp; try omega
            have hne : (Value.slice (some ⟨wx.heap.size, 0, none⟩) 0 0).ownBlock ≠ some (wx.heap.size + 1) := fun e => by have := own_is19 e; omega
            replace z0 := (g1.cell (p := ⟨wx.heap.size + 1, 0, none⟩) hlt hne).trans z0
            replace z1 := (g1.cell (p := ⟨wx.heap.size + 1, 1, none⟩) hlt hne).trans z1
            replace z2 := (g1.cell (p := ⟨wx.heap.size + 1, 2, none⟩) hlt hne).trans z2
            replace z3 := (g1.cell (p := ⟨wx.heap.size + 1, 3, none⟩) hlt hne).trans z3
            replace zf : ∀ j, wz.frozen? ⟨wx.heap.size + 1, j, none⟩ = false := fun j => (g1.frozen (p := ⟨wx.heap.size + 1, j, none⟩) hlt hne).trans (zf j)
            have BZ := b1
            have rdz := rd1
            have okz : ObOk wz ⟨⟨ky, ln, ep, st⟩, .slice va1 st.length vc1⟩ := ⟨WFS.out.1, WFS.out.2.1, WFS.out.2.2.1, rdz, WFS.out.2.2.2⟩
            have ltb : wx.heap.size + 1 < wz.heap.size := Nat.lt_of_lt_of_le hlt g1.gr.size
            have lob : w3.heap.size ≤ wx.heap.size + 1 := by have := bx.size; omega
            have nez : ApartG (fun x => x = wx.heap.size + 1) (.slice va1 st.length vc1) := fun x n c e => Or.inr fun q => by
              rcases pl x n c e with k | k
              · have := own_is19 k; omega
              · have h9 : wx.heap.size + 1 < (((wx.alloc (.cells #[] 3)).alloc (.cells #[.string ⟨#[]⟩, .int .i64 0, .int .i64 0, .slice none 0 0] 52)).drew).heap.size := hlt
                omega
            clear pl g1 o1 rd1 oA bA hlt hne
            have f0 := zf 0
            have f1 := zf 1
            have f2 := zf 2
            have f3 := zf 3
            refine rnH 11 (fun K' hK => ?_)
            obtain ⟨wy, hy⟩ : ∃ x, x = (((wz.setCell ⟨wx.heap.size + 1, 0, none⟩ (.string ⟨ky.toArray⟩)).setCell ⟨wx.heap.size + 1, 1, none⟩ (.int .i64 ln)).setCell ⟨wx.heap.size + 1, 2, none⟩ (.int .i64 ep)).setCell ⟨wx.heap.size + 1, 3, none⟩ (.slice va1 st.length vc1) := ⟨_, rfl⟩
            obtain ⟨OB, BY⟩ := obox_end (o := ⟨ky, ln, ep, st⟩) BZ lob ltb z0 z1 z2 z3 okz nwz nez hy
            go_simp
            rw [← hy]
            clear hy
            refine koH hK (SR.out wy BY) fun hHeld => ?_
            clear hK K' hHeld f0 f1 f2 f3 zf z0 z1 z2 z3 okz nwz nez BZ
            refine wpAnyH_done (by kernel_rfl) ?_ _
            have OBH := hidC OB
            clear OB BY
            go_wp2_with fail
            go_meet
            case rel => exact OBH.out
        · have bB : Below w3.heap.size w3 (wx.alloc (.cells #[.string ⟨#[]⟩, .int .i64 0, .int .i64 0, .slice none 0 0] 52)).drew := (bx.stepL (belL _ _) bx.size).drew
          have bA : Below w3.heap.size w3 ((wx.alloc (.cells #[.string ⟨#[]⟩, .int .i64 0, .int .i64 0, .slice none 0 0] 52)).alloc (.cells #[] 3)).drew := ((bx.stepL (belL _ _) bx.size).stepL (belL _ _) (by have := bx.size; simp; omega)).drew
          have sx : (wx.alloc (.cells #[.string ⟨#[]⟩, .int .i64 0, .int .i64 0, .slice none 0 0] 52)).heap.size = wx.heap.size + 1 := by simp
          have oA : OwnZ ((wx.alloc (.cells #[.string ⟨#[]⟩, .int .i64 0, .int .i64 0, .slice none 0 0] 52)).alloc (.cells #[] 3)).drew w3.heap.size 3 (.slice (some ⟨wx.heap.size + 1, 0, none⟩) 0 0) [] := by
            have h := made_zs (wx.alloc (.cells #[.string ⟨#[]⟩, .int .i64 0, .int .i64 0, .slice none 0 0] 52)) (base := w3.heap.size) (by have := bx.size; omega)
            rw [sx] at h
            exact h
          obtain ⟨_, z0, z1, z2, z3, zf⟩ := box4 wx (.string ⟨#[]⟩) (.int .i64 0) (.int .i64 0) (.slice none 0 0) 52 ((wx.alloc (.cells #[.string ⟨#[]⟩, .int .i64 0, .int .i64 0, .slice none 0 0] 52)).alloc (.cells #[] 3)).drew ((belL _ _).drew)
          go_simp
          refine koH hK (SR.out _ bB) fun hHeld => ?_
          clear hK K' hHeld
          refine rnH 5 (fun K' hK => ?_)
          go_simp
          refine koH hK (SR.out _ bA) fun hHeld => ?_
          clear hK K' hHeld
          refine rnH 8 (fun K' hK => ?_)
          refine step_append_zs rfl (.tmp 61) (.tmp 63) rfl w3.heap.size (.slice (some ⟨wx.heap.size + 1, 0, none⟩) 0 0) [] rfl oA (.slice sa st.length sc) st rfl (RS.out _ bA) hcap (by simp; omega) bA.size ?_
          intro v1 w1 o1 g1
          rw [List.nil_append] at o1
          have b1 : Below w3.heap.size w3 w1 := g1.bel19 bA bA.size (fun q e => by have := bx.size; rw [own_is19 e]; omega)
          have pl := zs_place g1 o1
          have nwz : NewS w3.heap.size v1 := OwnZ.new o1
          obtain ⟨va1, vc1, rfl⟩ := owns_form o1
          have rd1 := OwnZ.rd o1 (by omega)
          go_simp
          refine koH hK (SR.out w1 b1) fun hHeld => ?_
          clear hK K'
          have plh := hidC pl
          have nwh := hidC nwz
          have rdh := hidC rd1
          have oh := hidC o1
          have gh := hidC g1
          clear pl nwz rd1 o1 g1
          refine tkH 9 (v := .agg #[.string ⟨ky.toArray⟩, .int .i64 ln, .int .i64 ep, .slice va1 st.length vc1]) ?_ (hy := Or.inl ⟨by rfl, fun w _ => by show Sem.run _ _ _ = _; simp [go_sem]⟩)
          clear hHeld
          have pl := plh.out
          have nwz := nwh.out
          have rd1 := rdh.out
          have g1 := gh.out
          have o1 := oh.out
          obtain ⟨wz, hwz⟩ : ∃ x, x = w1 := ⟨_, rfl⟩
          subst hwz
          have hlt : wx.heap.size < (((wx.alloc (.cells #[.string ⟨#[]⟩, .int .i64 0, .int .i64 0, .slice none 0 0] 52)).alloc (.cells #[] 3)).drew).heap.size := by simp; try omega
          have hne : (Value.slice (some ⟨wx.heap.size + 1, 0, none⟩) 0 0).ownBlock ≠ some (wx.heap.size) := fun e => by have := own_is19 e; omega
          replace z0 := (g1.cell (p := ⟨wx.heap.size, 0, none⟩) hlt hne).trans z0
          replace z1 := (g1.cell (p := ⟨wx.heap.size, 1, none⟩) hlt hne).trans z1
          replace z2 := (g1.cell (p := ⟨wx.heap.size, 2, none⟩) hlt hne).trans z2
          replace z3 := (g1.cell (p := ⟨wx.heap.size, 3, none⟩) hlt hne).trans z3
          replace zf : ∀ j, wz.frozen? ⟨wx.heap.size, j, none⟩ = false := fun j => (g1.frozen (p := ⟨wx.heap.size, j, none⟩) hlt hne).trans (zf j)
          have BZ := b1
          have rdz := rd1
          have okz : ObOk wz ⟨⟨ky, ln, ep, st⟩, .slice va1 st.length vc1⟩ := ⟨WFS.out.1, WFS.out.2.1, WFS.out.2.2.1, rdz, WFS.out.2.2.2⟩
          have ltb : wx.heap.size < wz.heap.size := Nat.lt_of_lt_of_le hlt g1.gr.size
          have lob : w3.heap.size ≤ wx.heap.size := by have := bx.size; omega
          have nez : ApartG (fun x => x = wx.heap.size) (.slice va1 st.length vc1) := fun x n c e => Or.inr fun q => by
            rcases pl x n c e with k | k
            · have := own_is19 k; omega
            · have h9 : wx.heap.size < (((wx.alloc (.cells #[.string ⟨#[]⟩, .int .i64 0, .int .i64 0, .slice none 0 0] 52)).alloc (.cells #[] 3)).drew).heap.size := hlt
              omega
          clear pl g1 o1 rd1 oA bA hlt hne
          have f0 := zf 0
          have f1 := zf 1
          have f2 := zf 2
          have f3 := zf 3
          refine rnH 11 (fun K' hK => ?_)
          obtain ⟨wy, hy⟩ : ∃ x, x = (((wz.setCell ⟨wx.heap.size, 0, none⟩ (.string ⟨ky.toArray⟩)).setCell ⟨wx.heap.size, 1, none⟩ (.int .i64 ln)).setCell ⟨wx.heap.size, 2, none⟩ (.int .i64 ep)).setCell ⟨wx.heap.size, 3, none⟩ (.slice va1 st.length vc1) := ⟨_, rfl⟩
          obtain ⟨OB, BY⟩ := obox_end (o := ⟨ky, ln, ep, st⟩) BZ lob ltb z0 z1 z2 z3 okz nwz nez hy
          go_simp
          rw [← hy]
          clear hy
          refine koH hK (SR.out wy BY) fun hHeld => ?_
          clear hK K' hHeld f0 f1 f2 f3 zf z0 z1 z2 z3 okz nwz nez BZ
          refine wpAnyH_done (by kernel_rfl) ?_ _
          have OBH := hidC OB
          clear OB BY
          go_wp2_with fail
          go_meet
          case rel => exact OBH.out
      case rest =>
        obtain ⟨ob, sv8, e8, BC, o0, o1, o2, o3, okO, nwO, ltO⟩ := hcut
        subst e8
        obtain ⟨oa, oc, eo⟩ := okO.rs.form
        simp only at eo
        subst eo
        have BWC := BB.out.stepL BC BB.out.size
        have RC := hidC (R3h.out.below BC)
        have nob : ob ≠ rb := fun e => by
          have h1 := RC.out.ge.1
          rw [← e, o0] at h1
          cases h1
        have OS : Hid (∀ V, Below wc.heap.size wc V → V.cell? ⟨ob, 0, none⟩ = some (.string ⟨ky.toArray⟩) ∧ V.cell? ⟨ob, 1, none⟩ = some (.int .i64 ln) ∧ V.cell? ⟨ob, 2, none⟩ = some (.int .i64 ep) ∧ V.cell? ⟨ob, 3, none⟩ = some (.slice oa st.length oc)) := fun V bV => ⟨(bV.cell (p := ⟨ob, 0, none⟩) ltO).trans o0, (bV.cell (p := ⟨ob, 1, none⟩) ltO).trans o1, (bV.cell (p := ⟨ob, 2, none⟩) ltO).trans o2, (bV.cell (p := ⟨ob, 3, none⟩) ltO).trans o3⟩
        have KF := rfits19_any RC.out.cat hgw (c := ⟨⟨ky, ln, ep, st⟩, .slice oa st.length oc⟩) okO (by show st.length ≤ 100000; omega) hpX.out
        have OKH := hidC okO
        have NWH := hidC nwO
        have BCH := hidC BC
        have BWH := hidC BWC
        have LTH : Hid (rb < w3.heap.size) := R3h.out.lt
        obtain ⟨y0, y1, y2, y3⟩ := OS.out wc (Below.refl _ _)
        clear o0 o1 o2 o3 okO nwO BC BWC hpX
        go_wp2_with fail
        refine KF.mono ?_
        clear KF y0 y1 y2 y3
        rintro _ w5 ⟨rfl, b5⟩
        have b5h := hidC b5
        clear b5
        cases pX with
        | false =>
          obtain ⟨eX, e⟩ := A6.out.1 rfl
          have F : Hid (RApp19 w rb g X L (.returned (.int .i64 1)) w5) := ⟨LV, _, by rw [eX], RC.out.below b5h.out, e, Below.turnG (BWH.out.stepL b5h.out BWH.out.size) _⟩
          clear A6 RC OS OKH NWH BCH BWH LTH b5h eX e
          go_wp2
          go_ret
          exact F.out
        | true =>
          obtain ⟨eX, e⟩ := A6.out.2 rfl
          have BD : Below w5.heap.size w5 w5.drew := (Below.refl _ _).drew
          have C5 := hidC ((RC.out.below b5h.out).below BD)
          have c6 : w5.drew.cell? ⟨rb, 6, none⟩ = some (.slice va LV.length vc) := C5.out.c6
          have T5 : Hid (TurnG (fun x => x = rb) w w5.drew) := (Below.turnG (BWH.out.stepL b5h.out BWH.out.size) _).trans (Below.turnG BD _)
          have B5 : Hid (Below wc.heap.size wc w5.drew) := b5h.out.drew
          have K3 := rwith19_any (C5.out.ow.rd (by omega)) C5.out.ow.cap hvf (by omega) (c := ⟨⟨ky, ln, ep, st⟩, .slice oa st.length oc⟩) ((OKH.out.bel b5h.out).bel BD)
          have CS := OS.out _ B5.out
          have EH := hidC e
          have EXH := hidC eX
          clear e eX A6 b5h BD
          go_wp2_with fail
          refine wp_region_held_drew (S := fun V => V.cell? ⟨ob, 0, none⟩ = some (.string ⟨ky.toArray⟩) ∧ V.cell? ⟨ob, 1, none⟩ = some (.int .i64 ln) ∧ V.cell? ⟨ob, 2, none⟩ = some (.int .i64 ep) ∧ V.cell? ⟨ob, 3, none⟩ = some (.slice oa st.length oc)) (by kernel_rfl) CS (fun hHeld => ?_)
          clear CS
          refine tkH 0 ?_
          refine tkH 1 ?_
          refine tkH 2 ?_
          refine tkH 3 ?_
          refine tkH 5 ?_
          refine rnH 4 (fun K' hK => ?_)
          go_simp
          refine koH hK (OS.out _ B5.out) fun hHeld => ?_
          clear hK K' hHeld
          refine rnH 6 (fun K' hK => ?_)
          go_simp
          go_at_call 36
          refine K3.mono ?_
          clear K3 c6
          rintro _ w6 ⟨v2, M2, rfl, ow2, oq2, eq2, mm2, b6⟩
          dsimp only
          have C6 := hidC (C5.out.below b6)
          have c6 := C6.out.c6
          have fz := C6.out.fz
          have ST := hidC (C5.out.store b6 ow2 oq2 (by
            have h1 := wiC_length19 (oL LV) ⟨ky, ln, ep, st⟩
            rw [← eq2, oL_length, oL_length] at h1
            omega) (fun x hx => by
            rcases mm2 x hx with h | h
            · exact ⟨C5.out.sts x h, C5.out.off x h⟩
            · rw [h]
              exact ⟨by show st.length ≤ 1000; omega, fun x n c e => Or.inr (fun q => by have := NWH.out x n c e; have := LTH.out; omega)⟩))
          obtain ⟨va2, vc2, e2, _⟩ := ow2.form19
          subst e2
          have F : Hid (RApp19 w rb g X L (.returned (.int .i64 0)) (w6.setCell ⟨rb, 6, none⟩ (.slice va2 M2.length vc2))) := ⟨M2, _, by rw [EXH.out], ST.out.1, eq2.trans EH.out, T5.out.trans ST.out.2⟩
          have SE : Hid ((w6.setCell ⟨rb, 6, none⟩ (.slice va2 M2.length vc2)).cell? ⟨ob, 0, none⟩ = some (.string ⟨ky.toArray⟩) ∧ (w6.setCell ⟨rb, 6, none⟩ (.slice va2 M2.length vc2)).cell? ⟨ob, 1, none⟩ = some (.int .i64 ln) ∧ (w6.setCell ⟨rb, 6, none⟩ (.slice va2 M2.length vc2)).cell? ⟨ob, 2, none⟩ = some (.int .i64 ep) ∧ (w6.setCell ⟨rb, 6, none⟩ (.slice va2 M2.length vc2)).cell? ⟨ob, 3, none⟩ = some (.slice oa st.length oc)) := by
            obtain ⟨q0, q1, q2, q3⟩ := OS.out w6 (B5.out.stepL b6 B5.out.size)
            refine ⟨(World.cell?_setCell_other _ _ _ _ ?_).trans q0, (World.cell?_setCell_other _ _ _ _ ?_).trans q1, (World.cell?_setCell_other _ _ _ _ ?_).trans q2, (World.cell?_setCell_other _ _ _ _ ?_).trans q3⟩ <;> simp [nob]
          refine koH hK (OS.out _ (B5.out.stepL b6 B5.out.size)) fun hHeld => ?_
          clear hK K'
          refine tkH 7 ?_
          refine tkH 8 ?_
          clear hHeld
          refine rnH 9 (fun K' hK => ?_)
          go_simp
          refine koH hK SE.out fun hHeld => ?_
          clear hK K' hHeld
          refine wpAnyH_done (by kernel_rfl) ?_ _
          clear c6 fz C5 C6 RC OS OKH NWH BCH BWH LTH T5 B5 SE ST EH EXH ow2 oq2 eq2 mm2 b6
          go_wp2
          go_ret
          exact F.out
  · have A6 := hidC (A5.out (by first | rfl | trivial) hkd (fun q => hneg q.1))
    have d1 := hidC (show decide (ix < 0) = false from decide_eq_false hneg)
    clear A4 A5 hneg
    go_wp2_with fail
    refine wp_region_held_drew (S := fun V => V.cell? ⟨rb, 6, none⟩ = some (.slice va LV.length vc) ∧ V.cell? ⟨rb, 5, none⟩ = some (.int .i64 go)) (by kernel_rfl) (C9.out _ (Below.refl _ _).drew) (fun hHeld => ?_)
    refine tkH 0 ?_
    refine tkH 1 ?_
    simp only [d1.out]
    refine tkH 2 ?_
    refine skH 3 ?_
    refine skH 4 ?_
    refine skH 5 ?_
    refine skH 6 ?_
    refine skH 7 ?_
    refine skH 8 ?_
    refine skH 9 ?_
    refine skH 10 ?_
    refine skH 11 ?_
    refine skH 12 ?_
    refine skH 13 ?_
    refine tkH 14 ?_
    refine wpAnyH_done (by kernel_rfl) ?_ _
    clear hHeld
    clear C9 d1
    have SR : Hid (∀ V, Below w3.heap.size w3 V → V.cell? ⟨w.heap.size, 0, none⟩ = some (.int .i64 kd) ∧ V.cell? ⟨w.heap.size, 1, none⟩ = some (.string ⟨ky.toArray⟩) ∧ V.cell? ⟨w.heap.size, 2, none⟩ = some (.int .i64 ln) ∧ V.cell? ⟨w.heap.size, 3, none⟩ = some (.slice sa st.length sc)) := fun V bV => by
      obtain ⟨_, p0, p1, p2, p3, _⟩ := TA.out V (b3'.out.step16 bV b3'.out.size)
      exact ⟨p0, p1, p2, p3⟩
    have RS : Hid (∀ V, Below w3.heap.size w3 V → RdI V (.slice sa st.length sc) st) := fun V bV => (HC.out.rs.below BB.out).below bV
    have WFS : Hid ((Lit.int .i64 ln).wf = true ∧ (Lit.int .i64 ep).wf = true ∧ ky.length ≤ maxLen ∧ ∀ z ∈ st, (Lit.int .i64 z).wf = true) := ⟨HC.out.wl, he, HC.out.ky, HC.out.wi⟩
    have bD : Below w3.heap.size w3 w3.drew := (Below.refl _ _).drew
    obtain ⟨wx, ewx⟩ : ∃ x, x = w3.drew := ⟨_, rfl⟩
    have bx : Below w3.heap.size w3 wx := by rw [ewx]; exact bD
    have bx0 : Below w3.heap.size w3 wx.drew := bx.drew
    rw [← ewx]
    clear ewx
    go_upto_region 11 with fail
    go_cut [8] from 41 to 65 (fun s8 wx => ObBox19 w3 ⟨ky, ln, ep, st⟩ s8 wx)
    case first =>
      refine wp_region_held_drew (S := fun V => V.cell? ⟨w.heap.size, 0, none⟩ = some (.int .i64 kd) ∧ V.cell? ⟨w.heap.size, 1, none⟩ = some (.string ⟨ky.toArray⟩) ∧ V.cell? ⟨w.heap.size, 2, none⟩ = some (.int .i64 ln) ∧ V.cell? ⟨w.heap.size, 3, none⟩ = some (.slice sa st.length sc)) (by kernel_rfl) (SR.out _ bx0) (fun hHeld => ?_)
      refine tkH 0 ?_
      refine tkH 1 ?_
      refine tkH 2 ?_
      refine tkH 3 ?_
      refine tkH 4 ?_
      refine tkH 6 ?_
      refine tkH 7 ?_
      clear hHeld
      refine rmH 5 10 (fun K' hK => ?_) fun K' hK => ?_
      · have bA : Below w3.heap.size w3 (wx.alloc (.cells #[] 3)).drew := (bx.stepL (belL _ _) bx.size).drew
        have oA : OwnZ (wx.alloc (.cells #[] 3)).drew w3.heap.size 3 (.slice (some ⟨wx.heap.size, 0, none⟩) 0 0) [] := (made_zs wx bx.size)
        go_simp
        refine koH hK (SR.out _ bA) fun hHeld => ?_
        clear hK K' hHeld
        refine rmH 8 10 (fun K' hK => ?_) fun K' hK => ?_
        · refine step_append_zs rfl (.tmp 61) (.tmp 63) rfl w3.heap.size (.slice (some ⟨wx.heap.size, 0, none⟩) 0 0) [] rfl oA (.slice sa st.length sc) st rfl (RS.out _ bA) hcap (by simp; omega) bA.size ?_
          intro v1 w1 o1 g1
          rw [List.nil_append] at o1
          have b1 : Below w3.heap.size w3 w1 := g1.bel19 bA bA.size (fun q e => by have := bx.size; rw [own_is19 e]; omega)
          have pl := zs_place g1 o1
          have nwz : NewS w3.heap.size v1 := OwnZ.new o1
          obtain ⟨va1, vc1, rfl⟩ := owns_form o1
          have rd1 := OwnZ.rd o1 (by omega)
          go_simp
          refine koH hK (SR.out w1 b1) fun hHeld => ?_
          clear hK K'
          have plh := hidC pl
          have nwh := hidC nwz
          have rdh := hidC rd1
          have oh := hidC o1
          have gh := hidC g1
          clear pl nwz rd1 o1 g1
          refine tkH 9 (v := .agg #[.string ⟨ky.toArray⟩, .int .i64 ln, .int .i64 ep, .slice va1 st.length vc1]) ?_ (hy := Or.inl ⟨by rfl, fun w _ => by show Sem.run _ _ _ = _; simp [go_sem]⟩)
          clear hHeld
          have pl := plh.out
          have nwz := nwh.out
          have rd1 := rdh.out
          have g1 := gh.out
          have o1 := oh.out
          obtain ⟨wz, hwz⟩ : ∃ x, x = w1.alloc (.cells #[.string ⟨#[]⟩, .int .i64 0, .int .i64 0, .slice none 0 0] 52) := ⟨_, rfl⟩
          obtain ⟨bz, z0, z1, z2, z3, zf⟩ := box4 w1 (.string ⟨#[]⟩) (.int .i64 0) (.int .i64 0) (.slice none 0 0) 52 _ (Below.refl _ _)
          rw [← hwz] at bz z0 z1 z2 z3 zf
          have BZ : Below w3.heap.size w3 wz := b1.stepL bz b1.size
          have ltb : w1.heap.size < wz.heap.size := by rw [hwz]; simp
          have lob : w3.heap.size ≤ w1.heap.size := b1.size
          have rdz := rd1.below bz
          have okz : ObOk wz ⟨⟨ky, ln, ep, st⟩, .slice va1 st.length vc1⟩ := ⟨WFS.out.1, WFS.out.2.1, WFS.out.2.2.1, rdz, WFS.out.2.2.2⟩
          have nez : ApartG (fun x => x = w1.heap.size) (.slice va1 st.length vc1) := fun x n c e => (rd1.lays x n c e).imp id fun q q2 => by omega
          refine rnH 10 (fun K' hK => ?_)
          go_simp
          rw [← hwz]
          refine koH hK (SR.out wz BZ) fun hHeld => ?_
          clear hK K' hHeld hwz pl g1 o1 rd1 oA bA
          have f0 := zf 0
          have f1 := zf 1
          have f2 := zf 2
          have f3 := zf 3
          refine rnH 11 (fun K' hK => ?_)
          obtain ⟨wy, hy⟩ : ∃ x, x = (((wz.setCell ⟨w1.heap.size, 0, none⟩ (.string ⟨ky.toArray⟩)).setCell ⟨w1.heap.size, 1, none⟩ (.int .i64 ln)).setCell ⟨w1.heap.size, 2, none⟩ (.int .i64 ep)).setCell ⟨w1.heap.size, 3, none⟩ (.slice va1 st.length vc1) := ⟨_, rfl⟩
          obtain ⟨OB, BY⟩ := obox_end (o := ⟨ky, ln, ep, st⟩) BZ lob ltb z0 z1 z2 z3 okz nwz nez hy
          go_simp
          rw [← hy]
          clear hy
          refine koH hK (SR.out wy BY) fun hHeld => ?_
          clear hK K' hHeld f0 f1 f2 f3 zf z0 z1 z2 z3 okz nwz nez BZ
          refine wpAnyH_done (by kernel_rfl) ?_ _
          have OBH := hidC OB
          clear OB BY
          go_wp2_with fail
          go_meet
          case rel => exact OBH.out
        · have bA2 : Below w3.heap.size w3 ((wx.alloc (.cells #[] 3)).alloc (.cells #[.string ⟨#[]⟩, .int .i64 0, .int .i64 0, .slice none 0 0] 52)).drew := ((bx.stepL (belL _ _) bx.size).stepL (belL _ _) (by have := bx.size; simp; omega)).drew
          have oA2 : OwnZ ((wx.alloc (.cells #[] 3)).alloc (.cells #[.string ⟨#[]⟩, .int .i64 0, .int .i64 0, .slice none 0 0] 52)).drew w3.heap.size 3 (.slice (some ⟨wx.heap.size, 0, none⟩) 0 0) [] := (made_zs wx bx.size).alloc _
          obtain ⟨_, z0, z1, z2, z3, zf⟩ := box4 (wx.alloc (.cells #[] 3)) (.string ⟨#[]⟩) (.int .i64 0) (.int .i64 0) (.slice none 0 0) 52 _ (Below.refl _ _)
          have sx : (wx.alloc (.cells #[] 3)).heap.size = wx.heap.size + 1 := by simp
          rw [sx] at z0 z1 z2 z3 zf
          go_simp
          refine koH hK (SR.out _ bA2) fun hHeld => ?_
          clear hK K' hHeld oA bA
          have oA := oA2
          have bA := bA2
          refine rnH 8 (fun K' hK => ?_)
          refine step_append_zs rfl (.tmp 61) (.tmp 63) rfl w3.heap.size (.slice (some ⟨wx.heap.size, 0, none⟩) 0 0) [] rfl oA (.slice sa st.length sc) st rfl (RS.out _ bA) hcap (by simp; omega) bA.size ?_
          intro v1 w1 o1 g1
          rw [List.nil_append] at o1
          have b1 : Below w3.heap.size w3 w1 := g1.bel19 bA bA.size (fun q e => by have := bx.size; rw [own_is19 e]; omega)
          have pl := zs_place g1 o1
          have nwz : NewS w3.heap.size v1 := OwnZ.new o1
          obtain ⟨va1, vc1, rfl⟩ := owns_form o1
          have rd1 := OwnZ.rd o1 (by omega)
          go_simp
          refine koH hK (SR.out w1 b1) fun hHeld => ?_
          clear hK K'
          have plh := hidC pl
          have nwh := hidC nwz
          have rdh := hidC rd1
          have oh := hidC o1
          have gh := hidC g1
          clear pl nwz rd1 o1 g1
          refine tkH 9 (v := .agg #[.string ⟨ky.toArray⟩, .int .i64 ln, .int .i64 ep, .slice va1 st.length vc1]) ?_ (hy := Or.inl ⟨by rfl, fun w _ => by show Sem.run _ _ _ = _; simp [go_sem]⟩)
          clear hHeld
          have pl := plh.out
          have nwz := nwh.out
          have rd1 := rdh.out
          have g1 := gh.out
          have o1 := oh.out
          obtain ⟨wz, hwz⟩ : ∃ x, x = w1 := ⟨_, rfl⟩
          subst hwz
          have hlt : wx.heap.size + 1 < (((wx.alloc (.cells #[] 3)).alloc (.cells #[.string ⟨#[]⟩, .int .i64 0, .int .i64 0, .slice none 0 0] 52)).drew).heap.size := by simp; try omega
          have hne : (Value.slice (some ⟨wx.heap.size, 0, none⟩) 0 0).ownBlock ≠ some (wx.heap.size + 1) := fun e => by have := own_is19 e; omega
          replace z0 := (g1.cell (p := ⟨wx.heap.size + 1, 0, none⟩) hlt hne).trans z0
          replace z1 := (g1.cell (p := ⟨wx.heap.size + 1, 1, none⟩) hlt hne).trans z1
          replace z2 := (g1.cell (p := ⟨wx.heap.size + 1, 2, none⟩) hlt hne).trans z2
          replace z3 := (g1.cell (p := ⟨wx.heap.size + 1, 3, none⟩) hlt hne).trans z3
          replace zf : ∀ j, wz.frozen? ⟨wx.heap.size + 1, j, none⟩ = false := fun j => (g1.frozen (p := ⟨wx.heap.size + 1, j, none⟩) hlt hne).trans (zf j)
          have BZ := b1
          have rdz := rd1
          have okz : ObOk wz ⟨⟨ky, ln, ep, st⟩, .slice va1 st.length vc1⟩ := ⟨WFS.out.1, WFS.out.2.1, WFS.out.2.2.1, rdz, WFS.out.2.2.2⟩
          have ltb : wx.heap.size + 1 < wz.heap.size := Nat.lt_of_lt_of_le hlt g1.gr.size
          have lob : w3.heap.size ≤ wx.heap.size + 1 := by have := bx.size; omega
          have nez : ApartG (fun x => x = wx.heap.size + 1) (.slice va1 st.length vc1) := fun x n c e => Or.inr fun q => by
            rcases pl x n c e with k | k
            · have := own_is19 k; omega
            · have h9 : wx.heap.size + 1 < (((wx.alloc (.cells #[] 3)).alloc (.cells #[.string ⟨#[]⟩, .int .i64 0, .int .i64 0, .slice none 0 0] 52)).drew).heap.size := hlt
              omega
          clear pl g1 o1 rd1 oA bA hlt hne
          have f0 := zf 0
          have f1 := zf 1
          have f2 := zf 2
          have f3 := zf 3
          refine rnH 11 (fun K' hK => ?_)
          obtain ⟨wy, hy⟩ : ∃ x, x = (((wz.setCell ⟨wx.heap.size + 1, 0, none⟩ (.string ⟨ky.toArray⟩)).setCell ⟨wx.heap.size + 1, 1, none⟩ (.int .i64 ln)).setCell ⟨wx.heap.size + 1, 2, none⟩ (.int .i64 ep)).setCell ⟨wx.heap.size + 1, 3, none⟩ (.slice va1 st.length vc1) := ⟨_, rfl⟩
          obtain ⟨OB, BY⟩ := obox_end (o := ⟨ky, ln, ep, st⟩) BZ lob ltb z0 z1 z2 z3 okz nwz nez hy
          go_simp
          rw [← hy]
          clear hy
          refine koH hK (SR.out wy BY) fun hHeld => ?_
          clear hK K' hHeld f0 f1 f2 f3 zf z0 z1 z2 z3 okz nwz nez BZ
          refine wpAnyH_done (by kernel_rfl) ?_ _
          have OBH := hidC OB
          clear OB BY
          go_wp2_with fail
          go_meet
          case rel => exact OBH.out
      · have bB : Below w3.heap.size w3 (wx.alloc (.cells #[.string ⟨#[]⟩, .int .i64 0, .int .i64 0, .slice none 0 0] 52)).drew := (bx.stepL (belL _ _) bx.size).drew
        have bA : Below w3.heap.size w3 ((wx.alloc (.cells #[.string ⟨#[]⟩, .int .i64 0, .int .i64 0, .slice none 0 0] 52)).alloc (.cells #[] 3)).drew := ((bx.stepL (belL _ _) bx.size).stepL (belL _ _) (by have := bx.size; simp; omega)).drew
        have sx : (wx.alloc (.cells #[.string ⟨#[]⟩, .int .i64 0, .int .i64 0, .slice none 0 0] 52)).heap.size = wx.heap.size + 1 := by simp
        have oA : OwnZ ((wx.alloc (.cells #[.string ⟨#[]⟩, .int .i64 0, .int .i64 0, .slice none 0 0] 52)).alloc (.cells #[] 3)).drew w3.heap.size 3 (.slice (some ⟨wx.heap.size + 1, 0, none⟩) 0 0) [] := by
          have h := made_zs (wx.alloc (.cells #[.string ⟨#[]⟩, .int .i64 0, .int .i64 0, .slice none 0 0] 52)) (base := w3.heap.size) (by have := bx.size; omega)
          rw [sx] at h
          exact h
        obtain ⟨_, z0, z1, z2, z3, zf⟩ := box4 wx (.string ⟨#[]⟩) (.int .i64 0) (.int .i64 0) (.slice none 0 0) 52 ((wx.alloc (.cells #[.string ⟨#[]⟩, .int .i64 0, .int .i64 0, .slice none 0 0] 52)).alloc (.cells #[] 3)).drew ((belL _ _).drew)
        go_simp
        refine koH hK (SR.out _ bB) fun hHeld => ?_
        clear hK K' hHeld
        refine rnH 5 (fun K' hK => ?_)
        go_simp
        refine koH hK (SR.out _ bA) fun hHeld => ?_
        clear hK K' hHeld
        refine rnH 8 (fun K' hK => ?_)
        refine step_append_zs rfl (.tmp 61) (.tmp 63) rfl w3.heap.size (.slice (some ⟨wx.heap.size + 1, 0, none⟩) 0 0) [] rfl oA (.slice sa st.length sc) st rfl (RS.out _ bA) hcap (by simp; omega) bA.size ?_
        intro v1 w1 o1 g1
        rw [List.nil_append] at o1
        have b1 : Below w3.heap.size w3 w1 := g1.bel19 bA bA.size (fun q e => by have := bx.size; rw [own_is19 e]; omega)
        have pl := zs_place g1 o1
        have nwz : NewS w3.heap.size v1 := OwnZ.new o1
        obtain ⟨va1, vc1, rfl⟩ := owns_form o1
        have rd1 := OwnZ.rd o1 (by omega)
        go_simp
        refine koH hK (SR.out w1 b1) fun hHeld => ?_
        clear hK K'
        have plh := hidC pl
        have nwh := hidC nwz
        have rdh := hidC rd1
        have oh := hidC o1
        have gh := hidC g1
        clear pl nwz rd1 o1 g1
        refine tkH 9 (v := .agg #[.string ⟨ky.toArray⟩, .int .i64 ln, .int .i64 ep, .slice va1 st.length vc1]) ?_ (hy := Or.inl ⟨by rfl, fun w _ => by show Sem.run _ _ _ = _; simp [go_sem]⟩)
        clear hHeld
        have pl := plh.out
        have nwz := nwh.out
        have rd1 := rdh.out
        have g1 := gh.out
        have o1 := oh.out
        obtain ⟨wz, hwz⟩ : ∃ x, x = w1 := ⟨_, rfl⟩
        subst hwz
        have hlt : wx.heap.size < (((wx.alloc (.cells #[.string ⟨#[]⟩, .int .i64 0, .int .i64 0, .slice none 0 0] 52)).alloc (.cells #[] 3)).drew).heap.size := by simp; try omega
        have hne : (Value.slice (some ⟨wx.heap.size + 1, 0, none⟩) 0 0).ownBlock ≠ some (wx.heap.size) := fun e => by have := own_is19 e; omega
        replace z0 := (g1.cell (p := ⟨wx.heap.size, 0, none⟩) hlt hne).trans z0
        replace z1 := (g1.cell (p := ⟨wx.heap.size, 1, none⟩) hlt hne).trans z1
        replace z2 := (g1.cell (p := ⟨wx.heap.size, 2, none⟩) hlt hne).trans z2
        replace z3 := (g1.cell (p := ⟨wx.heap.size, 3, none⟩) hlt hne).trans z3
        replace zf : ∀ j, wz.frozen? ⟨wx.heap.size, j, none⟩ = false := fun j => (g1.frozen (p := ⟨wx.heap.size, j, none⟩) hlt hne).trans (zf j)
        have BZ := b1
        have rdz := rd1
        have okz : ObOk wz ⟨⟨ky, ln, ep, st⟩, .slice va1 st.length vc1⟩ := ⟨WFS.out.1, WFS.out.2.1, WFS.out.2.2.1, rdz, WFS.out.2.2.2⟩
        have ltb : wx.heap.size < wz.heap.size := Nat.lt_of_lt_of_le hlt g1.gr.size
        have lob : w3.heap.size ≤ wx.heap.size := by have := bx.size; omega
        have nez : ApartG (fun x => x = wx.heap.size) (.slice va1 st.length vc1) := fun x n c e => Or.inr fun q => by
          rcases pl x n c e with k | k
          · have := own_is19 k; omega
          · have h9 : wx.heap.size < (((wx.alloc (.cells #[.string ⟨#[]⟩, .int .i64 0, .int .i64 0, .slice none 0 0] 52)).alloc (.cells #[] 3)).drew).heap.size := hlt
            omega
        clear pl g1 o1 rd1 oA bA hlt hne
        have f0 := zf 0
        have f1 := zf 1
        have f2 := zf 2
        have f3 := zf 3
        refine rnH 11 (fun K' hK => ?_)
        obtain ⟨wy, hy⟩ : ∃ x, x = (((wz.setCell ⟨wx.heap.size, 0, none⟩ (.string ⟨ky.toArray⟩)).setCell ⟨wx.heap.size, 1, none⟩ (.int .i64 ln)).setCell ⟨wx.heap.size, 2, none⟩ (.int .i64 ep)).setCell ⟨wx.heap.size, 3, none⟩ (.slice va1 st.length vc1) := ⟨_, rfl⟩
        obtain ⟨OB, BY⟩ := obox_end (o := ⟨ky, ln, ep, st⟩) BZ lob ltb z0 z1 z2 z3 okz nwz nez hy
        go_simp
        rw [← hy]
        clear hy
        refine koH hK (SR.out wy BY) fun hHeld => ?_
        clear hK K' hHeld f0 f1 f2 f3 zf z0 z1 z2 z3 okz nwz nez BZ
        refine wpAnyH_done (by kernel_rfl) ?_ _
        have OBH := hidC OB
        clear OB BY
        go_wp2_with fail
        go_meet
        case rel => exact OBH.out
    case rest =>
      obtain ⟨ob, sv8, e8, BC, o0, o1, o2, o3, okO, nwO, ltO⟩ := hcut
      subst e8
      obtain ⟨oa, oc, eo⟩ := okO.rs.form
      simp only at eo
      subst eo
      have BWC := BB.out.stepL BC BB.out.size
      have RC := hidC (R3h.out.below BC)
      have nob : ob ≠ rb := fun e => by
        have h1 := RC.out.ge.1
        rw [← e, o0] at h1
        cases h1
      have OS : Hid (∀ V, Below wc.heap.size wc V → V.cell? ⟨ob, 0, none⟩ = some (.string ⟨ky.toArray⟩) ∧ V.cell? ⟨ob, 1, none⟩ = some (.int .i64 ln) ∧ V.cell? ⟨ob, 2, none⟩ = some (.int .i64 ep) ∧ V.cell? ⟨ob, 3, none⟩ = some (.slice oa st.length oc)) := fun V bV => ⟨(bV.cell (p := ⟨ob, 0, none⟩) ltO).trans o0, (bV.cell (p := ⟨ob, 1, none⟩) ltO).trans o1, (bV.cell (p := ⟨ob, 2, none⟩) ltO).trans o2, (bV.cell (p := ⟨ob, 3, none⟩) ltO).trans o3⟩
      have KF := rfits19_any RC.out.cat hgw (c := ⟨⟨ky, ln, ep, st⟩, .slice oa st.length oc⟩) okO (by show st.length ≤ 100000; omega) hpX.out
      have OKH := hidC okO
      have NWH := hidC nwO
      have BCH := hidC BC
      have BWH := hidC BWC
      have LTH : Hid (rb < w3.heap.size) := R3h.out.lt
      obtain ⟨y0, y1, y2, y3⟩ := OS.out wc (Below.refl _ _)
      clear o0 o1 o2 o3 okO nwO BC BWC hpX
      go_wp2_with fail
      refine KF.mono ?_
      clear KF y0 y1 y2 y3
      rintro _ w5 ⟨rfl, b5⟩
      have b5h := hidC b5
      clear b5
      cases pX with
      | false =>
        obtain ⟨eX, e⟩ := A6.out.1 rfl
        have F : Hid (RApp19 w rb g X L (.returned (.int .i64 1)) w5) := ⟨LV, _, by rw [eX], RC.out.below b5h.out, e, Below.turnG (BWH.out.stepL b5h.out BWH.out.size) _⟩
        clear A6 RC OS OKH NWH BCH BWH LTH b5h eX e
        go_wp2
        go_ret
        exact F.out
      | true =>
        obtain ⟨eX, e⟩ := A6.out.2 rfl
        have BD : Below w5.heap.size w5 w5.drew := (Below.refl _ _).drew
        have C5 := hidC ((RC.out.below b5h.out).below BD)
        have c6 : w5.drew.cell? ⟨rb, 6, none⟩ = some (.slice va LV.length vc) := C5.out.c6
        have T5 : Hid (TurnG (fun x => x = rb) w w5.drew) := (Below.turnG (BWH.out.stepL b5h.out BWH.out.size) _).trans (Below.turnG BD _)
        have B5 : Hid (Below wc.heap.size wc w5.drew) := b5h.out.drew
        have K3 := rwith19_any (C5.out.ow.rd (by omega)) C5.out.ow.cap hvf (by omega) (c := ⟨⟨ky, ln, ep, st⟩, .slice oa st.length oc⟩) ((OKH.out.bel b5h.out).bel BD)
        have CS := OS.out _ B5.out
        have EH := hidC e
        have EXH := hidC eX
        clear e eX A6 b5h BD
        go_wp2_with fail
        refine wp_region_held_drew (S := fun V => V.cell? ⟨ob, 0, none⟩ = some (.string ⟨ky.toArray⟩) ∧ V.cell? ⟨ob, 1, none⟩ = some (.int .i64 ln) ∧ V.cell? ⟨ob, 2, none⟩ = some (.int .i64 ep) ∧ V.cell? ⟨ob, 3, none⟩ = some (.slice oa st.length oc)) (by kernel_rfl) CS (fun hHeld => ?_)
        clear CS
        refine tkH 0 ?_
        refine tkH 1 ?_
        refine tkH 2 ?_
        refine tkH 3 ?_
        refine tkH 5 ?_
        refine rnH 4 (fun K' hK => ?_)
        go_simp
        refine koH hK (OS.out _ B5.out) fun hHeld => ?_
        clear hK K' hHeld
        refine rnH 6 (fun K' hK => ?_)
        go_simp
        go_at_call 36
        refine K3.mono ?_
        clear K3 c6
        rintro _ w6 ⟨v2, M2, rfl, ow2, oq2, eq2, mm2, b6⟩
        dsimp only
        have C6 := hidC (C5.out.below b6)
        have c6 := C6.out.c6
        have fz := C6.out.fz
        have ST := hidC (C5.out.store b6 ow2 oq2 (by
          have h1 := wiC_length19 (oL LV) ⟨ky, ln, ep, st⟩
          rw [← eq2, oL_length, oL_length] at h1
          omega) (fun x hx => by
          rcases mm2 x hx with h | h
          · exact ⟨C5.out.sts x h, C5.out.off x h⟩
          · rw [h]
            exact ⟨by show st.length ≤ 1000; omega, fun x n c e => Or.inr (fun q => by have := NWH.out x n c e; have := LTH.out; omega)⟩))
        obtain ⟨va2, vc2, e2, _⟩ := ow2.form19
        subst e2
        have F : Hid (RApp19 w rb g X L (.returned (.int .i64 0)) (w6.setCell ⟨rb, 6, none⟩ (.slice va2 M2.length vc2))) := ⟨M2, _, by rw [EXH.out], ST.out.1, eq2.trans EH.out, T5.out.trans ST.out.2⟩
        have SE : Hid ((w6.setCell ⟨rb, 6, none⟩ (.slice va2 M2.length vc2)).cell? ⟨ob, 0, none⟩ = some (.string ⟨ky.toArray⟩) ∧ (w6.setCell ⟨rb, 6, none⟩ (.slice va2 M2.length vc2)).cell? ⟨ob, 1, none⟩ = some (.int .i64 ln) ∧ (w6.setCell ⟨rb, 6, none⟩ (.slice va2 M2.length vc2)).cell? ⟨ob, 2, none⟩ = some (.int .i64 ep) ∧ (w6.setCell ⟨rb, 6, none⟩ (.slice va2 M2.length vc2)).cell? ⟨ob, 3, none⟩ = some (.slice oa st.length oc)) := by
          obtain ⟨q0, q1, q2, q3⟩ := OS.out w6 (B5.out.stepL b6 B5.out.size)
          refine ⟨(World.cell?_setCell_other _ _ _ _ ?_).trans q0, (World.cell?_setCell_other _ _ _ _ ?_).trans q1, (World.cell?_setCell_other _ _ _ _ ?_).trans q2, (World.cell?_setCell_other _ _ _ _ ?_).trans q3⟩ <;> simp [nob]
        refine koH hK (OS.out _ (B5.out.stepL b6 B5.out.size)) fun hHeld => ?_
        clear hK K'
        refine tkH 7 ?_
        refine tkH 8 ?_
        clear hHeld
        refine rnH 9 (fun K' hK => ?_)
        go_simp
        refine koH hK SE.out fun hHeld => ?_
        clear hK K' hHeld
        refine wpAnyH_done (by kernel_rfl) ?_ _
        clear c6 fz C5 C6 RC OS OKH NWH BCH BWH LTH T5 B5 SE ST EH EXH ow2 oq2 eq2 mm2 b6
        go_wp2
        go_ret
        exact F.out
end Go.Proofs.Ytndlfmofjmieaaa.Gf
