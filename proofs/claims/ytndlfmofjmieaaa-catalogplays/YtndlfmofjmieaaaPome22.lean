/- TEXTS JOINED: CtRefH, CtRefI, CtRefJ. -/
import Derived.Test.YtndlfmofjmieaaaPome21
namespace Go.Proofs.Ytndlfmofjmieaaa.Gf
set_option linter.unusedVariables false
set_option linter.unusedSimpArgs false
open Go.RowKit
set_option maxRecDepth 100000 in
set_option maxHeartbeats 40000000 in
theorem rapply19_del {w : World} {rb : Nat} {g : GeoS} {LV : List ObV} {v : Value} (h : CatR w rb g LV v) (hgw : g.Wf) (hgo : g.o ≤ 64) (hll : LV.length ≤ 64) {c : RcV} (hc : c.In w) (hcap : ∀ n d, c.vs = .slice none n d → d = 0) {ep : Int} (he : (Lit.int .i64 ep).wf = true) {X : Int} {L : List ObS} (hd : Hid (c.r.kind = 2)) (hcv : Hid (∀ a n d, v = .slice a n d → (d : Int) = finI (oL LV) c.r.key + 1)) (hX : apCX g (oL LV) c.r ep = X) (hL : apCS g (oL LV) c.r ep = L) :
    Calls Try.prog 38 #[.pointer (some ⟨rb, 0, none⟩), aggR c, .int .i64 ep] w (RApp19 w rb g X L) := by
  obtain ⟨⟨kd, ky, ln, st⟩, vs⟩ := c
  have HC := hidC hc
  obtain ⟨sa, sc, e⟩ := hc.rs.form
  simp only at e hX hL hcap
  subst e
  have H := hidC h
  clear h hc
  obtain ⟨ck, hck⟩ : ∃ z, Hid (chR ⟨kd, ky, ln, st⟩ = z) := ⟨_, rfl⟩
  have KC : ∀ V, Below w.heap.size w V → Calls Try.prog 54 #[.agg #[.int .i64 kd, .string ⟨ky.toArray⟩, .int .i64 ln, .slice sa st.length sc]] V fun e w' => e = .returned (.int .i64 ck) ∧ Below V.heap.size V w' := fun V bV =>
    rchk16_any (c := ⟨⟨kd, ky, ln, st⟩, .slice sa st.length sc⟩) (HC.out.below bV) hck.out
  have CKO : ck = 0 ↔ OkR ⟨kd, ky, ln, st⟩ := by
    rw [← hck.out]
    unfold chR
    by_cases q : OkR ⟨kd, ky, ln, st⟩
    · rw [if_pos q]; exact ⟨fun _ => q, fun _ => rfl⟩
    · rw [if_neg q]; exact ⟨fun k => absurd k (by decide), fun k => absurd k q⟩
  have OKS : Hid (ck = 0 → st.length ≤ 256) := fun q => (CKO.1 q).2.2.2.2.2.1
  have KI := fun V (bV : Below w.heap.size w V) => rfind19_any (H.out.below bV).cat ky
  obtain ⟨ix, hix⟩ : ∃ z, Hid (finI (oL LV) ky = z) := ⟨_, rfl⟩
  have HV1 : Hid (∀ a n d, v = .slice a n d → (d : Int) = ix + 1) := fun a n d e => by rw [← hix.out]; exact hcv.out a n d e
  clear hcv
  rw [hix.out] at KI
  have FN : Hid (ix < 0 ↔ finK (oL LV) ky = none) := by show _ ↔ _; rw [← hix.out]; exact finI_neg19 _ _
  obtain ⟨pX, hpX⟩ : ∃ z : Bool, Hid (decide (fitC g (oL LV) ⟨ky, ln, ep, st⟩) = z) := ⟨_, rfl⟩
  have A1 : Hid (¬ ck = 0 → X = 1 ∧ oL LV = L) := fun q => by
    have e : apCX g (oL LV) ⟨kd, ky, ln, st⟩ ep = 1 := by unfold apCX; rw [if_pos fun k => q (CKO.2 k)]
    refine ⟨hX.symm.trans e, ?_⟩
    rw [← hL]
    unfold apCS
    rw [e, if_neg (by decide)]
  have A2 : Hid (ck = 0 → kd = 2 → ix < 0 → X = 193 ∧ oL LV = L) := fun q q2 q3 => by
    have e : apCX g (oL LV) ⟨kd, ky, ln, st⟩ ep = 193 := by
      unfold apCX
      rw [if_neg (fun k => k (CKO.1 q)), if_pos q2, if_pos (FN.out.1 q3)]
    refine ⟨hX.symm.trans e, ?_⟩
    rw [← hL]
    unfold apCS
    rw [e, if_neg (by decide)]
  have A3 : Hid (ck = 0 → kd = 2 → ¬ ix < 0 → X = 0 ∧ deC (oL LV) ky = L) := fun q q2 q3 => by
    have e : apCX g (oL LV) ⟨kd, ky, ln, st⟩ ep = 0 := by
      unfold apCX
      rw [if_neg (fun k => k (CKO.1 q)), if_pos q2, if_neg (fun k => q3 (FN.out.2 k))]
    refine ⟨hX.symm.trans e, ?_⟩
    rw [← hL]
    unfold apCS
    rw [e, if_pos rfl, if_pos q2]
  have A4 : Hid (ck = 0 → ¬ kd = 2 → ix < 0 → g.o ≤ (LV.length : Int) → X = 191 ∧ oL LV = L) := fun q q2 q3 q4 => by
    have e : apCX g (oL LV) ⟨kd, ky, ln, st⟩ ep = 191 := by
      unfold apCX
      rw [if_neg (fun k => k (CKO.1 q)), if_neg q2, if_pos ⟨FN.out.1 q3, by rw [oL_length]; exact q4⟩]
    refine ⟨hX.symm.trans e, ?_⟩
    rw [← hL]
    unfold apCS
    rw [e, if_neg (by decide)]
  have A5 : Hid (ck = 0 → ¬ kd = 2 → ¬ (ix < 0 ∧ g.o ≤ (LV.length : Int)) → (pX = false → X = 1 ∧ oL LV = L) ∧ (pX = true → X = 0 ∧ wiC (oL LV) ⟨ky, ln, ep, st⟩ = L)) := fun q q2 q3 => by
    have q5 : ¬ (finK (oL LV) ky = none ∧ g.o ≤ ((oL LV).length : Int)) := fun k => q3 ⟨FN.out.2 k.1, by have := k.2; rw [oL_length] at this; exact this⟩
    constructor
    · intro q4
      have nf : ¬ fitC g (oL LV) (obR ⟨kd, ky, ln, st⟩ ep) := of_decide_eq_false (hpX.out.trans q4)
      have e : apCX g (oL LV) ⟨kd, ky, ln, st⟩ ep = 1 := by
        unfold apCX
        rw [if_neg (fun k => k (CKO.1 q)), if_neg q2, if_neg q5, if_pos nf]
      refine ⟨hX.symm.trans e, ?_⟩
      rw [← hL]
      unfold apCS
      rw [e, if_neg (by decide)]
    · intro q4
      have nf : fitC g (oL LV) (obR ⟨kd, ky, ln, st⟩ ep) := of_decide_eq_true (hpX.out.trans q4)
      have e : apCX g (oL LV) ⟨kd, ky, ln, st⟩ ep = 0 := by
        unfold apCX
        rw [if_neg (fun k => k (CKO.1 q)), if_neg q2, if_neg q5, if_neg (fun k => k nf)]
      refine ⟨hX.symm.trans e, ?_⟩
      rw [← hL]
      unfold apCS
      rw [e, if_pos rfl, if_neg q2]
      rfl
  have IXS : Hid (¬ ix < 0 → ∃ n : Nat, ix = (n : Int) ∧ n < LV.length ∧ (oL LV).take n ++ (oL LV).drop (n + 1) = deC (oL LV) ky) := fun q => by
    have h1 := hix.out
    unfold finI at h1
    by_cases k : idK (oL LV) ky < (oL LV).length
    · rw [if_pos k] at h1
      refine ⟨idK (oL LV) ky, h1.symm, by rwa [oL_length] at k, ?_⟩
      exact (idK_del k).symm
    · rw [if_neg k] at h1; omega
  clear CKO hX hL hck hix
  obtain ⟨W, hW⟩ : ∃ W, W = w.alloc (.cells #[.int .i64 kd, .string ⟨ky.toArray⟩, .int .i64 ln, .slice sa st.length sc] 39) := ⟨_, rfl⟩
  have TA : Hid (∀ V, Below W.heap.size W V → Below w.heap.size w V ∧ V.cell? ⟨w.heap.size, 0, none⟩ = some (.int .i64 kd) ∧ V.cell? ⟨w.heap.size, 1, none⟩ = some (.string ⟨ky.toArray⟩) ∧ V.cell? ⟨w.heap.size, 2, none⟩ = some (.int .i64 ln) ∧ V.cell? ⟨w.heap.size, 3, none⟩ = some (.slice sa st.length sc) ∧ ∀ j, V.frozen? ⟨w.heap.size, j, none⟩ = false) := by rw [hW]; exact box4 _ _ _ _ _ _
  have K1 := KC W (TA.out W (Below.refl _ _)).1
  clear KC
  show Calls Try.prog 38 #[.pointer (some ⟨rb, 0, none⟩), .agg #[.int .i64 kd, .string ⟨ky.toArray⟩, .int .i64 ln, .slice sa st.length sc], .int .i64 ep] w _
  go_enter Try.func38, Try.ntmps38
  go_wp2_with fail
  rw [← hW]
  clear hW
  refine K1.mono ?_
  clear K1
  rintro _ w2 ⟨rfl, b2⟩
  by_cases hck : ck = 0
  rotate_left
  · obtain ⟨rfl, e⟩ := A1.out hck
    have n1 : (ck == 0) = false := beq_eq_false_iff_ne.2 hck
    have n2 : (ck != 0) = true := by simp [bne, n1]
    have F : Hid (RApp19 w rb g 1 L (.returned (.int .i64 1)) w2) := ⟨LV, v, rfl, H.out.below (TA.out w2 b2).1, e, Below.turnG (TA.out w2 b2).1 _⟩
    clear A1 A2 A3 A4 A5 KI TA H HC b2 e IXS FN OKS
    go_wp2
    go_ret
    exact F.out
  subst hck
  obtain ⟨B2, q0, q1, q2, q3, _⟩ := TA.out w2 b2
  have K2 := KI w2 B2
  have bb := hidC b2
  have SL := OKS.out rfl
  clear KI A1 B2 b2 q0 q2 q3 OKS
  go_wp2_with fail
  refine K2.mono ?_
  clear K2 q1
  rintro _ w3 ⟨rfl, b3⟩
  have b3' := hidC (bb.out.stepL b3 bb.out.size)
  obtain ⟨B3, q0, q1, q2, q3, _⟩ := TA.out w3 b3'.out
  have BB := hidC B3
  clear bb b3 B3 q1 q2 q3
  have hkd : kd = 2 := hd.out
  clear hd
  subst hkd
  by_cases hneg : ix < 0
  · obtain ⟨rfl, e⟩ := A2.out (by first | rfl | trivial) (by first | rfl | trivial) (by omega)
    have F : Hid (RApp19 w rb g 193 L (.returned (.int .i64 193)) w3) := ⟨LV, v, rfl, H.out.below BB.out, e, Below.turnG BB.out _⟩
    clear A2 A3 A4 A5 TA H HC b3' BB IXS FN e
    go_wp2
    go_ret
    exact F.out
  · obtain ⟨rfl, e⟩ := A3.out (by first | rfl | trivial) (by first | rfl | trivial) (by omega)
    obtain ⟨n, rfl, hn, en⟩ := IXS.out (by omega)
    have R3 := H.out.below BB.out
    obtain ⟨va, vc, ev, hvf⟩ := R3.ow.form19
    obtain ⟨b, off, rfl⟩ : ∃ b off, va = some ⟨b, off, none⟩ := by
      rcases hvf with rfl | h
      · exfalso
        obtain ⟨_, ⟨h1, h2⟩ | ⟨gb, cap, cur, hv, _⟩⟩ := R3.ow.row
        · omega
        · rw [ev] at hv; simp at hv
      · exact h
    have hcapv : LV.length ≤ vc := (R3.ow.cap _ _ _ ev).1
    obtain ⟨wx, ewx⟩ : ∃ x, x = w3 := ⟨_, rfl⟩
    subst ewx
    have BX : Below wx.heap.size wx wx := Below.refl _ _
    have RX := R3.below BX
    subst ev
    have CX : Hid (∀ V, Below wx.heap.size wx V → V.cell? ⟨rb, 6, none⟩ = some (.slice (some ⟨b, off, none⟩) LV.length vc) ∧ V.frozen? ⟨rb, 6, none⟩ = false) := fun V bV => ⟨(RX.below bV).c6, (RX.below bV).fz⟩
    have hvx := RX.cat.ro
    have hvx' := hvx
    obtain ⟨TL, hTL⟩ : ∃ T, T = LV.take n := ⟨_, rfl⟩
    obtain ⟨TR, hTR⟩ : ∃ T, T = LV.drop (n + 1) := ⟨_, rfl⟩
    have HTL := hidC (show RdO wx (.slice (some ⟨b, off, none⟩) n vc) TL by rw [hTL]; exact hvx.take19 (by omega) rfl)
    have OKX := hidC (rdO_ok hvx)
    have LENS : Hid (TL.length ≤ 100 ∧ TR.length ≤ 100 ∧ (TL ++ TR).length ≤ 100) := by
      rw [hTL, hTR]
      refine ⟨by simp; omega, by simp; omega, by simp; omega⟩
    have INL : Hid (∀ c ∈ TL, ObOk wx c) := fun c hc => OKX.out c (by rw [hTL] at hc; exact List.mem_of_mem_take hc)
    have INR : Hid (∀ c ∈ TR, ObOk wx c) := fun c hc => OKX.out c (by rw [hTR] at hc; exact List.mem_of_mem_drop hc)
    have MEM : Hid (∀ c ∈ (([] : List ObV) ++ TL) ++ TR, c.o.st.length ≤ 1000 ∧ ApartG (fun x => x = rb) c.vs) := fun c hc => by
      have hm : c ∈ LV := by
        rw [List.nil_append, hTL, hTR] at hc
        rcases List.mem_append.1 hc with q | q
        · exact List.mem_of_mem_take q
        · exact List.mem_of_mem_drop q
      exact ⟨RX.sts c hm, RX.off c hm⟩
    have EQ : Hid (oL ((([] : List ObV) ++ TL) ++ TR) = L) := by
      show _ = _
      rw [← e, ← en, List.nil_append, oL_app, hTL, hTR, oL_take, oL_drop]
    have FIN : Hid (∀ (v2 : Value) (V : World), OwnOb V 0 v2 ((([] : List ObV) ++ TL) ++ TR) → (∀ k, v2.ownBlock = some k → wx.heap.size ≤ k) → Below wx.heap.size wx V → RApp19 w rb g 0 L (.returned (.int .i64 0)) (V.setCell ⟨rb, 6, none⟩ v2)) := fun v2 V ow oq bV => by
      obtain ⟨r1, r2⟩ := RX.store bV ow oq (by have := LENS.out.2.2; simpa using this) MEM.out
      exact ⟨_, v2, rfl, r1, EQ.out, ((Below.turnG (BB.out.step16 BX BB.out.size) _).trans r2)⟩
    have oA : Hid (OwnOb (wx.alloc (.cells #[] 52)).drew 0 (.slice (some ⟨wx.heap.size, 0, none⟩) 0 0) []) := (made_ob wx (Nat.zero_le _)).later (Below.refl _ _).drew
    have bA : Hid (Below wx.heap.size wx (wx.alloc (.cells #[] 52)).drew) := (belR _ _).drew
    have qA : Hid (∀ q, Value.ownBlock (.slice (some ⟨wx.heap.size, 0, none⟩) 0 0) = some q → wx.heap.size ≤ q) := own_at19 (n := 0) (c := 0) (Nat.le_refl wx.heap.size)
    have c0 := (CX.out wx (Below.refl _ _)).1
    have wn : IntKind.i64.wrap ((n : Int) + 1) = ((n + 1 : Nat) : Int) := by rw [IntKind.wrap_i64]; omega
    have p1 : (n : Int) ≤ (vc : Int) := by omega
    have p2 : n ≤ vc := by omega
    have p3 : ((n + 1 : Nat) : Int) ≤ (LV.length : Int) := by omega
    have p4 : n + 1 ≤ LV.length := by omega
    clear A2 A3 A4 A5 TA H HC b3' BB IXS FN e en R3 RX hvf BX hneg OKX hvx
    have hv1 : vc = n + 1 := by
      have := HV1.out _ _ _ rfl
      omega
    clear HV1
    subst hv1
    have hlen : LV.length - (n + 1) = 0 := by omega
    have HTR := hidC (show RdO wx (.slice (some ⟨b, off, none⟩) 0 0) TR by rw [hTR]; exact Or.inl ⟨_, _, by simp; omega, rfl⟩)
    have cD := (CX.out _ ((Below.refl wx.heap.size wx).drew)).1
    have cA := (CX.out _ bA.out).1
    have p9 : (n : Int) ≤ (n : Int) + 1 := by omega
    have p7 : (n : Int) + 1 ≤ (LV.length : Int) := by omega
    have p8 : 0 ≤ (n : Int) + 1 := by omega
    clear hvx' hTL hTR hlen
    go_wp2_with fail
    go_region_law (first
      | (refine step_append_obs rfl (.tmp 23) (.tmp 29) rfl 0 (.slice (some ⟨wx.heap.size, 0, none⟩) 0 0) [] rfl oA.out (.slice (some ⟨b, off, none⟩) n (n + 1)) TL rfl (HTL.out.below bA.out) (CapO.some (by omega)) (fun c hc => near_old19 (INL.out c hc) bA.out.size qA.out) (by have := LENS.out; simp; omega) (Nat.zero_le _) ?_; intro v1 w1 o1 g1; obtain ⟨b1, q1⟩ := ob19_after bA.out qA.out g1; have c1 := (CX.out w1 b1).1)
      | (refine step_append_obs rfl (.tmp 30) (.tmp 37) rfl 0 v1 ([] ++ TL) rfl o1 (.slice (some ⟨b, off, none⟩) 0 0) TR rfl (HTR.out.below b1) (CapO.some (by omega)) (fun c hc => near_old19 (INR.out c hc) b1.size q1) (by have := LENS.out; simp; omega) (Nat.zero_le _) ?_; intro v2 w4 o2 g2; obtain ⟨b2, q2⟩ := ob19_after b1 q1 g2; have c2 := (CX.out w4 b2).1; have f2 := (CX.out w4 b2).2; have FF := hidC (FIN.out v2 w4 o2 q2 b2); obtain ⟨a2, m2, ev2, _⟩ := o2.form19; subst ev2))
    all_goals
      have FZ := FF.out
      simp only [List.nil_append, List.length_append] at FZ
      have FG := hidC FZ
      clear FZ FF oA bA qA g1 o1 b1 q1 g2 o2 b2 q2 c1 c2 f2 cD cA c0 HTL HTR INL INR MEM EQ FIN LENS CX
      go_wp2
      go_ret
      exact FG.out
end Go.Proofs.Ytndlfmofjmieaaa.Gf

namespace Go.Proofs.Ytndlfmofjmieaaa.Gf
set_option linter.unusedVariables false
set_option linter.unusedSimpArgs false
open Go.RowKit
set_option maxRecDepth 100000 in
set_option maxHeartbeats 40000000 in
theorem rapply19_cut {w : World} {rb : Nat} {g : GeoS} {LV : List ObV} {v : Value} (h : CatR w rb g LV v) (hgw : g.Wf) (hgo : g.o ≤ 64) (hll : LV.length ≤ 64) {c : RcV} (hc : c.In w) (hcap : ∀ n d, c.vs = .slice none n d → d = 0) {ep : Int} (he : (Lit.int .i64 ep).wf = true) {X : Int} {L : List ObS} (hd : Hid (c.r.kind = 2)) (hcv : Hid (∀ a n d, v = .slice a n d → (d : Int) ≠ finI (oL LV) c.r.key + 1)) (hX : apCX g (oL LV) c.r ep = X) (hL : apCS g (oL LV) c.r ep = L) :
    Calls Try.prog 38 #[.pointer (some ⟨rb, 0, none⟩), aggR c, .int .i64 ep] w (RApp19 w rb g X L) := by
  obtain ⟨⟨kd, ky, ln, st⟩, vs⟩ := c
  have HC := hidC hc
  obtain ⟨sa, sc, e⟩ := hc.rs.form
  simp only at e hX hL hcap
  subst e
  have H := hidC h
  clear h hc
  obtain ⟨ck, hck⟩ : ∃ z, Hid (chR ⟨kd, ky, ln, st⟩ = z) := ⟨_, rfl⟩
  have KC : ∀ V, Below w.heap.size w V → Calls Try.prog 54 #[.agg #[.int .i64 kd, .string ⟨ky.toArray⟩, .int .i64 ln, .slice sa st.length sc]] V fun e w' => e = .returned (.int .i64 ck) ∧ Below V.heap.size V w' := fun V bV =>
    rchk16_any (c := ⟨⟨kd, ky, ln, st⟩, .slice sa st.length sc⟩) (HC.out.below bV) hck.out
  have CKO : ck = 0 ↔ OkR ⟨kd, ky, ln, st⟩ := by
    rw [← hck.out]
    unfold chR
    by_cases q : OkR ⟨kd, ky, ln, st⟩
    · rw [if_pos q]; exact ⟨fun _ => q, fun _ => rfl⟩
    · rw [if_neg q]; exact ⟨fun k => absurd k (by decide), fun k => absurd k q⟩
  have OKS : Hid (ck = 0 → st.length ≤ 256) := fun q => (CKO.1 q).2.2.2.2.2.1
  have KI := fun V (bV : Below w.heap.size w V) => rfind19_any (H.out.below bV).cat ky
  obtain ⟨ix, hix⟩ : ∃ z, Hid (finI (oL LV) ky = z) := ⟨_, rfl⟩
  have HV1 : Hid (∀ a n d, v = .slice a n d → (d : Int) ≠ ix + 1) := fun a n d e => by rw [← hix.out]; exact hcv.out a n d e
  clear hcv
  rw [hix.out] at KI
  have FN : Hid (ix < 0 ↔ finK (oL LV) ky = none) := by show _ ↔ _; rw [← hix.out]; exact finI_neg19 _ _
  obtain ⟨pX, hpX⟩ : ∃ z : Bool, Hid (decide (fitC g (oL LV) ⟨ky, ln, ep, st⟩) = z) := ⟨_, rfl⟩
  have A1 : Hid (¬ ck = 0 → X = 1 ∧ oL LV = L) := fun q => by
    have e : apCX g (oL LV) ⟨kd, ky, ln, st⟩ ep = 1 := by unfold apCX; rw [if_pos fun k => q (CKO.2 k)]
    refine ⟨hX.symm.trans e, ?_⟩
    rw [← hL]
    unfold apCS
    rw [e, if_neg (by decide)]
  have A2 : Hid (ck = 0 → kd = 2 → ix < 0 → X = 193 ∧ oL LV = L) := fun q q2 q3 => by
    have e : apCX g (oL LV) ⟨kd, ky, ln, st⟩ ep = 193 := by
      unfold apCX
      rw [if_neg (fun k => k (CKO.1 q)), if_pos q2, if_pos (FN.out.1 q3)]
    refine ⟨hX.symm.trans e, ?_⟩
    rw [← hL]
    unfold apCS
    rw [e, if_neg (by decide)]
  have A3 : Hid (ck = 0 → kd = 2 → ¬ ix < 0 → X = 0 ∧ deC (oL LV) ky = L) := fun q q2 q3 => by
    have e : apCX g (oL LV) ⟨kd, ky, ln, st⟩ ep = 0 := by
      unfold apCX
      rw [if_neg (fun k => k (CKO.1 q)), if_pos q2, if_neg (fun k => q3 (FN.out.2 k))]
    refine ⟨hX.symm.trans e, ?_⟩
    rw [← hL]
    unfold apCS
    rw [e, if_pos rfl, if_pos q2]
  have A4 : Hid (ck = 0 → ¬ kd = 2 → ix < 0 → g.o ≤ (LV.length : Int) → X = 191 ∧ oL LV = L) := fun q q2 q3 q4 => by
    have e : apCX g (oL LV) ⟨kd, ky, ln, st⟩ ep = 191 := by
      unfold apCX
      rw [if_neg (fun k => k (CKO.1 q)), if_neg q2, if_pos ⟨FN.out.1 q3, by rw [oL_length]; exact q4⟩]
    refine ⟨hX.symm.trans e, ?_⟩
    rw [← hL]
    unfold apCS
    rw [e, if_neg (by decide)]
  have A5 : Hid (ck = 0 → ¬ kd = 2 → ¬ (ix < 0 ∧ g.o ≤ (LV.length : Int)) → (pX = false → X = 1 ∧ oL LV = L) ∧ (pX = true → X = 0 ∧ wiC (oL LV) ⟨ky, ln, ep, st⟩ = L)) := fun q q2 q3 => by
    have q5 : ¬ (finK (oL LV) ky = none ∧ g.o ≤ ((oL LV).length : Int)) := fun k => q3 ⟨FN.out.2 k.1, by have := k.2; rw [oL_length] at this; exact this⟩
    constructor
    · intro q4
      have nf : ¬ fitC g (oL LV) (obR ⟨kd, ky, ln, st⟩ ep) := of_decide_eq_false (hpX.out.trans q4)
      have e : apCX g (oL LV) ⟨kd, ky, ln, st⟩ ep = 1 := by
        unfold apCX
        rw [if_neg (fun k => k (CKO.1 q)), if_neg q2, if_neg q5, if_pos nf]
      refine ⟨hX.symm.trans e, ?_⟩
      rw [← hL]
      unfold apCS
      rw [e, if_neg (by decide)]
    · intro q4
      have nf : fitC g (oL LV) (obR ⟨kd, ky, ln, st⟩ ep) := of_decide_eq_true (hpX.out.trans q4)
      have e : apCX g (oL LV) ⟨kd, ky, ln, st⟩ ep = 0 := by
        unfold apCX
        rw [if_neg (fun k => k (CKO.1 q)), if_neg q2, if_neg q5, if_neg (fun k => k nf)]
      refine ⟨hX.symm.trans e, ?_⟩
      rw [← hL]
      unfold apCS
      rw [e, if_pos rfl, if_neg q2]
      rfl
  have IXS : Hid (¬ ix < 0 → ∃ n : Nat, ix = (n : Int) ∧ n < LV.length ∧ (oL LV).take n ++ (oL LV).drop (n + 1) = deC (oL LV) ky) := fun q => by
    have h1 := hix.out
    unfold finI at h1
    by_cases k : idK (oL LV) ky < (oL LV).length
    · rw [if_pos k] at h1
      refine ⟨idK (oL LV) ky, h1.symm, by rwa [oL_length] at k, ?_⟩
      exact (idK_del k).symm
    · rw [if_neg k] at h1; omega
  clear CKO hX hL hck hix
  obtain ⟨W, hW⟩ : ∃ W, W = w.alloc (.cells #[.int .i64 kd, .string ⟨ky.toArray⟩, .int .i64 ln, .slice sa st.length sc] 39) := ⟨_, rfl⟩
  have TA : Hid (∀ V, Below W.heap.size W V → Below w.heap.size w V ∧ V.cell? ⟨w.heap.size, 0, none⟩ = some (.int .i64 kd) ∧ V.cell? ⟨w.heap.size, 1, none⟩ = some (.string ⟨ky.toArray⟩) ∧ V.cell? ⟨w.heap.size, 2, none⟩ = some (.int .i64 ln) ∧ V.cell? ⟨w.heap.size, 3, none⟩ = some (.slice sa st.length sc) ∧ ∀ j, V.frozen? ⟨w.heap.size, j, none⟩ = false) := by rw [hW]; exact box4 _ _ _ _ _ _
  have K1 := KC W (TA.out W (Below.refl _ _)).1
  clear KC
  show Calls Try.prog 38 #[.pointer (some ⟨rb, 0, none⟩), .agg #[.int .i64 kd, .string ⟨ky.toArray⟩, .int .i64 ln, .slice sa st.length sc], .int .i64 ep] w _
  go_enter Try.func38, Try.ntmps38
  go_wp2_with fail
  rw [← hW]
  clear hW
  refine K1.mono ?_
  clear K1
  rintro _ w2 ⟨rfl, b2⟩
  by_cases hck : ck = 0
  rotate_left
  · obtain ⟨rfl, e⟩ := A1.out hck
    have n1 : (ck == 0) = false := beq_eq_false_iff_ne.2 hck
    have n2 : (ck != 0) = true := by simp [bne, n1]
    have F : Hid (RApp19 w rb g 1 L (.returned (.int .i64 1)) w2) := ⟨LV, v, rfl, H.out.below (TA.out w2 b2).1, e, Below.turnG (TA.out w2 b2).1 _⟩
    clear A1 A2 A3 A4 A5 KI TA H HC b2 e IXS FN OKS
    go_wp2
    go_ret
    exact F.out
  subst hck
  obtain ⟨B2, q0, q1, q2, q3, _⟩ := TA.out w2 b2
  have K2 := KI w2 B2
  have bb := hidC b2
  have SL := OKS.out rfl
  clear KI A1 B2 b2 q0 q2 q3 OKS
  go_wp2_with fail
  refine K2.mono ?_
  clear K2 q1
  rintro _ w3 ⟨rfl, b3⟩
  have b3' := hidC (bb.out.stepL b3 bb.out.size)
  obtain ⟨B3, q0, q1, q2, q3, _⟩ := TA.out w3 b3'.out
  have BB := hidC B3
  clear bb b3 B3 q1 q2 q3
  have hkd : kd = 2 := hd.out
  clear hd
  subst hkd
  by_cases hneg : ix < 0
  · obtain ⟨rfl, e⟩ := A2.out (by first | rfl | trivial) (by first | rfl | trivial) (by omega)
    have F : Hid (RApp19 w rb g 193 L (.returned (.int .i64 193)) w3) := ⟨LV, v, rfl, H.out.below BB.out, e, Below.turnG BB.out _⟩
    clear A2 A3 A4 A5 TA H HC b3' BB IXS FN e
    go_wp2
    go_ret
    exact F.out
  · obtain ⟨rfl, e⟩ := A3.out (by first | rfl | trivial) (by first | rfl | trivial) (by omega)
    obtain ⟨n, rfl, hn, en⟩ := IXS.out (by omega)
    have R3 := H.out.below BB.out
    obtain ⟨va, vc, ev, hvf⟩ := R3.ow.form19
    obtain ⟨b, off, rfl⟩ : ∃ b off, va = some ⟨b, off, none⟩ := by
      rcases hvf with rfl | h
      · exfalso
        obtain ⟨_, ⟨h1, h2⟩ | ⟨gb, cap, cur, hv, _⟩⟩ := R3.ow.row
        · omega
        · rw [ev] at hv; simp at hv
      · exact h
    have hcapv : LV.length ≤ vc := (R3.ow.cap _ _ _ ev).1
    obtain ⟨wx, ewx⟩ : ∃ x, x = w3 := ⟨_, rfl⟩
    subst ewx
    have BX : Below wx.heap.size wx wx := Below.refl _ _
    have RX := R3.below BX
    subst ev
    have CX : Hid (∀ V, Below wx.heap.size wx V → V.cell? ⟨rb, 6, none⟩ = some (.slice (some ⟨b, off, none⟩) LV.length vc) ∧ V.frozen? ⟨rb, 6, none⟩ = false) := fun V bV => ⟨(RX.below bV).c6, (RX.below bV).fz⟩
    have hvx := RX.cat.ro
    have hvx' := hvx
    obtain ⟨TL, hTL⟩ : ∃ T, T = LV.take n := ⟨_, rfl⟩
    obtain ⟨TR, hTR⟩ : ∃ T, T = LV.drop (n + 1) := ⟨_, rfl⟩
    have HTL := hidC (show RdO wx (.slice (some ⟨b, off, none⟩) n vc) TL by rw [hTL]; exact hvx.take19 (by omega) rfl)
    have OKX := hidC (rdO_ok hvx)
    have LENS : Hid (TL.length ≤ 100 ∧ TR.length ≤ 100 ∧ (TL ++ TR).length ≤ 100) := by
      rw [hTL, hTR]
      refine ⟨by simp; omega, by simp; omega, by simp; omega⟩
    have INL : Hid (∀ c ∈ TL, ObOk wx c) := fun c hc => OKX.out c (by rw [hTL] at hc; exact List.mem_of_mem_take hc)
    have INR : Hid (∀ c ∈ TR, ObOk wx c) := fun c hc => OKX.out c (by rw [hTR] at hc; exact List.mem_of_mem_drop hc)
    have MEM : Hid (∀ c ∈ (([] : List ObV) ++ TL) ++ TR, c.o.st.length ≤ 1000 ∧ ApartG (fun x => x = rb) c.vs) := fun c hc => by
      have hm : c ∈ LV := by
        rw [List.nil_append, hTL, hTR] at hc
        rcases List.mem_append.1 hc with q | q
        · exact List.mem_of_mem_take q
        · exact List.mem_of_mem_drop q
      exact ⟨RX.sts c hm, RX.off c hm⟩
    have EQ : Hid (oL ((([] : List ObV) ++ TL) ++ TR) = L) := by
      show _ = _
      rw [← e, ← en, List.nil_append, oL_app, hTL, hTR, oL_take, oL_drop]
    have FIN : Hid (∀ (v2 : Value) (V : World), OwnOb V 0 v2 ((([] : List ObV) ++ TL) ++ TR) → (∀ k, v2.ownBlock = some k → wx.heap.size ≤ k) → Below wx.heap.size wx V → RApp19 w rb g 0 L (.returned (.int .i64 0)) (V.setCell ⟨rb, 6, none⟩ v2)) := fun v2 V ow oq bV => by
      obtain ⟨r1, r2⟩ := RX.store bV ow oq (by have := LENS.out.2.2; simpa using this) MEM.out
      exact ⟨_, v2, rfl, r1, EQ.out, ((Below.turnG (BB.out.step16 BX BB.out.size) _).trans r2)⟩
    have oA : Hid (OwnOb (wx.alloc (.cells #[] 52)).drew 0 (.slice (some ⟨wx.heap.size, 0, none⟩) 0 0) []) := (made_ob wx (Nat.zero_le _)).later (Below.refl _ _).drew
    have bA : Hid (Below wx.heap.size wx (wx.alloc (.cells #[] 52)).drew) := (belR _ _).drew
    have qA : Hid (∀ q, Value.ownBlock (.slice (some ⟨wx.heap.size, 0, none⟩) 0 0) = some q → wx.heap.size ≤ q) := own_at19 (n := 0) (c := 0) (Nat.le_refl wx.heap.size)
    have c0 := (CX.out wx (Below.refl _ _)).1
    have wn : IntKind.i64.wrap ((n : Int) + 1) = ((n + 1 : Nat) : Int) := by rw [IntKind.wrap_i64]; omega
    have p1 : (n : Int) ≤ (vc : Int) := by omega
    have p2 : n ≤ vc := by omega
    have p3 : ((n + 1 : Nat) : Int) ≤ (LV.length : Int) := by omega
    have p4 : n + 1 ≤ LV.length := by omega
    clear A2 A3 A4 A5 TA H HC b3' BB IXS FN e en R3 RX hvf BX hneg OKX hvx
    have hv1 : ¬ vc = n + 1 := by
      have := HV1.out _ _ _ rfl
      omega
    clear HV1
    have HTR := hidC (show RdO wx (.slice (some ⟨b, off + (n + 1) * 4, none⟩) (LV.length - (n + 1)) (vc - (n + 1))) TR by rw [hTR]; exact hvx'.drop19 (by omega) rfl)
    have cD := (CX.out _ ((Below.refl wx.heap.size wx).drew)).1
    have cA := (CX.out _ bA.out).1
    have p5 : ¬ vc = n + 1 := hv1
    have p6 : n + 1 ≤ vc := by omega
    have p7 : (n : Int) + 1 ≤ (LV.length : Int) := by omega
    have p8 : 0 ≤ (n : Int) + 1 := by omega
    clear hvx' hTL hTR
    go_wp2_with fail
    go_region_law (first
      | (refine step_append_obs rfl (.tmp 23) (.tmp 29) rfl 0 (.slice (some ⟨wx.heap.size, 0, none⟩) 0 0) [] rfl oA.out (.slice (some ⟨b, off, none⟩) n vc) TL rfl (HTL.out.below bA.out) (CapO.some (by omega)) (fun c hc => near_old19 (INL.out c hc) bA.out.size qA.out) (by have := LENS.out; simp; omega) (Nat.zero_le _) ?_; intro v1 w1 o1 g1; obtain ⟨b1, q1⟩ := ob19_after bA.out qA.out g1; have c1 := (CX.out w1 b1).1)
      | (refine step_append_obs rfl (.tmp 30) (.tmp 37) rfl 0 v1 ([] ++ TL) rfl o1 (.slice (some ⟨b, off + (n + 1) * 4, none⟩) (LV.length - (n + 1)) (vc - (n + 1))) TR rfl (HTR.out.below b1) (CapO.some (by omega)) (fun c hc => near_old19 (INR.out c hc) b1.size q1) (by have := LENS.out; simp; omega) (Nat.zero_le _) ?_; intro v2 w4 o2 g2; obtain ⟨b2, q2⟩ := ob19_after b1 q1 g2; have c2 := (CX.out w4 b2).1; have f2 := (CX.out w4 b2).2; have FF := hidC (FIN.out v2 w4 o2 q2 b2); obtain ⟨a2, m2, ev2, _⟩ := o2.form19; subst ev2))
    all_goals
      have FZ := FF.out
      simp only [List.nil_append, List.length_append] at FZ
      have FG := hidC FZ
      clear FZ FF oA bA qA g1 o1 b1 q1 g2 o2 b2 q2 c1 c2 f2 cD cA c0 HTL HTR INL INR MEM EQ FIN LENS CX
      go_wp2
      go_ret
      exact FG.out
end Go.Proofs.Ytndlfmofjmieaaa.Gf

namespace Go.Proofs.Ytndlfmofjmieaaa.Gf
set_option linter.unusedVariables false
set_option linter.unusedSimpArgs false
open Go.RowKit
theorem rapply19_any {w : World} {rb : Nat} {g : GeoS} {LV : List ObV} {v : Value} (h : CatR w rb g LV v) (hgw : g.Wf) (hgo : g.o ≤ 64) (hll : LV.length ≤ 64) {c : RcV} (hc : c.In w) (hcap : ∀ n d, c.vs = .slice none n d → d = 0) {ep : Int} (he : (Lit.int .i64 ep).wf = true) {X : Int} {L : List ObS} (hX : apCX g (oL LV) c.r ep = X) (hL : apCS g (oL LV) c.r ep = L) :
    Calls Try.prog 38 #[.pointer (some ⟨rb, 0, none⟩), aggR c, .int .i64 ep] w (RApp19 w rb g X L) := by
  by_cases hd : c.r.kind = 2
  · obtain ⟨a, n, e, _⟩ := h.ow.form19
    by_cases hv : (n : Int) = finI (oL LV) c.r.key + 1
    · exact rapply19_del h hgw hgo hll hc hcap he hd (fun a' n' d' e' => by rw [e] at e'; simp at e'; obtain ⟨_, _, rfl⟩ := e'; exact hv) hX hL
    · exact rapply19_cut h hgw hgo hll hc hcap he hd (fun a' n' d' e' => by rw [e] at e'; simp at e'; obtain ⟨_, _, rfl⟩ := e'; exact hv) hX hL
  · exact rapply19_put h hgw hgo hll hc hcap he hd hX hL
end Go.Proofs.Ytndlfmofjmieaaa.Gf
