/- TEXTS JOINED: CtRefB, CtNr. -/
import Derived.Test.YtndlfmofjmieaaaPome11
import Derived.Test.YtndlfmofjmieaaaPome16
namespace Go.Proofs.Ytndlfmofjmieaaa.Gf
set_option linter.unusedVariables false
set_option linter.unusedSimpArgs false
open Go.RowKit
theorem fn_end1 {p : Prop} (h : p := by
  go_wp2_with fail
  refine wp_region_held_drew (S := fun V => V.cell? ⟨w.heap.size, 1, none⟩ = some (.int .i64 ln) ∧ V.cell? ⟨w.heap.size, 2, none⟩ = some (.int .i64 ep) ∧ V.cell? ⟨w.heap.size, 3, none⟩ = some (.slice sa st.length sc) ∧ V.cell? ⟨rb, 0, none⟩ = some (.int .i64 k) ∧ V.cell? ⟨rb, 1, none⟩ = some (.int .i64 m) ∧ V.cell? ⟨rb, 2, none⟩ = some (.int .i64 z) ∧ V.cell? ⟨rb, 3, none⟩ = some (.int .i64 s) ∧ V.cell? ⟨rb, 4, none⟩ = some (.int .i64 t) ∧ V.cell? ⟨rb, 5, none⟩ = some (.int .i64 o)) (by kernel_rfl) C0 (fun hHeld => ?_)
  refine tkH 0 ?_
  refine tkH 1 ?_
  refine tkH 2 ?_
  refine skH 3 ?_
  refine skH 4 ?_
  refine skH 5 ?_
  refine tkH 6 ?_
  refine tkH 7 ?_
  refine skH 8 ?_
  refine skH 9 ?_
  refine skH 10 ?_
  refine tkH 11 ?_
  refine tkH 12 ?_
  refine skH 13 ?_
  refine skH 14 ?_
  refine skH 15 ?_
  refine skH 16 ?_
  refine skH 17 ?_
  refine skH 18 ?_
  refine skH 19 ?_
  refine skH 20 ?_
  refine skH 21 ?_
  refine skH 22 ?_
  refine skH 23 ?_
  refine tkH 24 ?_
  refine wpAnyH_done (by kernel_rfl) ?_ _
  clear hHeld
  go_wp2
  go_ret
  exact ⟨rfl, (TB.out _ B1.out).1.drew⟩) : p := h
theorem fn_end2 {p : Prop} (h : p := by
  go_wp2_with fail
  refine wp_region_held_drew (S := fun V => V.cell? ⟨w.heap.size, 1, none⟩ = some (.int .i64 ln) ∧ V.cell? ⟨w.heap.size, 2, none⟩ = some (.int .i64 ep) ∧ V.cell? ⟨w.heap.size, 3, none⟩ = some (.slice sa st.length sc) ∧ V.cell? ⟨rb, 0, none⟩ = some (.int .i64 k) ∧ V.cell? ⟨rb, 1, none⟩ = some (.int .i64 m) ∧ V.cell? ⟨rb, 2, none⟩ = some (.int .i64 z) ∧ V.cell? ⟨rb, 3, none⟩ = some (.int .i64 s) ∧ V.cell? ⟨rb, 4, none⟩ = some (.int .i64 t) ∧ V.cell? ⟨rb, 5, none⟩ = some (.int .i64 o)) (by kernel_rfl) C0 (fun hHeld => ?_)
  refine tkH 0 ?_
  refine tkH 1 ?_
  refine tkH 2 ?_
  refine tkH 3 ?_
  refine tkH 4 ?_
  refine tkH 5 ?_
  refine tkH 6 ?_
  refine tkH 7 ?_
  refine skH 8 ?_
  refine skH 9 ?_
  refine skH 10 ?_
  refine tkH 11 ?_
  refine tkH 12 ?_
  refine skH 13 ?_
  refine skH 14 ?_
  refine skH 15 ?_
  refine skH 16 ?_
  refine skH 17 ?_
  refine skH 18 ?_
  refine skH 19 ?_
  refine skH 20 ?_
  refine skH 21 ?_
  refine skH 22 ?_
  refine skH 23 ?_
  refine tkH 24 ?_
  refine wpAnyH_done (by kernel_rfl) ?_ _
  clear hHeld
  go_wp2
  go_ret
  exact ⟨rfl, (TB.out _ B1.out).1.drew⟩) : p := h
theorem fn_end3 {p : Prop} (h : p := by
  go_wp2_with fail
  refine wp_region_held_drew (S := fun V => V.cell? ⟨w.heap.size, 1, none⟩ = some (.int .i64 ln) ∧ V.cell? ⟨w.heap.size, 2, none⟩ = some (.int .i64 ep) ∧ V.cell? ⟨w.heap.size, 3, none⟩ = some (.slice sa st.length sc) ∧ V.cell? ⟨rb, 0, none⟩ = some (.int .i64 k) ∧ V.cell? ⟨rb, 1, none⟩ = some (.int .i64 m) ∧ V.cell? ⟨rb, 2, none⟩ = some (.int .i64 z) ∧ V.cell? ⟨rb, 3, none⟩ = some (.int .i64 s) ∧ V.cell? ⟨rb, 4, none⟩ = some (.int .i64 t) ∧ V.cell? ⟨rb, 5, none⟩ = some (.int .i64 o)) (by kernel_rfl) C0 (fun hHeld => ?_)
  refine tkH 0 ?_
  refine tkH 1 ?_
  refine tkH 2 ?_
  refine tkH 3 ?_
  refine tkH 4 ?_
  refine tkH 5 ?_
  refine tkH 6 ?_
  refine tkH 7 ?_
  refine tkH 8 ?_
  refine tkH 9 ?_
  refine tkH 10 ?_
  refine tkH 11 ?_
  refine tkH 12 ?_
  refine skH 13 ?_
  refine skH 14 ?_
  refine skH 15 ?_
  refine skH 16 ?_
  refine skH 17 ?_
  refine skH 18 ?_
  refine skH 19 ?_
  refine skH 20 ?_
  refine skH 21 ?_
  refine skH 22 ?_
  refine skH 23 ?_
  refine tkH 24 ?_
  refine wpAnyH_done (by kernel_rfl) ?_ _
  clear hHeld
  go_wp2
  go_ret
  exact ⟨rfl, (TB.out _ B1.out).1.drew⟩) : p := h
set_option maxRecDepth 100000 in
set_option maxHeartbeats 4000000 in
theorem rfits19_any {w : World} {rb : Nat} {g : GeoS} {v : Value} {LV : List ObV} (h : CatW w rb g v LV) (hgw : g.Wf) {c : ObV} (hc : ObOk w c) (hst : c.o.st.length ≤ 100000) {X : Bool} (hX : decide (fitC g (oL LV) c.o) = X) :
    Calls Try.prog 34 #[.pointer (some ⟨rb, 0, none⟩), .agg #[.string ⟨c.o.key.toArray⟩, .int .i64 c.o.len, .int .i64 c.o.ep, c.vs]] w fun e w' => e = .returned (.bool X) ∧ Below w.heap.size w w' := by
  obtain ⟨⟨ky, ln, ep, st⟩, vs⟩ := c
  obtain ⟨sa, sc, esv⟩ := hc.rs.form
  simp only at esv hst hX
  subst esv
  have H := hidC h
  have HC := hidC hc
  have HX : Hid (X = true ↔ OkR ⟨1, ky, ln, st⟩ ∧ 0 ≤ ep ∧ ep ≤ 2147483647 ∧ (st.length : Int) = neG g ln ∧ ∀ j, j < st.length → fitI g (oL LV) st j) := by
    show _ ↔ _
    rw [← hX, decide_eq_true_iff]
    exact fit_all
  clear hX h hc
  have HF : Hid (¬ (OkR ⟨1, ky, ln, st⟩ ∧ 0 ≤ ep ∧ ep ≤ 2147483647 ∧ (st.length : Int) = neG g ln ∧ ∀ j, j < st.length → fitI g (oL LV) st j) → X = false) := fun q => by
    cases e : X with
    | false => rfl
    | true => exact absurd (HX.out.1 e) q
  have KO := fun V (hV : CatW V rb g v LV) (s : Int) => rowner19_any hV s rfl rfl
  obtain ⟨nx, hnx⟩ : ∃ n, Hid (neG g ln = n) := ⟨_, rfl⟩
  have KN := fun V => @rneeds_any V g hgw ln HC.out.wl nx hnx.out
  rw [hnx.out] at HX HF
  obtain ⟨cx, hcx⟩ : ∃ x, Hid (chR ⟨1, ky, ln, st⟩ = x) := ⟨_, rfl⟩
  obtain ⟨W, hW⟩ : ∃ W, W = w.alloc (.cells #[.string ⟨ky.toArray⟩, .int .i64 ln, .int .i64 ep, .slice sa st.length sc] 52) := ⟨_, rfl⟩
  have TB : Hid (∀ V, Below W.heap.size W V → Below w.heap.size w V ∧ V.cell? ⟨w.heap.size, 0, none⟩ = some (.string ⟨ky.toArray⟩) ∧ V.cell? ⟨w.heap.size, 1, none⟩ = some (.int .i64 ln) ∧ V.cell? ⟨w.heap.size, 2, none⟩ = some (.int .i64 ep) ∧ V.cell? ⟨w.heap.size, 3, none⟩ = some (.slice sa st.length sc) ∧ ∀ j, V.frozen? ⟨w.heap.size, j, none⟩ = false) := by rw [hW]; exact obox _ _ _ _ _ _
  have HCW := HC.out
  obtain ⟨BW, q0, q1, q2, q3, _⟩ := TB.out W (Below.refl _ _)
  have K1 : Calls Try.prog 54 #[.agg #[.int .i64 1, .string ⟨ky.toArray⟩, .int .i64 ln, .slice sa st.length sc]] W fun e w' => e = .returned (.int .i64 cx) ∧ Below W.heap.size W w' := rchk16_any (c := ⟨⟨1, ky, ln, st⟩, .slice sa st.length sc⟩) ⟨by show (Lit.int .i64 1).wf = true; decide, HCW.wl, HCW.ky, HCW.rs.below BW, HCW.wi⟩ hcx.out
  clear HCW BW
  obtain ⟨k, m, z, s, t, o⟩ := g
  rw [aggE] at KN
  go_enter Try.func34, Try.ntmps34
  go_wp2_with fail
  rw [← hW]
  clear hW
  refine K1.mono ?_
  clear K1 q0 q1 q2 q3
  rintro _ w1 ⟨rfl, b1⟩
  have B1 := hidC b1
  obtain ⟨BW, q0, q1, q2, q3, _⟩ := TB.out w1 b1
  clear b1
  obtain ⟨x0, x1, x2, x3, x4, x5⟩ := (H.out.below BW).ge
  simp only at x0 x1 x2 x3 x4 x5
  have C0 := And.intro q1 (And.intro q2 (And.intro q3 (And.intro x0 (And.intro x1 (And.intro x2 (And.intro x3 (And.intro x4 x5)))))))
  clear q0 q1 q2 q3 x0 x1 x2 x3 x4 x5
  by_cases e1 : cx = 0
  rotate_left
  · have d1 : (cx == 0) = false := beq_eq_false_iff_ne.2 e1
    have d2 : (cx != 0) = true := by simp [bne, d1]
    obtain rfl : X = false := HF.out fun q => e1 (by rw [← hcx.out]; exact if_pos q.1)
    clear HX HF KO KN hcx H HC BW hnx
    exact fn_end1
  subst e1
  have HOK : Hid (OkR ⟨1, ky, ln, st⟩) := by
    show OkR _
    by_cases q : OkR ⟨1, ky, ln, st⟩
    · exact q
    · have := hcx.out
      rw [show chR ⟨1, ky, ln, st⟩ = 1 from if_neg q] at this
      cases this
  clear hcx
  by_cases e2 : ep < 0
  · obtain rfl : X = false := HF.out fun q => by omega
    have d1 : decide (ep < 0) = true := decide_eq_true e2
    clear HX HF KO KN H HC BW hnx HOK
    exact fn_end2
  by_cases e3 : ep > 2147483647
  · obtain rfl : X = false := HF.out fun q => by omega
    have d1 : decide (ep < 0) = false := decide_eq_false e2
    have d2 : decide (2147483647 < ep) = true := decide_eq_true e3
    clear HX HF KO KN H HC BW hnx HOK
    exact fn_end3
  have d1 : decide (ep < 0) = false := decide_eq_false e2
  have d2 : decide (2147483647 < ep) = false := decide_eq_false e3
  have KN1 := KN w1.drew
  have SF : Hid (∀ V, Below w1.heap.size w1 V → (fun V => V.cell? ⟨w.heap.size, 1, none⟩ = some (.int .i64 ln) ∧ V.cell? ⟨w.heap.size, 2, none⟩ = some (.int .i64 ep) ∧ V.cell? ⟨w.heap.size, 3, none⟩ = some (.slice sa st.length sc) ∧ V.cell? ⟨rb, 0, none⟩ = some (.int .i64 k) ∧ V.cell? ⟨rb, 1, none⟩ = some (.int .i64 m) ∧ V.cell? ⟨rb, 2, none⟩ = some (.int .i64 z) ∧ V.cell? ⟨rb, 3, none⟩ = some (.int .i64 s) ∧ V.cell? ⟨rb, 4, none⟩ = some (.int .i64 t) ∧ V.cell? ⟨rb, 5, none⟩ = some (.int .i64 o)) V) := fun V b => by
    obtain ⟨_, _, q1, q2, q3, _⟩ := TB.out V (B1.out.step16 b B1.out.size)
    obtain ⟨x0, x1, x2, x3, x4, x5⟩ := ((H.out.below BW).below b).ge
    exact ⟨q1, q2, q3, x0, x1, x2, x3, x4, x5⟩
  have HT : Hid (∀ V, Below w1.heap.size w1 V → CatW V rb ⟨k, m, z, s, t, o⟩ v LV ∧ V.cell? ⟨w.heap.size, 3, none⟩ = some (.slice sa st.length sc) ∧ RdI V (.slice sa st.length sc) st ∧ Below w.heap.size w V) := fun V b => ⟨(H.out.below BW).below b, (TB.out V (B1.out.step16 b B1.out.size)).2.2.2.2.1, HC.out.rs.below ((TB.out V (B1.out.step16 b B1.out.size)).1), (TB.out V (B1.out.step16 b B1.out.size)).1⟩
  have E23 := hidC (And.intro e2 e3)
  clear KN hnx e2 e3 TB B1 BW H HC
  go_wp2_with fail
  refine wp_region_held_drew (S := fun V => V.cell? ⟨w.heap.size, 1, none⟩ = some (.int .i64 ln) ∧ V.cell? ⟨w.heap.size, 2, none⟩ = some (.int .i64 ep) ∧ V.cell? ⟨w.heap.size, 3, none⟩ = some (.slice sa st.length sc) ∧ V.cell? ⟨rb, 0, none⟩ = some (.int .i64 k) ∧ V.cell? ⟨rb, 1, none⟩ = some (.int .i64 m) ∧ V.cell? ⟨rb, 2, none⟩ = some (.int .i64 z) ∧ V.cell? ⟨rb, 3, none⟩ = some (.int .i64 s) ∧ V.cell? ⟨rb, 4, none⟩ = some (.int .i64 t) ∧ V.cell? ⟨rb, 5, none⟩ = some (.int .i64 o)) (by kernel_rfl) C0 (fun hHeld => ?_)
  clear C0
  refine tkH 0 ?_
  refine tkH 1 ?_
  refine tkH 2 ?_
  refine tkH 3 ?_
  refine tkH 4 ?_
  refine tkH 5 ?_
  refine tkH 6 ?_
  refine tkH 7 ?_
  refine tkH 8 ?_
  refine tkH 9 ?_
  refine tkH 10 ?_
  refine tkH 11 ?_
  refine tkH 12 ?_
  refine tkH 13 ?_
  refine tkH 14 ?_
  refine tkH 15 ?_
  refine tkH 16 ?_
  refine tkH 17 ?_
  refine tkH 18 ?_
  refine tkH 19 ?_
  refine tkH 20 ?_
  refine tkH 21 ?_
  refine rnH 22 (fun K' hK => ?_)
  go_simp
  go_at_call 55
  refine KN1.mono ?_
  clear KN1
  rintro _ w2 ⟨rfl, b2⟩
  dsimp only
  have B2 : Below w1.heap.size w1 w2 := ((Below.refl _ _).drew).trans b2
  refine koH hK (SF.out w2 B2) fun hHeld => ?_
  clear hK K' SF b2
  refine tkH 23 ?_
  refine tkH 24 ?_
  refine wpAnyH_done (by kernel_rfl) ?_ _
  clear hHeld d1 d2
  by_cases e4 : (st.length : Int) = nx
  rotate_left
  · have d3 : ((st.length : Int) == nx) = false := beq_eq_false_iff_ne.2 e4
    have d4 : ((st.length : Int) != nx) = true := by simp [bne, d3]
    obtain rfl : X = false := HF.out fun q => e4 q.2.2.2.1
    have Z := hidC (HT.out w2 B2).2.2.2
    clear HX HF KO HOK HT B2
    go_wp2
    go_ret
    exact ⟨rfl, Z.out⟩
  subst e4
  have HX2 : Hid ((∀ j, j < st.length → fitI ⟨k, m, z, s, t, o⟩ (oL LV) st j) → X = true) := fun q => HX.out.2 ⟨HOK.out, by have := E23.out; omega, by have := E23.out; omega, rfl, q⟩
  have HF2 : Hid (∀ j, j < st.length → ¬ fitI ⟨k, m, z, s, t, o⟩ (oL LV) st j → X = false) := fun j hj q => HF.out fun h => q (h.2.2.2.2 j hj)
  have HB2 := hidC B2
  clear HX HF HOK E23 B2
  go_wp2_with fail
  go_loopw [6] (fun i wr => ∃ r : Nat, r ≤ st.length ∧ i = .int .i64 (r : Int) ∧ Hid (Below w1.heap.size w1 wr) ∧ Hid (∀ j, j < r → fitI ⟨k, m, z, s, t, o⟩ (oL LV) st j)) (fun i _ => st.length - (intOf i).toNat)
  case atStart => exact ⟨0, Nat.zero_le _, rfl, HB2.out, fun j hj => absurd hj (Nat.not_lt_zero _)⟩
  case round =>
    clear HB2
    obtain ⟨r, hr, rfl, hB, hj⟩ := hrel
    obtain ⟨hc1, q3, hrd, Z1⟩ := HT.out wr hB.out
    by_cases hlt : r < st.length
    · have hlt' : (r : Int) < (st.length : Int) := by omega
      obtain ⟨b2, off2, esa, cs⟩ := hrd.at16 hlt
      subst esa
      have HE : Hid (∀ V, Below w1.heap.size w1 V → ∀ j, j < st.length → V.cell? ⟨b2, off2 + j, none⟩ = some (.int .i64 (st.getD j 0))) := fun V b j hj => by
        obtain ⟨b3, off3, e, c⟩ := (HT.out V b).2.2.1.at16 hj
        simp at e
        obtain ⟨rfl, rfl⟩ := e
        exact c
      have NF := hidC (HF2.out r hlt)
      have NY : Hid (fitI ⟨k, m, z, s, t, o⟩ (oL LV) st r → ∀ j, j < r + 1 → fitI ⟨k, m, z, s, t, o⟩ (oL LV) st j) := fun q j hj2 => by
        by_cases e : j = r
        · rw [e]; exact q
        · exact hj.out j (by omega)
      have K := KO wr hc1 (st.getD r 0)
      obtain ⟨E, hE⟩ : ∃ E, (owK (oL LV) (st.getD r 0)).getD 0 = E := ⟨_, rfl⟩
      obtain ⟨B, hBo⟩ : ∃ B, (owK (oL LV) (st.getD r 0)).isSome = B := ⟨_, rfl⟩
      rw [hE, hBo] at K
      have HBo : Hid ((owK (oL LV) (st.getD r 0)).isSome = B) := hBo
      obtain ⟨y, hy⟩ : ∃ y, Hid (st.getD r 0 = y) := ⟨_, rfl⟩
      rw [hy.out] at K cs
      clear hE hBo hc1 hrd Z1 hj
      go_wp2_with fail
      refine K.mono ?_
      clear K q3 cs
      rintro _ w3 ⟨rfl, b3⟩
      have B3 := hidC (hB.out.step16 b3 hB.out.size)
      clear b3 hB
      have q3 := (HT.out w3 B3.out).2.1
      have cs := HE.out w3 B3.out r hlt
      have x3 := (HT.out w3 B3.out).1.ge.2.2.2.1
      rw [hy.out] at cs
      simp only at x3
      have C8 := And.intro q3 (And.intro cs x3)
      clear q3 cs x3
      cases B with
      | true =>
        obtain rfl : X = false := NF.out fun q => by
          have := HBo.out
          rw [q.1] at this
          cases this
        have Z := hidC (HT.out w3 B3.out).2.2.2
        clear HX2 HF2 NF NY KO HT HE HBo hy B3
        go_wp2_with fail
        refine wp_region_held_drew (S := fun V => V.cell? ⟨w.heap.size, 3, none⟩ = some (.slice (some ⟨b2, off2, none⟩) st.length sc) ∧ V.cell? ⟨b2, off2 + r, none⟩ = some (.int .i64 y) ∧ V.cell? ⟨rb, 3, none⟩ = some (.int .i64 s)) (by kernel_rfl) C8 (fun hHeld => ?_)
        refine tkH 0 ?_
        refine tkH 1 ?_
        refine skH 2 ?_
        refine skH 3 ?_
        refine skH 4 ?_
        refine skH 5 ?_
        refine skH 6 ?_
        refine skH 7 ?_
        refine skH 8 ?_
        refine skH 9 ?_
        refine skH 10 ?_
        refine skH 11 ?_
        refine skH 12 ?_
        refine tkH 13 ?_
        refine wpAnyH_done (by kernel_rfl) ?_ _
        clear hHeld
        go_wp2
        go_ret
        exact ⟨rfl, Z.out.drew⟩
      | false =>
        have HN0 : Hid (owK (oL LV) (st.getD r 0) = none) := by
          show _ = _
          have := HBo.out
          cases e : owK (oL LV) (st.getD r 0) with
          | none => rfl
          | some p => rw [e] at this; cases this
        clear HBo
        go_wp2_with fail
        refine wp_region_held_drew (S := fun V => V.cell? ⟨w.heap.size, 3, none⟩ = some (.slice (some ⟨b2, off2, none⟩) st.length sc) ∧ V.cell? ⟨b2, off2 + r, none⟩ = some (.int .i64 y) ∧ V.cell? ⟨rb, 3, none⟩ = some (.int .i64 s)) (by kernel_rfl) C8 (fun hHeld => ?_)
        refine tkH 0 ?_
        refine tkH 1 ?_
        refine tkH 2 ?_
        refine tkH 3 ?_
        refine tkH 4 ?_
        refine tkH 5 ?_
        refine tkH 6 ?_
        refine tkH 7 ?_
        refine tkH 8 ?_
        refine tkH 9 ?_
        refine tkH 10 ?_
        refine tkH 11 ?_
        refine tkH 12 ?_
        refine tkH 13 ?_
        refine wpAnyH_done (by kernel_rfl) ?_ _
        clear hHeld C8
        have B4 := hidC B3.out.drew
        by_cases h8 : y ≥ s
        · obtain rfl : X = false := NF.out fun q => by
            have := q.2.1
            rw [hy.out] at this
            simp only at this
            omega
          have Z := hidC (HT.out w3 B3.out).2.2.2
          clear HX2 HF2 NF NY KO HT HE hy B3 B4 HN0
          go_wp2
          go_ret
          exact ⟨rfl, Z.out.drew⟩
        have HLT : Hid (y < s) := by show _ < _; omega
        clear B3 HF2
        obtain ⟨wy, ewy⟩ : ∃ x, x = w3.drew := ⟨_, rfl⟩
        rw [← ewy] at B4 ⊢
        clear ewy
        go_wp2
        go_loopw [9] (fun i wr => ∃ q : Nat, q ≤ r ∧ i = .int .i64 (q : Int) ∧ Hid (Below w1.heap.size w1 wr) ∧ Hid (∀ j, j < q → st.getD j 0 ≠ y)) (fun i _ => r - (intOf i).toNat)
        case atStart => exact ⟨0, Nat.zero_le _, rfl, B4.out, fun j hj => absurd hj (Nat.not_lt_zero _)⟩
        case round =>
          clear B4
          obtain ⟨q, hq, rfl, hB2, hj2⟩ := hrel
          by_cases hlt2 : q < r
          · have hlt3 : (q : Int) < (r : Int) := by omega
            have q3 := (HT.out wr hB2.out).2.1
            have cs := HE.out wr hB2.out q (by omega)
            have ct := HE.out wr hB2.out r hlt
            rw [hy.out] at ct
            have NN : Hid (st.getD q 0 = y → X = false) := fun e => NF.out fun f => f.2.2 q hlt2 (by rw [e, hy.out])
            have NX2 : Hid (st.getD q 0 ≠ y → ∀ j, j < q + 1 → st.getD j 0 ≠ y) := fun e j hj3 => by
              by_cases e2 : j = q
              · rw [e2]; exact e
              · exact hj2.out j (by omega)
            obtain ⟨x, hx⟩ : ∃ x, st.getD q 0 = x := ⟨_, rfl⟩
            rw [hx] at cs NN NX2
            clear hx hj2
            have hq64 : (q : Int) < (st.length : Int) := by omega
            have C13 := And.intro q3 (And.intro cs ct)
            clear q3 cs ct
            go_wp2_with fail
            refine wp_region_held_drew (S := fun V => V.cell? ⟨w.heap.size, 3, none⟩ = some (.slice (some ⟨b2, off2, none⟩) st.length sc) ∧ V.cell? ⟨b2, off2 + q, none⟩ = some (.int .i64 x) ∧ V.cell? ⟨b2, off2 + r, none⟩ = some (.int .i64 y)) (by kernel_rfl) C13 (fun hHeld => ?_)
            refine tkH 0 ?_
            refine tkH 1 ?_
            refine tkH 2 ?_
            refine tkH 3 ?_
            refine tkH 4 ?_
            refine tkH 5 ?_
            refine tkH 6 ?_
            refine tkH 7 ?_
            refine tkH 8 ?_
            refine tkH 9 ?_
            refine tkH 10 ?_
            refine wpAnyH_done (by kernel_rfl) ?_ _
            clear hHeld C13
            by_cases e : x = y
            · subst e
              obtain rfl : X = false := NN.out rfl
              have Z := hidC (HT.out wr hB2.out).2.2.2
              clear HX2 NF NY HT HE HN0 HLT NN NX2 hy
              go_wp2
              go_ret
              exact ⟨rfl, Z.out.drew⟩
            · have e2 : (x == y) = false := beq_eq_false_iff_ne.2 e
              have N3 := hidC (NX2.out e)
              have B5 := hidC hB2.out.drew
              clear NN NX2 hB2
              go_wp2
              go_roundw
              case rel => exact ⟨q + 1, by omega, by go_num, B5.out, N3⟩
              case measure => simp [intOf]; omega
          · obtain rfl : q = r := by omega
            have hge : ¬ (q : Int) < (q : Int) := by omega
            have FI : fitI ⟨k, m, z, s, t, o⟩ (oL LV) st q := by
              unfold fitI
              rw [hy.out]
              have h0 := HN0.out
              rw [hy.out] at h0
              exact And.intro h0 (And.intro HLT.out hj2.out)
            have N4 := hidC (NY.out FI)
            clear FI
            clear NF NY HE HN0 HLT hj2 hy
            go_wp2
            go_roundw
            case rel => exact ⟨q + 1, by omega, by go_num, N4⟩
            case measure => simp [intOf]; omega
    · obtain rfl : r = st.length := by omega
      have hge : ¬ (st.length : Int) < (st.length : Int) := by omega
      obtain rfl : X = true := HX2.out hj.out
      clear HX2 HF2 KO HT hc1 hrd hj
      go_wp2
      go_ret
      exact ⟨rfl, Z1⟩
end Go.Proofs.Ytndlfmofjmieaaa.Gf

namespace Go.Proofs.Ytndlfmofjmieaaa.Gf
set_option linter.unusedVariables false
set_option linter.unusedSimpArgs false
open Go.RowKit
theorem own_mk19 (b n c : Nat) : Value.ownBlock (.slice (some ⟨b, 0, none⟩) n c) = some b := rfl
theorem own_is19 {b n c q : Nat} (h : Value.ownBlock (.slice (some ⟨b, 0, none⟩) n c) = some q) : q = b := by rw [own_mk19] at h; simpa using h.symm
theorem own_at19 {N b n c : Nat} (h : N ≤ b) : ∀ q, Value.ownBlock (.slice (some ⟨b, 0, none⟩) n c) = some q → N ≤ q := fun q e => by rw [own_is19 e]; exact h
theorem near_old19 {wo : World} {c : ObV} (h : ObOk wo c) {lim : Nat} (hl : wo.heap.size ≤ lim) {v : Value} (hv : ∀ q, v.ownBlock = some q → wo.heap.size ≤ q) : NearR 0 lim v c.vs := fun x n k e => by
  rcases h.rs with ⟨ao, cap, _, e1⟩ | ⟨b, off, cap, _, e1, _, q, _⟩
  · rw [e1] at e
    simp at e
    exact Or.inl e.2.1.symm
  · rw [e1] at e
    simp at e
    obtain ⟨rfl, _⟩ := e
    refine Or.inr ⟨Nat.zero_le _, by show b < lim; omega, fun e2 => ?_⟩
    have h3 : wo.heap.size ≤ b := hv _ e2
    omega
theorem ob19_after {wo W w1 : World} {v0 v1 : Value} (b : Below wo.heap.size wo W) (q : ∀ k, v0.ownBlock = some k → wo.heap.size ≤ k) (g : Gro W v0 w1 v1) : Below wo.heap.size wo w1 ∧ ∀ k, v1.ownBlock = some k → wo.heap.size ≤ k := by
  refine ⟨b.grown g.gr b.size q, fun k e => ?_⟩
  rcases g.pl with h | ⟨j, h, hj⟩
  · rw [h] at e; exact q k e
  · rw [h] at e
    simp at e
    have := b.size
    omega
/-- a list off a row that grew -/
theorem RdO.gro19 {w w' : World} {v v' x : Value} {L : List ObV} (h : RdO w x L) (g : Gro w v w' v') (hb : ∀ b off n c, x = .slice (some ⟨b, off, none⟩) n c → n = 0 ∨ v.ownBlock ≠ some b) (ha : ∀ c ∈ L, NearR 0 w.heap.size v c.vs) : RdO w' x L := by
  rcases h with h | ⟨b, off, cap, h1, rfl, h3, h4, h5⟩
  · exact Or.inl h
  · have hn : v.ownBlock ≠ some b := (hb b off _ cap rfl).resolve_left fun q => h1 (List.length_eq_zero_iff.1 q)
    refine Or.inr ⟨b, off, cap, h1, rfl, h3, Nat.lt_of_lt_of_le h4 g.gr.size, fun i hi => ?_⟩
    have z := h5 i hi
    have hm : L.getD i default ∈ L := by
      rw [show L.getD i default = L[i] by simp [List.getD, hi]]
      exact List.getElem_mem hi
    exact ⟨(g.cell (p := ⟨b, _, none⟩) h4 hn).trans z.c0, (g.cell (p := ⟨b, _, none⟩) h4 hn).trans z.c1, (g.cell (p := ⟨b, _, none⟩) h4 hn).trans z.c2, (g.cell (p := ⟨b, _, none⟩) h4 hn).trans z.c3, z.wl, z.we, z.ky, z.rs.groR g (ha _ hm), z.wi⟩
end Go.Proofs.Ytndlfmofjmieaaa.Gf
