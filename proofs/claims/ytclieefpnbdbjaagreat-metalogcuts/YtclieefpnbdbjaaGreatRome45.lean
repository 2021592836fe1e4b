/- TEXTS JOINED: MeCW. -/
import Derived.Test.YtclieefpnbdbjaaGreatRome44
import Derived.Test.YtclieefpnbdbjaaGreatRome26
namespace Go.Proofs.YtclieefpnbdbjaaGreat.Gf
set_option linter.unusedVariables false
set_option linter.unusedSimpArgs false
open Go.RowKit
theorem lay3 {w : World} {a b c : Value} {t : Nat} : (w.alloc (.cells #[a, b, c] t)).cell? ⟨w.heap.size, 0, none⟩ = some a ∧ (w.alloc (.cells #[a, b, c] t)).cell? ⟨w.heap.size, 1, none⟩ = some b ∧ (w.alloc (.cells #[a, b, c] t)).cell? ⟨w.heap.size, 2, none⟩ = some c ∧ Below w.heap.size w (w.alloc (.cells #[a, b, c] t)) ∧ (∀ j, (w.alloc (.cells #[a, b, c] t)).frozen? ⟨w.heap.size, j, none⟩ = false) ∧ w.heap.size < (w.alloc (.cells #[a, b, c] t)).heap.size := by
  have z : ∀ j, (w.alloc (.cells #[a, b, c] t)).cell? ⟨w.heap.size, j, none⟩ = #[a, b, c][j]? := fun j => World.cell?_alloc_new _ _ _ _
  exact ⟨z 0, z 1, z 2, belR _ _, fun j => by simp [go_sem], by simp⟩
theorem set3 {w : World} {g : Nat} {a b c x0 x1 x2 : Value} (m0 : w.cell? ⟨g, 0, none⟩ = some x0) (m1 : w.cell? ⟨g, 1, none⟩ = some x1) (m2 : w.cell? ⟨g, 2, none⟩ = some x2) :
    Only g w (((w.setCell ⟨g, 0, none⟩ a).setCell ⟨g, 1, none⟩ b).setCell ⟨g, 2, none⟩ c) ∧ (((w.setCell ⟨g, 0, none⟩ a).setCell ⟨g, 1, none⟩ b).setCell ⟨g, 2, none⟩ c).cell? ⟨g, 0, none⟩ = some a ∧ (((w.setCell ⟨g, 0, none⟩ a).setCell ⟨g, 1, none⟩ b).setCell ⟨g, 2, none⟩ c).cell? ⟨g, 1, none⟩ = some b ∧ (((w.setCell ⟨g, 0, none⟩ a).setCell ⟨g, 1, none⟩ b).setCell ⟨g, 2, none⟩ c).cell? ⟨g, 2, none⟩ = some c := by
  refine ⟨(((Only.refl _ _).setCell _ _).setCell _ _).setCell _ _, ?_, ?_, ?_⟩
  · rw [World.cell?_setCell_other _ _ _ _ (by simp), World.cell?_setCell_other _ _ _ _ (by simp), World.cell?_setCell_same _ _ _ m0]
  · rw [World.cell?_setCell_other _ _ _ _ (by simp), World.cell?_setCell_same _ _ _ ((World.cell?_setCell_other _ _ _ _ (by simp)).trans m1)]
  · exact World.cell?_setCell_same _ _ _ ((World.cell?_setCell_other _ _ _ _ (by simp)).trans ((World.cell?_setCell_other _ _ _ _ (by simp)).trans m2))
theorem info_bytesW : (Tryz.prog.info? 42).map (fun i => (i.zero, i.size, i.bytes)) = some (some (.slice none 0 0), 1, 24) := by kernel_rfl
theorem info_bytesW' : ∃ i, Tryz.prog.info? 42 = some i ∧ i.zero = some (.slice none 0 0) ∧ i.size = 1 ∧ i.bytes = 24 := by
  have h := info_bytesW
  cases e : Tryz.prog.info? 42 with
  | none => rw [e] at h; cases h
  | some i =>
    rw [e] at h
    simp only [Option.map_some, Option.some.injEq, Prod.mk.injEq] at h
    exact ⟨i, rfl, h.1, h.2.1, h.2.2⟩
/-- what an area's votes say: a checkpoint, and whether it is whole -/
def SavedM (w : World) (ar : Int) (V : Nat → VoS) (wh : Bool) (e : Ending) (w' : World) : Prop := ∃ (x y : Int) (vs : Value) (L : List ObV), e = .returned (.tuple #[.agg #[.int .i64 x, .int .i64 y, vs], .bool wh]) ∧ RdOF w.heap.size w' vs L ∧ Below w.heap.size w w' ∧ (wh = true → x = ar ∧ y = (V 0).ep ∧ onL [(V 0).da, (V 1).da] = some (oL L)) ∧ (wh = false → x = 0 ∧ y = 0 ∧ L = [])
theorem rdOF_nil (N : Nat) (w : World) : RdOF N w (.slice none 0 0) [] := ⟨Or.inl ⟨none, 0, rfl, rfl⟩, fun G W _ _ => Or.inl ⟨none, 0, rfl, rfl⟩⟩
theorem saved_no {w W : World} {ar : Int} {V : Nat → VoS} (b : Below w.heap.size w W) : SavedM w ar V false (.returned (.tuple #[.agg #[.int .i64 0, .int .i64 0, .slice none 0 0], .bool false])) W := ⟨0, 0, _, [], rfl, rdOF_nil _ _, b, fun q => (by cases q), fun _ => ⟨rfl, rfl, rfl⟩⟩
theorem wh_no {V : Nat → VoS} {r : Nat} (hr : r < 2) (h : (V r).has = false ∨ ¬ (V r).ep = (V 0).ep) : (((V 0).has && (V 1).has && ((V 1).ep == (V 0).ep)) = false) := by
  have : r = 0 ∨ r = 1 := by omega
  rcases this with rfl | rfl
  · rcases h with h | h
    · rw [h]; rfl
    · exact absurd rfl h
  · rcases h with h | h
    · rw [h]; simp
    · rw [beq_eq_false_iff_ne.2 h]; simp
theorem saved_yes {w wr w6 Y : World} {ar ep : Int} {V : Nat → VoS} {v : Value} {L : List ObV} {b1 : Nat} (he : (V 0).ep = ep) (hp : IsP [(V 0).da, (V 1).da] (oL L)) (hlt : w.heap.size < wr.heap.size) (b : Below w.heap.size w w6) (hv : RdOF wr.heap.size w6 v L) (o : Only b1 w6 Y) (h1 : b1 = w.heap.size) : SavedM w ar V true (.returned (.tuple #[.agg #[.int .i64 ar, .int .i64 ep, v], .bool true])) Y := by
  refine ⟨ar, ep, v, L, rfl, ⟨hv.turn (G := fun k => k = b1) (fun k hk => by rw [hk, h1]; exact hlt) (o.turnG rfl), fun G W hG t => ?_⟩, b.trans (o.below (by rw [h1]; exact Nat.le_refl _)), fun _ => ⟨rfl, he.symm, onL_some hp⟩, fun q => by cases q⟩
  refine hv.turn (G := fun k => G k ∨ k = b1) (fun k hk => ?_) ?_
  · rcases hk with hk | hk
    · exact Nat.lt_trans (hG k hk) hlt
    · rw [hk, h1]; exact hlt
  · exact TurnG.trans (o.turnG (Or.inr rfl)) ⟨t.os, t.tape, t.output, t.size, fun k hk hn => t.block k hk (fun g => hn (Or.inl g))⟩
theorem hidI {p : Prop} (h : p) : Hid p := h
theorem sv_zero {p : Prop} (h : p := by
  obtain ⟨oY, s0, s1, s2⟩ := set3 (a := .int .i64 0) (b := .int .i64 0) (c := .slice none 0 0) q0 q1 q2
  have F := saved_no (w := w) (ar := ar) (V := V) (BBA.trans (oY.below (by rw [hb1.out]; exact Nat.le_refl _)))
  have F9 := hidI F
  clear F oY BBA
  go_wp2
  exact bodyPost_ret (v := .tuple #[.agg #[.int .i64 0, .int .i64 0, .slice none 0 0], .bool false]) (by simp [results, Tryz.results64, go_sem, s0, s1, s2]) rfl F9.out) : p := h
set_option maxRecDepth 100000 in
set_option maxHeartbeats 4000000 in
theorem msaved_any {w : World} {pg : Nat} {V : Nat → VoS} {D : Nat → Value} (hR : w.rowIs pg 130 (2 * 5) (vtR V D 2)) (hD : ∀ i, i < 2 → Rd w (D i) (V i).da) {ar : Int} {wh : Bool} (hwh : ((V 0).has && (V 1).has && ((V 1).ep == (V 0).ep) && (onL [(V 0).da, (V 1).da]).isSome) = wh) :
    Calls Tryz.prog 64 #[.int .i64 ar, .slice (some ⟨pg, 0, none⟩) 2 2] w (SavedM w ar V wh) := by
  have HR : Hid (w.rowIs pg 130 (2 * 5) (vtR V D 2)) := hR
  have HD : Hid (∀ i, i < 2 → Rd w (D i) (V i).da) := hD
  have HWH : Hid (((V 0).has && (V 1).has && ((V 1).ep == (V 0).ep) && (onL [(V 0).da, (V 1).da]).isSome) = wh) := hwh
  obtain ⟨z0, z1, z2, bW, zf, lW⟩ := @lay3 w (.int .i64 0) (.int .i64 0) (.slice none 0 0) 41
  obtain ⟨W0, hW0⟩ : ∃ W0, W0 = w.alloc (.cells #[.int .i64 0, .int .i64 0, .slice none 0 0] 41) := ⟨_, rfl⟩
  rw [← hW0] at z0 z1 z2 bW zf lW
  obtain ⟨b1, hb1⟩ : ∃ b1, Hid (b1 = w.heap.size) := ⟨_, rfl⟩
  rw [← hb1.out] at z0 z1 z2 zf lW
  have ZZ : Hid (∀ W, Below W0.heap.size W0 W → W.cell? ⟨b1, 0, none⟩ = some (.int .i64 0) ∧ W.cell? ⟨b1, 1, none⟩ = some (.int .i64 0) ∧ W.cell? ⟨b1, 2, none⟩ = some (.slice none 0 0) ∧ (∀ j, W.frozen? ⟨b1, j, none⟩ = false)) := fun W b => ⟨(b.cell (p := ⟨b1, 0, none⟩) lW).trans z0, (b.cell (p := ⟨b1, 1, none⟩) lW).trans z1, (b.cell (p := ⟨b1, 2, none⟩) lW).trans z2, fun j => (b.frozen (p := ⟨b1, j, none⟩) lW).trans (zf j)⟩
  have HBW : Hid (Below w.heap.size w W0) := bW
  have HSZ := hidI (hb1.out ▸ lW : w.heap.size < W0.heap.size)
  obtain ⟨e0, e1, e2, e3, e4⟩ := vt_at (hR.of_block (bW.block pg hR.lt)) (i := 0) (by omega) (by omega)
  simp only [Nat.zero_mul, Nat.zero_add] at e0 e1 e2 e3 e4
  obtain ⟨ep, hep⟩ : ∃ ep, Hid ((V 0).ep = ep) := ⟨_, rfl⟩
  rw [hep.out] at e1
  obtain ⟨i0, hi, hz0, hz1, hz2⟩ := info_bytesW'
  clear hwh hR hD bW e0 e2 e3 e4 z0 z1 z2 zf lW
  go_enter Tryz.func64, Tryz.ntmps64
  rw [hW0] at e1
  go_wp2_with fail
  rw [← hW0]
  rw [← hb1.out]
  clear hW0 e1
  go_loopw [7, 18] (fun pv i wr => ∃ (r : Nat) (vals : List Value), r ≤ 2 ∧ i = .int .i64 (r : Int) ∧ Vs wr W0.heap.size 42 pv ((List.range r).map fun i => (V i).da) vals ∧ Hid (Below W0.heap.size W0 wr) ∧ Hid (∀ i, i < r → (V i).has = true ∧ (V i).ep = (V 0).ep)) (fun _ i _ => 2 - (intOf i).toNat)
  case atStart => exact ⟨0, [], Nat.zero_le _, rfl, Vs.nil _ _ _, Below.refl _ _, fun i hi => by omega⟩
  case round =>
    obtain ⟨r, vals, hr, rfl, hV, hB, hall⟩ := hrel
    obtain ⟨pa, pc, epv⟩ := hV.form
    rw [List.length_map, List.length_range] at epv
    subst epv
    have BB := HBW.out.step16 hB.out HBW.out.size
    by_cases hlt : r < 2
    · have hlt' : (r : Int) < 2 := by omega
      obtain ⟨c0, c1, c2, c3, c4⟩ := vt_at (HR.out.of_block (BB.block pg HR.out.lt)) hlt hlt
      have Rv := (HD.out r hlt).below BB
      have APX : Hid (∀ g, w.heap.size ≤ g → Apart g (D r)) := fun g hg => (HD.out r hlt).apart hg
      obtain ⟨da, dc, ed⟩ := Rv.form
      have NO := @wh_no V r hlt
      have ALL2 : Hid ((V r).has = true → (V r).ep = (V 0).ep → ∀ i, i < r + 1 → (V i).has = true ∧ (V i).ep = (V 0).ep) := fun k1 k2 i hi => by
        by_cases e : i = r
        · rw [e]; exact ⟨k1, k2⟩
        · exact hall.out i (by omega)
      have LST : Hid (((List.range r).map fun i => (V i).da) ++ [(V r).da] = (List.range (r + 1)).map fun i => (V i).da) := by show _ = _; rw [List.range_succ, List.map_append]; rfl
      obtain ⟨Vr, hVr⟩ : ∃ Vr, Hid (V r = Vr) := ⟨_, rfl⟩
      rw [hVr.out] at c0 c1 c3 c4 ed Rv NO ALL2 LST
      rw [ed] at c2 Rv APX
      rw [hep.out] at NO ALL2
      obtain ⟨vh, ve, vda, vco, vw⟩ := Vr
      simp only at c0 c1 c2 c3 c4 Rv NO ALL2 LST
      have HNO : Hid (vh = false ∨ ¬ ve = ep → wh = false) := fun q => by
        have := NO q
        rw [← hep.out] at this
        rw [← HWH.out, this]; rfl
      have ZN := fun cs e => ZZ.out (wr.alloc (.cells cs e)) (hB.out.step16 (belR _ _) hB.out.size)
      have BBN := fun cs e => BB.step16 (belR wr (.cells cs e)) BB.size
      clear NO hVr hall
      cases vh with
      | false =>
        obtain rfl : wh = false := HNO.out (Or.inl rfl)
        obtain ⟨q0, q1, q2, qf⟩ := ZN #[.bool false, .int .i64 ve, .slice da vda.length dc, .int .i64 ((vco : Nat) : Int), .bool vw] 130
        have f0 := qf 0
        have f1 := qf 1
        have f2 := qf 2
        have BBA := BBN #[.bool false, .int .i64 ve, .slice da vda.length dc, .int .i64 ((vco : Nat) : Int), .bool vw] 130
        clear HNO HWH ALL2 LST ZN hV hB BB Rv qf BBN
        exact sv_zero
      | true =>
        by_cases q : ve = ep
        rotate_left
        · have q' : (ve == ep) = false := beq_eq_false_iff_ne.2 q
          have q'' : (ve != ep) = true := by simp [bne, q']
          obtain rfl : wh = false := HNO.out (Or.inr q)
          obtain ⟨q0, q1, q2, qf⟩ := ZN #[.bool true, .int .i64 ve, .slice da vda.length dc, .int .i64 ((vco : Nat) : Int), .bool vw] 130
          have f0 := qf 0
          have f1 := qf 1
          have f2 := qf 2
          have BBA := BBN #[.bool true, .int .i64 ve, .slice da vda.length dc, .int .i64 ((vco : Nat) : Int), .bool vw] 130
          clear HNO HWH ALL2 LST ZN hV hB BB Rv qf BBN
          exact sv_zero
        · subst q
          have AL : Hid _ := ALL2.out rfl rfl
          obtain ⟨w4, hw4⟩ : ∃ w4, w4 = wr.alloc (.cells #[.bool true, .int .i64 ve, .slice da vda.length dc, .int .i64 ((vco : Nat) : Int), .bool vw] 130) := ⟨_, rfl⟩
          obtain ⟨w5, hw5⟩ : ∃ w5, w5 = w4.alloc (.cells #[.slice da vda.length dc] 42) := ⟨_, rfl⟩
          have b4 : Below wr.heap.size wr w4 := by rw [hw4]; exact belR _ _
          have b5 : Below w4.heap.size w4 w5 := by rw [hw5]; exact belR _ _
          have b45 := b4.step16 b5 b4.size
          have V5 := hV.below b45
          have R5 := Rv.below b45
          have B5 := hB.out.step16 b45 hB.out.size
          have hap : ∀ g, (Value.slice pa r pc).ownBlock = some g → Apart g (.slice da vda.length dc) := fun g hg => APX.out g (by
            have h1 := (World.ownsRow.lt hV.row g hg).1
            have h2 := HBW.out.size
            omega)
          have e4 : w4.heap.size = wr.heap.size + 1 := by rw [hw4]; simp
          have c5 : w5.cell? ⟨wr.heap.size + 1, 0, none⟩ = some (.slice da vda.length dc) := by rw [hw5, ← e4, World.cell?_alloc_new]; rfl
          have hl5 : ((List.range r).map fun i => (V i).da).length ≤ 100000 := by rw [List.length_map, List.length_range]; omega
          clear HNO ZN hV hB BB Rv ALL2 BBN
          rw [hw5, hw4] at V5 R5 c5
          rw [hw4] at hw5
          rw [hw5] at B5
          have s5 : W0.heap.size ≤ ((wr.alloc (.cells #[.bool true, .int .i64 ve, .slice da vda.length dc, .int .i64 ((vco : Nat) : Int), .bool vw] 130)).alloc (.cells #[.slice da vda.length dc] 42)).heap.size := B5.size
          have h1 : (Value.slice da vda.length dc).oneCell' = true := rfl
          clear hw4 hw5 b4 b5 b45 e4
          have hlen : ((List.range r).map fun i => (V i).da).length = r := by rw [List.length_map, List.length_range]
          have V5r := V5.row
          rw [hlen] at V5r hl5
          go_wp2_with (at_builtin; go_loud (refine wpList_append_v ((wr.alloc (.cells #[.bool true, .int .i64 ve, .slice da vda.length dc, .int .i64 ((vco : Nat) : Int), .bool vw] 130)).alloc (.cells #[.slice da vda.length dc] 42)) rfl (.tmp 32) (.tmp 35) 140 rfl W0.heap.size 42 i0 (.slice none 0 0) 24 Tryz.underlying140 hi hz0 hz1 hz2 rfl (by decide) (.slice pa r pc) r vals rfl V5r (wr.heap.size + 1) 1 (.slice da vda.length dc) rfl c5 h1 hl5 s5 ?_); intro v7 w7 h7 g7 e7)
          have V7 := V5.push R5 hap (by rw [hlen]; exact h7) g7 (by rcases e7 with e | e <;> simp [e])
          rw [LST.out] at V7
          have B7 : Hid (Below W0.heap.size W0 w7) := B5.grown g7 B5.size (fun q hq => (World.ownsRow.lt V5.row q hq).1)
          clear V5 R5 hap h7 g7 e7 B5 c5 V5r s5
          go_roundw
          case rel => exact ⟨r + 1, _, by omega, by go_num, V7, B7, hep.out ▸ AL⟩
          case measure => simp [intOf]; omega
    · obtain rfl : r = 2 := by omega
      have hge : ¬ (2 : Int) < 2 := by omega
      have A0 := hall.out 0 (by omega)
      have A1 := hall.out 1 (by omega)
      have WH2 : Hid ((onL [(V 0).da, (V 1).da]).isSome = wh) := by
        show _ = _
        rw [← HWH.out, A0.1, A1.1, A1.2]; simp
      have hU := uns16_far (P := [(V 0).da, (V 1).da]) hV.rs (by simp)
      have BW := hidI (fun W (b : Below wr.heap.size wr W) => ZZ.out W (hB.out.step16 b hB.out.size))
      have hlw : w.heap.size < wr.heap.size := by
        have h1 := hB.out.size
        have h2 := HSZ.out
        omega
      have B9 := hidI (fun W (b : Below wr.heap.size wr W) => BB.step16 b BB.size)
      clear A0 A1 hall HWH hV BB hi hz0 hz1 hz2 HR HD ZZ HBW hB
      go_wp2_with fail
      refine hU.mono ?_
      rintro _ w6 (⟨L, v, hp, rfl, hv, b6⟩ | ⟨hn, rfl, b6⟩)
      · obtain ⟨q0, q1, q2, qf⟩ := BW.out w6 b6
        have f0 := qf 0
        have f1 := qf 1
        have f2 := qf 2
        obtain rfl : true = wh := by rw [← WH2.out, onL_some hp]; rfl
        obtain ⟨oY, s0, s1, s2⟩ := set3 (a := .int .i64 ar) (b := .int .i64 ep) (c := v) q0 q1 q2
        have F := saved_yes (ar := ar) (V := V) hep.out hp hlw (B9.out _ b6) hv oY hb1.out
        have F9 := hidI F
        obtain ⟨va, vc, hv0⟩ := hv.form
        clear hU BW B9 hp hv oY F
        subst hv0
        go_wp2
        exact bodyPost_ret (v := .tuple #[.agg #[.int .i64 ar, .int .i64 ep, .slice va L.length vc], .bool true]) (by simp [results, Tryz.results64, go_sem, s0, s1, s2]) rfl F9.out
      · obtain ⟨q0, q1, q2, qf⟩ := BW.out w6 b6
        have f0 := qf 0
        have f1 := qf 1
        have f2 := qf 2
        have BBA := B9.out _ b6
        obtain rfl : false = wh := by rw [← WH2.out, onL_none (fun ⟨l, k⟩ => hn l k)]; rfl
        clear hU BW B9 hn
        exact sv_zero
end Go.Proofs.YtclieefpnbdbjaaGreat.Gf
