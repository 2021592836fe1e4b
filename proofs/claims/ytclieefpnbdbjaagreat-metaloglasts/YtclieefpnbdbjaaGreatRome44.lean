/- TEXTS JOINED: MeCV. -/
import Derived.Test.YtclieefpnbdbjaaGreatRome34
import Derived.Test.YtclieefpnbdbjaaGreatRome17
import Derived.Test.YtclieefpnbdbjaaGreatRome22
import Derived.Test.YtclieefpnbdbjaaGreatRome33
namespace Go.Proofs.YtclieefpnbdbjaaGreat.Gf
set_option linter.unusedVariables false
set_option linter.unusedSimpArgs false
open Go.RowKit
/-- a vote's five cells; a row of votes, the first k of which are told -/
def vt5 (V : VoS) (d : Value) (j : Nat) : Value := if j = 0 then .bool V.has else if j = 1 then .int .i64 V.ep else if j = 2 then d else if j = 3 then .int .i64 ((V.co : Nat) : Int) else .bool V.wi
def vtR (V : Nat → VoS) (D : Nat → Value) (k : Nat) (j : Nat) : Value := if j / 5 < k then vt5 (V (j / 5)) (D (j / 5)) (j % 5) else vt5 noV (.slice none 0 0) (j % 5)
theorem info_vote18 : (Tryz.prog.info? 130).map (fun i => (i.zero, i.size, i.bytes)) = some (some (.agg #[.bool false, .int .i64 0, .slice none 0 0, .int .i64 0, .bool false]), 5, 56) := by kernel_rfl
theorem run_make_votes (n : Nat) (hn : n ≤ 32) (w : World) : (Instr.makeSlice 120 (.int .i64 (n : Int)) (.int .i64 (n : Int))).run Tryz.prog w = .ok (.slice (some ⟨w.heap.size, 0, none⟩) n n) (w.alloc (.cells (madeCells #[.bool false, .int .i64 0, .slice none 0 0, .int .i64 0, .bool false] (n * 5)) 130)) := by
  obtain ⟨i, hi, hzz⟩ := Option.map_eq_some_iff.1 info_vote18
  simp only [Prod.mk.injEq] at hzz
  obtain ⟨hz, hs, hb⟩ := hzz
  have hr := run_make (P := Tryz.prog) w 120 130 i _ Tryz.underlying120 hi hz .i64 .i64 n n (by omega) (Int.le_refl _) (by rw [hb]; omega) (by omega)
  simp only [Int.toNat_natCast, hs] at hr
  exact hr
theorem made_votes (w : World) (n : Nat) (t : TypeId) (V : Nat → VoS) (D : Nat → Value) : (w.alloc (.cells (madeCells #[.bool false, .int .i64 0, .slice none 0 0, .int .i64 0, .bool false] (n * 5)) t)).rowIs w.heap.size t (n * 5) (vtR V D 0) := by
  have hs : (madeCells #[Value.bool false, .int .i64 0, .slice none 0 0, .int .i64 0, .bool false] (n * 5)).size = n * 5 := size_madeCells _ _
  have h := World.rowIs_alloc w (madeCells #[.bool false, .int .i64 0, .slice none 0 0, .int .i64 0, .bool false] (n * 5)) t (vtR V D 0) (fun i hi => by
    rw [hs] at hi
    have h5 : i % 5 < 5 := Nat.mod_lt _ (by decide)
    have : i % 5 = 0 ∨ i % 5 = 1 ∨ i % 5 = 2 ∨ i % 5 = 3 ∨ i % 5 = 4 := by omega
    unfold vtR vt5
    rcases this with e | e | e | e | e <;> simp [madeCells, hi, e, noV])
  rw [hs] at h
  exact h
theorem vt_step {w : World} {g t n r : Nat} {V : Nat → VoS} {D : Nat → Value} {d : Value} (h : w.rowIs g t (n * 5) (vtR V D r)) (hr : r < n) : (((((w.setCell ⟨g, r * 5, none⟩ (.bool (V r).has)).setCell ⟨g, r * 5 + 1, none⟩ (.int .i64 (V r).ep)).setCell ⟨g, r * 5 + 2, none⟩ d).setCell ⟨g, r * 5 + 3, none⟩ (.int .i64 (((V r).co : Nat) : Int))).setCell ⟨g, r * 5 + 4, none⟩ (.bool (V r).wi)).rowIs g t (n * 5) (vtR V (fun i => if i = r then d else D i) (r + 1)) := by
  refine World.rowIs.congr (((((World.rowIs.set h _ _).set _ _).set _ _).set _ _).set _ _) fun j hj => ?_
  unfold vtR
  have key : ∀ m, m < 5 → j = r * 5 + m → (if j / 5 < r + 1 then vt5 (V (j / 5)) (if j / 5 = r then d else D (j / 5)) (j % 5) else vt5 noV (.slice none 0 0) (j % 5)) = vt5 (V r) d m := fun m hm e => by
    have e1 : j / 5 = r := by omega
    have e2 : j % 5 = m := by omega
    rw [e1, e2, if_pos (by omega), if_pos rfl]
  by_cases e4 : j = r * 5 + 4
  · rw [if_pos e4, key 4 (by omega) e4]; rfl
  rw [if_neg e4]
  by_cases e3 : j = r * 5 + 3
  · rw [if_pos e3, key 3 (by omega) e3]; rfl
  rw [if_neg e3]
  by_cases e2 : j = r * 5 + 2
  · rw [if_pos e2, key 2 (by omega) e2]; rfl
  rw [if_neg e2]
  by_cases e1 : j = r * 5 + 1
  · rw [if_pos e1, key 1 (by omega) e1]; rfl
  rw [if_neg e1]
  by_cases e0 : j = r * 5
  · rw [if_pos e0, key 0 (by omega) (by omega)]; rfl
  rw [if_neg e0]
  by_cases e : j / 5 < r
  · have n1 : ¬ j / 5 = r := by omega
    have n2 : j / 5 < r + 1 := by omega
    simp only [if_pos e, if_pos n2, if_neg n1]
  · have n2 : ¬ j / 5 < r + 1 := by omega
    simp only [if_neg e, if_neg n2]
theorem vt_at {w : World} {g t n k : Nat} {V : Nat → VoS} {D : Nat → Value} (h : w.rowIs g t (n * 5) (vtR V D k)) {i : Nat} (hi : i < n) (hk : i < k) : w.cell? ⟨g, i * 5, none⟩ = some (.bool (V i).has) ∧ w.cell? ⟨g, i * 5 + 1, none⟩ = some (.int .i64 (V i).ep) ∧ w.cell? ⟨g, i * 5 + 2, none⟩ = some (D i) ∧ w.cell? ⟨g, i * 5 + 3, none⟩ = some (.int .i64 (((V i).co : Nat) : Int)) ∧ w.cell? ⟨g, i * 5 + 4, none⟩ = some (.bool (V i).wi) := by
  have c : ∀ m, m < 5 → w.cell? ⟨g, i * 5 + m, none⟩ = some (vt5 (V i) (D i) m) := fun m hm => by
    rw [h.cell (i := i * 5 + m) (by omega)]
    unfold vtR
    rw [if_pos (by omega), show (i * 5 + m) / 5 = i by omega, show (i * 5 + m) % 5 = m by omega]
  exact ⟨c 0 (by omega), c 1 (by omega), c 2 (by omega), c 3 (by omega), c 4 (by omega)⟩
theorem Rk.only {N g : Nat} {w w' : World} {v : Value} {p : List UInt8} (h : Rk N w v p) (o : Only g w w') (hg : g < N) : Rk N w' v p := ⟨h.turn (G := fun k => k = g) (fun k e => by rw [e]; exact hg) (Only.turnG o rfl), h.far⟩
/-- votes of an area's sectors, and an error -/
def VotesM (w : World) (X : Int) (V : Nat → VoS) (e : Ending) (w' : World) : Prop := (¬ X = 0 ∧ e = .returned (.tuple #[.slice none 0 0, .int .i64 X]) ∧ Below w.heap.size w w') ∨ (X = 0 ∧ ∃ (pg : Nat) (D : Nat → Value), e = .returned (.tuple #[.slice (some ⟨pg, 0, none⟩) 2 2, .int .i64 0]) ∧ w'.rowIs pg 130 (2 * 5) (vtR V D 2) ∧ (∀ i, i < 2 → Rd w' (D i) (V i).da) ∧ Below w.heap.size w w')
set_option maxRecDepth 100000 in
set_option maxHeartbeats 4000000 in
theorem mvotes_any {w : World} {ab : Nat} {GA : Nat → Prop} {a : ArS} (h : ArAt w ab GA a) {g : GeoS} (hg : g.Wf) {u : Value} {K : List Bool} (hk : RdB w u K) {ar : Int} (haw : (Lit.int .i64 ar).wf = true) :
    Calls Tryz.prog 63 #[.pointer (some ⟨ab, 0, none⟩), aggG g, u, .int .i64 ar] w (VotesM w (rvX a) (fun i => onV a g K ar (i : Int))) := by
  obtain ⟨ua, uc, eu⟩ := hk.form
  subst eu
  have HA : Hid (ArAt w ab GA a) := h
  have HK : Hid (RdB w (.slice ua K.length uc) K) := hk
  have KS0 := fun V (i : Int) (hi : (Lit.int .i64 i).wf = true) => @larea_any V g hg ar i haw hi _ rfl
  have WA : ∀ i : Nat, i < 2 → (Lit.int .i64 (arG g ar (i : Int))).wf = true := fun i hi => WalkArith.wf_i64 (by
    unfold arG
    split
    · rename_i q
      obtain ⟨⟨_, q1, q2⟩, q3, q4⟩ := q
      omega
    · omega)
  have LG := geo_laid w g 23
  obtain ⟨V, hV⟩ : ∃ V : Nat → VoS, Hid (V = fun (i : Nat) => onV a g K ar (i : Int)) := ⟨_, rfl⟩
  rw [← hV.out]
  have HVR : Hid (∀ i : Nat, rvV a K (arG g ar (i : Int)) = V i) := fun i => by rw [hV.out]; rfl
  obtain ⟨X, hX⟩ : ∃ X, Hid (X = rvX a) := ⟨_, rfl⟩
  rw [← hX.out]
  obtain ⟨A, hA⟩ : ∃ A : Nat → Int, Hid (A = fun (i : Nat) => arG g ar (i : Int)) := ⟨_, rfl⟩
  have KR : Hid (∀ (i : Nat), i < 2 → ∀ W2, Below w.heap.size w W2 → Calls Tryz.prog 69 #[.pointer (some ⟨ab, 0, none⟩), .slice ua K.length uc, .int .i64 (A i)] W2 (TellsVF W2 X (V i))) := fun i hi W2 b => by
    rw [hA.out, hX.out, ← HVR.out i]
    exact vread17_any (HA.out.below b) (WA i hi) (HK.out.below b)
  clear h hk hV HVR
  obtain ⟨k, m, z, s, t, o⟩ := g
  rw [aggE] at KS0 ⊢
  have KS1 : Hid (∀ (i : Nat), i < 2 → ∀ W2, Calls Tryz.prog 78 #[.agg #[.int .i64 k, .int .i64 m, .int .i64 z, .int .i64 s, .int .i64 t, .int .i64 o], .int .i64 ar, .int .i64 (i : Int)] W2 fun e w' => e = .returned (.int .i64 (A i)) ∧ Below W2.heap.size W2 w') := fun i hi W2 => by
    rw [hA.out]; exact KS0 W2 (i : Int) (WalkArith.wf_i64 (by omega))
  clear KS0 WA hA hX
  obtain ⟨W, hW⟩ : ∃ W, W = w.alloc (.cells #[.int .i64 k, .int .i64 m, .int .i64 z, .int .i64 s, .int .i64 t, .int .i64 o] 23) := ⟨_, rfl⟩
  have LG2 : Hid (∀ V, Below W.heap.size W V → GeoAt V w.heap.size ⟨k, m, z, s, t, o⟩ ∧ Below w.heap.size w V) := by rw [hW]; exact LG
  clear LG
  obtain ⟨gb, hgb⟩ : ∃ gb, Hid (gb = w.heap.size) := ⟨_, rfl⟩
  have mk2 : (Instr.makeSlice 120 (.int .i64 2) (.int .i64 2)).run Tryz.prog W = _ := run_make_votes 2 (by omega) W
  obtain ⟨u1, hu⟩ : ∃ u1, u1 = W.alloc (.cells (madeCells #[.bool false, .int .i64 0, .slice none 0 0, .int .i64 0, .bool false] (2 * 5)) 130) := ⟨_, rfl⟩
  have hub : Below W.heap.size W u1 := by rw [hu]; exact belR _ _
  have hur : u1.rowIs W.heap.size 130 (2 * 5) (vtR V (fun _ => .slice none 0 0) 0) := by rw [hu]; exact made_votes W 2 130 V _
  obtain ⟨pg, hpg⟩ : ∃ pg, Hid (pg = W.heap.size) := ⟨_, rfl⟩
  rw [← hu, ← hpg.out] at mk2
  rw [← hpg.out] at hur
  have START : Hid (u1.rowIs pg 130 (2 * 5) (vtR V (fun _ => .slice none 0 0) 0) ∧ Below W.heap.size W u1) := ⟨hur, hub⟩
  clear hu hub hur
  go_enter Tryz.func63, Tryz.ntmps63
  go_wp2_with fail
  rw [← hW, ← hgb.out]
  clear hW
  rw [mk2]
  go_wp2_with fail
  go_loopw [17] (fun i wr => ∃ (r : Nat) (D : Nat → Value), r ≤ 2 ∧ i = .int .i64 (r : Int) ∧ wr.rowIs pg 130 (2 * 5) (vtR V D r) ∧ Hid (Below W.heap.size W wr) ∧ Hid (∀ i, i < r → Rk (pg + 1) wr (D i) (V i).da) ∧ Hid (0 < r → X = 0)) (fun i _ => 2 - (intOf i).toNat)
  case atStart => exact ⟨0, _, Nat.zero_le _, rfl, START.out.1, START.out.2, fun i hi => by omega, fun q => by omega⟩
  case round =>
    clear START mk2
    obtain ⟨r, D, hr, rfl, hR, hB, hD, hX0⟩ := hrel
    obtain ⟨⟨y0, y1, y2, y3, y4, y5⟩, B0⟩ := LG2.out wr hB.out
    simp only at y0 y1 y2 y3 y4 y5
    rw [← hgb.out] at y0 y1 y2 y3 y4 y5
    have hX0' := hX0
    by_cases hlt : r < 2
    · have hlt' : (r : Int) < 2 := by omega
      have KS := KS1.out r hlt wr
      have KRr := fun W2 (b : Below wr.heap.size wr W2) => KR.out r hlt W2 (B0.step16 b B0.size)
      have ST := fun (Y : World) (d : Value) (h : Y.rowIs pg 130 (2 * 5) (vtR V D r)) => vt_step (d := d) h hlt
      have HST : Hid _ := ST
      obtain ⟨Ar, hAr⟩ : ∃ Ar, A r = Ar := ⟨_, rfl⟩
      rw [hAr] at KS
      simp only [hAr] at KRr
      obtain ⟨Vr, hVr⟩ : ∃ Vr, Hid (V r = Vr) := ⟨_, rfl⟩
      rw [hVr.out] at KRr HST
      obtain ⟨vh, ve, vda, vco, vw⟩ := Vr
      simp only at HST
      clear ST hAr
      go_wp2_with fail
      refine KS.mono ?_
      rintro _ w2 ⟨rfl, B2⟩
      have KR2 := KRr w2 B2
      clear KRr KS
      go_wp2_with fail
      refine KR2.mono ?_
      rintro _ w3 ⟨vd, rfl, R3, F3, B3⟩
      simp only at R3
      obtain ⟨da, dc, ed⟩ := R3.form
      subst ed
      rw [show aggV ⟨vh, ve, vda, vco, vw⟩ (.slice da vda.length dc) = .agg #[.bool vh, .int .i64 ve, .slice da vda.length dc, .int .i64 ((vco : Nat) : Int), .bool vw] from rfl]
      have B13 := B2.step16 B3 B2.size
      obtain ⟨w4, hw4⟩ : ∃ w4, w4 = w3.alloc (.cells #[.bool vh, .int .i64 ve, .slice da vda.length dc, .int .i64 ((vco : Nat) : Int), .bool vw] 130) := ⟨_, rfl⟩
      obtain ⟨v0, v1, v2, v3, v4, b4, -, l4⟩ := @lay5 w3 (.bool vh) (.int .i64 ve) (.slice da vda.length dc) (.int .i64 ((vco : Nat) : Int)) (.bool vw) 130
      rw [← hw4] at v0 v1 v2 v3 v4 b4 l4
      have B14 := B13.step16 b4 B13.size
      by_cases q : X = 0
      · subst q
        have hR4 := hR.of_block (B14.block pg hR.lt)
        have q0 := hR4.cell (i := r * 5) (by omega)
        have q1 := hR4.cell (i := r * 5 + 1) (by omega)
        have q2 := hR4.cell (i := r * 5 + 2) (by omega)
        have q3 := hR4.cell (i := r * 5 + 3) (by omega)
        have q4 := hR4.cell (i := r * 5 + 4) (by omega)
        have g0 := hR4.frozen (r * 5)
        have g1 := hR4.frozen (r * 5 + 1)
        have g2 := hR4.frozen (r * 5 + 2)
        have g3 := hR4.frozen (r * 5 + 3)
        have g4 := hR4.frozen (r * 5 + 4)
        obtain ⟨Y, hY⟩ : ∃ Y, Y = ((((w4.setCell ⟨pg, r * 5, none⟩ (.bool vh)).setCell ⟨pg, r * 5 + 1, none⟩ (.int .i64 ve)).setCell ⟨pg, r * 5 + 2, none⟩ (.slice da vda.length dc)).setCell ⟨pg, r * 5 + 3, none⟩ (.int .i64 ((vco : Nat) : Int))).setCell ⟨pg, r * 5 + 4, none⟩ (.bool vw) := ⟨_, rfl⟩
        have oY : Only pg w4 Y := by rw [hY]; exact (((((Only.refl _ _).setCell _ _).setCell _ _).setCell _ _).setCell _ _).setCell _ _
        have R5 : Hid (Y.rowIs pg 130 (2 * 5) (vtR V (fun i => if i = r then .slice da vda.length dc else D i) (r + 1))) := by rw [hY]; exact HST.out w4 (.slice da vda.length dc) hR4
        have lpg : pg < w2.heap.size := Nat.lt_of_lt_of_le hR.lt B2.size
        have RK : Rk (pg + 1) w4 (.slice da vda.length dc) vda := ⟨R3.below b4, fun x n c e => (F3 x n c e).imp id fun k => by omega⟩
        have D5 : Hid (∀ i, i < r + 1 → Rk (pg + 1) Y ((fun i => if i = r then Value.slice da vda.length dc else D i) i) (V i).da) := fun i hi => by
          show Rk (pg + 1) Y (if i = r then Value.slice da vda.length dc else D i) (V i).da
          by_cases e : i = r
          · rw [if_pos e, e, hVr.out]
            exact RK.only oY (by omega)
          · rw [if_neg e]
            exact ((hD.out i (by omega)).below B14).only oY (by omega)
        have B5 : Hid (Below W.heap.size W Y) := (hB.out.step16 B14 hB.out.size).trans (oY.below (by rw [hpg.out]; exact Nat.le_refl _))
        clear KR2 R3 F3 B2 B3 B13 b4 B14 hR hR4 hD hB HST oY RK hVr B0 y0 y1 y2 y3 y4 y5 l4
        subst hw4
        go_wp2
        rw [← hY]
        clear hY
        go_roundw
        case rel => exact ⟨r + 1, _, by omega, by go_num, R5.out, B5, D5, fun _ => by first | rfl | trivial⟩
        case measure => simp [intOf]; omega
      · have q1 : (X == 0) = false := beq_eq_false_iff_ne.2 q
        have q2 : (X != 0) = true := by simp [bne, q1]
        have F : Hid (VotesM w X V (.returned (.tuple #[.slice none 0 0, .int .i64 X])) w4) := Or.inl ⟨q, rfl, B0.step16 B14 B0.size⟩
        clear KR2 R3 F3 B2 B3 B13 b4 B14 hR hD hB HST hVr B0 y0 y1 y2 y3 y4 y5 v0 v1 v2 v3 v4 l4 hX0
        go_wp2
        rw [← hw4]
        clear hw4
        exact bodyPost_ret (v := .tuple #[.slice none 0 0, .int .i64 X]) (by simp [results, Tryz.results63, go_sem]) rfl F.out
    · obtain rfl : r = 2 := by omega
      have F : Hid (VotesM w X V (.returned (.tuple #[.slice (some ⟨pg, 0, none⟩) 2 2, .int .i64 0])) wr) := Or.inr ⟨hX0.out (by omega), pg, D, rfl, hR, fun i hi => (hD.out i hi).rd, B0⟩
      clear hR hD hB B0 hX0
      go_wp2
      exact bodyPost_ret (v := .tuple #[.slice (some ⟨pg, 0, none⟩) 2 2, .int .i64 0]) (by simp [results, Tryz.results63, go_sem]) rfl F.out
set_option maxRecDepth 100000 in
set_option maxHeartbeats 1000000 in
theorem mwitn_any {w : World} {pg : Nat} {V : Nat → VoS} {D : Nat → Value} (hR : w.rowIs pg 130 (2 * 5) (vtR V D 2)) (hD : ∀ i, i < 2 → Rd w (D i) (V i).da) {x : Bool} (hx : ((V 0).wi && (V 1).wi) = x) : Calls Tryz.prog 65 #[.slice (some ⟨pg, 0, none⟩) 2 2] w fun e w' => e = .returned (.bool x) ∧ Below w.heap.size w w' := by
  have HR : Hid (w.rowIs pg 130 (2 * 5) (vtR V D 2)) := hR
  have HD : Hid (∀ i, i < 2 → Rd w (D i) (V i).da) := hD
  have HX : Hid (((V 0).wi && (V 1).wi) = x) := hx
  clear hx hR hD
  go_enter Tryz.func65, Tryz.ntmps65
  go_wp2_with fail
  go_loopw [7] (fun i wr => ∃ r : Nat, r ≤ 2 ∧ i = .int .i64 (r : Int) ∧ Hid (Below w.heap.size w wr) ∧ Hid (∀ i, i < r → (V i).wi = true)) (fun i _ => 2 - (intOf i).toNat)
  case atStart => exact ⟨0, Nat.zero_le _, rfl, Below.refl _ _, fun i hi => by omega⟩
  case round =>
    obtain ⟨r, hr, rfl, hB, hW⟩ := hrel
    by_cases hlt : r < 2
    · have hlt' : (r : Int) < 2 := by omega
      obtain ⟨c0, c1, c2, c3, c4⟩ := vt_at (HR.out.of_block (hB.out.block pg HR.out.lt)) hlt hlt
      obtain ⟨da, dc, ed⟩ := (HD.out r hlt).form
      obtain ⟨Vr, hVr⟩ : ∃ Vr, Hid (V r = Vr) := ⟨_, rfl⟩
      rw [hVr.out] at c0 c1 c3 c4 ed
      rw [ed] at c2
      obtain ⟨vh, ve, vda, vco, vw⟩ := Vr
      simp only at c0 c1 c2 c3 c4
      have B2 : Hid (∀ cs e, Below w.heap.size w (wr.alloc (.cells cs e))) := fun cs e => hB.out.step16 (belR _ _) hB.out.size
      cases vw with
      | true =>
        have W2 : Hid (∀ i, i < r + 1 → (V i).wi = true) := fun i hi => by
          by_cases e : i = r
          · rw [e, hVr.out]
          · exact hW.out i (by omega)
        clear hVr hW hB
        go_wp2
        go_roundw
        case rel => exact ⟨r + 1, by omega, by go_num, B2.out _ _, W2⟩
        case measure => simp [intOf]; omega
      | false =>
        have E : x = false := by
          rw [← HX.out]
          have : r = 0 ∨ r = 1 := by omega
          rcases this with rfl | rfl
          · rw [hVr.out]; rfl
          · rw [hVr.out]; simp
        subst E
        clear hVr hW hB HX
        go_wp2
        go_ret
        exact ⟨rfl, B2.out _ _⟩
    · obtain rfl : r = 2 := by omega
      have E : x = true := by rw [← HX.out, hW.out 0 (by omega), hW.out 1 (by omega)]; rfl
      subst E
      have FB : Hid (Below w.heap.size w wr) := hB.out
      clear hW hB HX
      go_wp2
      go_ret
      exact ⟨rfl, FB.out⟩
end Go.Proofs.YtclieefpnbdbjaaGreat.Gf
