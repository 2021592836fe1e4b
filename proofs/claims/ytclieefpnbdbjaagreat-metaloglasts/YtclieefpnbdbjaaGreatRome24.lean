/- TEXTS JOINED: ReCE. -/
import Derived.Test.YtclieefpnbdbjaaGreatRome23
namespace Go.Proofs.YtclieefpnbdbjaaGreat.Gf
set_option linter.unusedVariables false
set_option linter.unusedSimpArgs false
open Go.RowKit
theorem nuL1 {p : List UInt8} (h : 1 ≤ p.length) : nuL (p.take 1) = (co p 0).toNat := by
  rcases p with _ | ⟨x, p⟩
  · simp at h
  · show 0 * 256 + x.toNat = x.toNat; omega
theorem nuL2 {p : List UInt8} (h : 2 ≤ p.length) : nuL (p.take 2) = un p := by
  rcases p with _ | ⟨x, _ | ⟨y, p⟩⟩
  · simp at h
  · simp at h
  · show (0 * 256 + x.toNat) * 256 + y.toNat = 256 * x.toNat + y.toNat; omega
theorem nuL4 {p : List UInt8} (h : 4 ≤ p.length) : nuL (p.take 4) = nu p := by
  rcases p with _ | ⟨x, _ | ⟨y, _ | ⟨z, _ | ⟨t, p⟩⟩⟩⟩
  · simp at h
  · simp at h
  · simp at h
  · simp at h
  · show (((0 * 256 + x.toNat) * 256 + y.toNat) * 256 + z.toNat) * 256 + t.toNat = x.toNat * 16777216 + y.toNat * 65536 + z.toNat * 256 + t.toNat; omega
/-- what is read so far: the record's variable lies at the block G, the reader at rb -/
structure Got16 (w0 w1 : World) (rb G : Nat) (wr : World) (k : Int) (y : List UInt8) (n : Int) (v : Value) (zs : List Int) (p : List UInt8) : Prop where
  rd : RdrAt w0 rb wr p
  c0 : wr.cell? ⟨G, 0, none⟩ = some (.int .i64 k)
  c1 : wr.cell? ⟨G, 1, none⟩ = some (.string ⟨y.toArray⟩)
  c2 : wr.cell? ⟨G, 2, none⟩ = some (.int .i64 n)
  c3 : wr.cell? ⟨G, 3, none⟩ = some v
  fz : ∀ j, wr.frozen? ⟨G, j, none⟩ = false
  own : OwnZ wr w1.heap.size 3 v zs
  tn : TurnL [rb, G] w1 wr
  lg : w0.heap.size ≤ G ∧ G < w1.heap.size ∧ rb < w1.heap.size ∧ rb ≠ G
section
variable {w0 w1 : World} {rb G : Nat} {wr w' : World} {k : Int} {y : List UInt8} {n : Int} {v v' : Value} {zs zs' : List Int} {p p' : List UInt8}
theorem Got16.took (h : Got16 w0 w1 rb G wr k y n v zs p) (o : Only rb wr w') (r : RdrAt w0 rb w' p') : Got16 w0 w1 rb G w' k y n v zs p' := by
  have e : ∀ j, w'.cell? ⟨G, j, none⟩ = wr.cell? ⟨G, j, none⟩ := fun j => o.cell (p := ⟨G, j, none⟩) (fun q => h.lg.2.2.2 q.symm)
  exact ⟨r, (e 0).trans h.c0, (e 1).trans h.c1, (e 2).trans h.c2, (e 3).trans h.c3, fun j => (o.frozen (p := ⟨G, j, none⟩) (fun q => h.lg.2.2.2 q.symm)).trans (h.fz j), h.own.only o h.lg.2.2.1, h.tn.trans (o.turnL (by simp)), h.lg⟩
theorem Got16.drew (h : Got16 w0 w1 rb G wr k y n v zs p) : Got16 w0 w1 rb G wr.drew k y n v zs p :=
  ⟨h.rd.below (Below.refl _ _).drew, h.c0, h.c1, h.c2, h.c3, h.fz, World.ownsRow.drew h.own, h.tn.drew, h.lg⟩
theorem Got16.put (h : Got16 w0 w1 rb G wr k y n v zs p) {j : Nat} {u : Value} {k' : Int} {y' : List UInt8} {n' : Int} (hj : j < 3) (e0 : (Value.int .i64 k') = if j = 0 then u else .int .i64 k) (e1 : Value.string ⟨y'.toArray⟩ = if j = 1 then u else .string ⟨y.toArray⟩) (e2 : (Value.int .i64 n') = if j = 2 then u else .int .i64 n) : Got16 w0 w1 rb G (wr.setCell ⟨G, j, none⟩ u) k' y' n' v zs p := by
  have o : Only G wr (wr.setCell ⟨G, j, none⟩ u) := (Only.refl _ _).setCell _ _
  have same : ∀ i x, wr.cell? ⟨G, i, none⟩ = some x → (wr.setCell ⟨G, j, none⟩ u).cell? ⟨G, i, none⟩ = some (if j = i then u else x) := by
    intro i x hx
    by_cases e : j = i
    · subst e
      rw [if_pos rfl]; exact World.cell?_setCell_same _ _ _ hx
    · rw [if_neg e]; exact (World.cell?_setCell_other _ _ _ _ (by simp; try omega)).trans hx
  refine ⟨h.rd.only o h.lg.1 (fun e => h.lg.2.2.2 e.symm), ?_, ?_, ?_, ?_, fun i => (World.frozen?_setCell _ _ _ _).trans (h.fz i), h.own.only o h.lg.2.1, h.tn.put (by simp) _ _, h.lg⟩
  · rw [same 0 _ h.c0, e0]
  · rw [same 1 _ h.c1, e1]
  · rw [same 2 _ h.c2, e2]
  · rw [same 3 _ h.c3, if_neg (by omega)]
theorem Got16.grow (h : Got16 w0 w1 rb G wr k y n v zs p) (g : Gro wr v w' v') (o : OwnZ w' w1.heap.size 3 v' zs') : Got16 w0 w1 rb G (w'.setCell ⟨G, 3, none⟩ v') k y n v' zs' p := by
  have nb : ∀ b, b < w1.heap.size → v.ownBlock ≠ some b := fun b hb e => by have := (World.ownsRow.lt h.own b e).1; omega
  have lw : ∀ b, b < w1.heap.size → b < wr.heap.size := fun b hb => Nat.lt_of_lt_of_le hb h.tn.size
  have e : ∀ j, w'.cell? ⟨G, j, none⟩ = wr.cell? ⟨G, j, none⟩ := fun j => g.cell (p := ⟨G, j, none⟩) (lw _ h.lg.2.1) (nb _ h.lg.2.1)
  have O : Only G w' (w'.setCell ⟨G, 3, none⟩ v') := (Only.refl _ _).setCell _ _
  have oth : ∀ j, j ≠ 3 → (w'.setCell ⟨G, 3, none⟩ v').cell? ⟨G, j, none⟩ = w'.cell? ⟨G, j, none⟩ := fun j hj => World.cell?_setCell_other _ _ _ _ (by simp; try omega)
  have R1 : RdrAt w0 rb w' p := by
    obtain ⟨u, c, R⟩ := h.rd.at0
    have b0 : w0.heap.size ≤ w1.heap.size := by have := h.lg; omega
    exact ⟨⟨u, (g.cell (p := ⟨rb, 0, none⟩) (lw _ h.lg.2.2.1) (nb _ h.lg.2.2.1)).trans c, R⟩, (g.frozen (p := ⟨rb, 0, none⟩) (lw _ h.lg.2.2.1) (nb _ h.lg.2.2.1)).trans h.rd.fz, h.rd.bl.grown g.gr h.rd.bl.size (fun q hq => Nat.le_trans b0 (World.ownsRow.lt h.own q hq).1), h.rd.lo⟩
  refine ⟨R1.only O h.lg.1 (fun e => h.lg.2.2.2 e.symm), ?_, ?_, ?_, ?_, fun i => (World.frozen?_setCell _ _ _ _).trans ((g.frozen (p := ⟨G, i, none⟩) (lw _ h.lg.2.1) (nb _ h.lg.2.1)).trans (h.fz i)), o.only O h.lg.2.1, ?_, h.lg⟩
  · rw [oth 0 (by omega), e 0, h.c0]
  · rw [oth 1 (by omega), e 1, h.c1]
  · rw [oth 2 (by omega), e 2, h.c2]
  · exact World.cell?_setCell_same _ _ _ ((e 3).trans h.c3)
  · refine TurnL.put ?_ (by simp) _ _
    exact ⟨g.gr.os.trans h.tn.os, g.gr.tape.trans h.tn.tape, g.gr.output.trans h.tn.output, Nat.le_trans h.tn.size g.gr.size, fun i hi hg => (g.gr.block i (lw i hi) (fun e => nb i hi e.symm)).trans (h.tn.block i hi hg)⟩
end
/-- a record that was read, or none -/
def Reads16 (w0 : World) (rb : Nat) (w : World) (p : List UInt8) (e : Ending) (w' : World) : Prop :=
  (NxR p ∧ ∃ c : RcV, e = .returned (aggR c) ∧ c.r = raR p ∧ c.In w' ∧ (∀ k, c.vs.ownBlock = some k → w.heap.size ≤ k ∧ k < w'.heap.size) ∧ RdrAt w0 rb w' (reR p) ∧ Turn rb w w') ∨ (¬ NxR p ∧ e = .panicked pz16 ∧ Turn rb w w')
theorem Reads16.no {w0 : World} {rb : Nat} {w : World} {p : List UInt8} {w' : World} (h : ¬ NxR p) (t : Turn rb w w') : Reads16 w0 rb w p (.panicked pz16) w' := Or.inr ⟨h, rfl, t⟩
theorem Got16.spot {w0 w1 : World} {rb G : Nat} {wr w' : World} {k : Int} {y : List UInt8} {n : Int} {v v' : Value} {zs : List Int} {p : List UInt8} (h : Got16 w0 w1 rb G wr k y n v zs p) (g : Gro wr v w' v') : w'.cell? ⟨G, 3, none⟩ = some v ∧ w'.frozen? ⟨G, 3, none⟩ = false := by
  have nb : v.ownBlock ≠ some G := fun e => by have := (World.ownsRow.lt h.own G e).1; have := h.lg; omega
  have lw : G < wr.heap.size := Nat.lt_of_lt_of_le h.lg.2.1 h.tn.size
  exact ⟨(g.cell (p := ⟨G, 3, none⟩) lw nb).trans h.c3, (g.frozen (p := ⟨G, 3, none⟩) lw nb).trans (h.fz 3)⟩
theorem no_ln {p : List UInt8} (h : ¬ LnR p) : ¬ NxR p := fun q => h q.1
theorem rec_tail {p : Prop} (h : p := by
  refine rnH 5 fun K hK => ?_
  refine step_append_z (w := w3) (z := z) rfl (.tmp 21) (.tmp 24) rfl rfl rfl g3.own rfl rfl (by rw [ls]; omega) (Nat.le_trans g3.tn.size (Nat.le_refl _)) ?_
  intro v5 w5 o5 G5
  have g5 := g3.grow G5 o5
  obtain ⟨z3, z4⟩ := g3.spot G5
  rw [← EZ.out] at g5
  obtain ⟨a5, n5, ev⟩ := owns_form o5
  rw [List.length_append, ls, List.length_singleton] at ev
  subst ev
  clear o5 G5 g3
  refine koH hK trivial fun hHeld => ?_
  clear hK K
  refine tkH 6 ?_
  refine rnH 7 fun K hK => ?_
  go_simp
  refine koH hK trivial fun hHeld => ?_
  clear hK K
  refine wpAnyH_done (by kernel_rfl) ?_ _
  go_wp2
  go_roundw
  case rel => exact ⟨r + 1, _, by omega, by go_num, g5, HL⟩
  case measure => simp [intOf]; omega) : p := h
set_option maxRecDepth 100000 in
set_option maxHeartbeats 4000000 in
theorem rrec16_any {w0 w : World} {rb : Nat} {p : List UInt8} (h : RdrAt w0 rb w p) (hp : p.length ≤ 100000) : Calls Tryz.prog 167 #[.pointer (some ⟨rb, 0, none⟩)] w (Reads16 w0 rb w p) := by
  obtain ⟨w1, hw1⟩ : ∃ w1, w1 = (w.alloc (.cells #[.int .i64 0, .string ⟨#[]⟩, .int .i64 0, .slice none 0 0] 38)).alloc (.cells #[.int .i64 0, .string ⟨#[]⟩, .int .i64 0, .slice none 0 0] 38) := ⟨_, rfl⟩
  have s1 : w1.heap.size = w.heap.size + 2 := by rw [hw1]; simp
  have lr := h.lt
  have B1 : Below w.heap.size w w1 := by rw [hw1]; exact (belR _ _).trans ((belR _ _).mono (by simp))
  have cG : ∀ j, w1.cell? ⟨w.heap.size + 1, j, none⟩ = #[Value.int .i64 0, .string ⟨#[]⟩, .int .i64 0, .slice none 0 0][j]? := fun j => by
    rw [hw1, show w.heap.size + 1 = (w.alloc (.cells #[.int .i64 0, .string ⟨#[]⟩, .int .i64 0, .slice none 0 0] 38)).heap.size by simp, World.cell?_alloc_new]
  have cA : ∀ j, w1.cell? ⟨w.heap.size, j, none⟩ = #[Value.int .i64 0, .string ⟨#[]⟩, .int .i64 0, .slice none 0 0][j]? := fun j => by
    rw [hw1, World.cell?_alloc_lt _ _ _ (by simp), World.cell?_alloc_new]
  have fG : ∀ j, w1.frozen? ⟨w.heap.size + 1, j, none⟩ = false := fun j => by rw [hw1]; simp [go_sem]
  have fA : ∀ j, w1.frozen? ⟨w.heap.size, j, none⟩ = false := fun j => by rw [hw1]; simp [go_sem]
  have lo := h.lo
  have sz := h.bl.size
  have g1 : Got16 w0 w1 rb (w.heap.size + 1) w1 0 [] 0 (.slice none 0 0) [] p := ⟨h.below B1, cG 0, cG 1, cG 2, cG 3, fG, OwnZ.nil _ _ _, TurnL.refl _ _, by omega, by omega, by omega, by omega⟩
  have TF : Hid (∀ wr, TurnL [rb, w.heap.size + 1] w1 wr → Turn rb w wr) := fun wr t => ⟨t.os.trans B1.os, t.tape.trans B1.tape, t.output.trans B1.output, Nat.le_trans B1.size t.size, fun k hk hn => (t.block k (by omega) (by simp; omega)).trans (B1.block k hk)⟩
  have AF : Hid (∀ wr, TurnL [rb, w.heap.size + 1] w1 wr → ∀ j, wr.cell? ⟨w.heap.size, j, none⟩ = #[Value.int .i64 0, .string ⟨#[]⟩, .int .i64 0, .slice none 0 0][j]? ∧ wr.frozen? ⟨w.heap.size, j, none⟩ = false) := fun wr t j => ⟨(t.cell (p := ⟨w.heap.size, j, none⟩) (by show w.heap.size < _; omega) (by simp; omega)).trans (cA j), (t.frozen (p := ⟨w.heap.size, j, none⟩) (by show w.heap.size < _; omega) (by simp; omega)).trans (fA j)⟩
  clear cG cA fG fA h
  go_enter Tryz.func167, Tryz.ntmps167
  go_wp2_with fail
  rw [← hw1]
  clear hw1
  by_cases l1 : 1 ≤ p.length
  rotate_left
  · refine (rnum16_no g1.rd (k := 1) (by omega) rfl).mono ?_
    rintro _ _ ⟨rfl, rfl⟩
    exact ⟨rfl, Reads16.no (no_ln fun q => by have := q.1; omega) (TF.out _ g1.tn)⟩
  refine (rnum16_yes g1.rd (k := 1) (by omega) l1 rfl rfl).mono ?_
  rintro _ w2 ⟨rfl, r2, o2⟩
  rw [nuL1 l1]
  have g2 := g1.took o2 r2
  clear g1 o2 r2
  have k0 := g2.c0
  have f0 := g2.fz 0
  obtain ⟨K0, hK0⟩ : ∃ K0 : Int, Hid (K0 = (((co p 0).toNat : Nat) : Int)) := ⟨_, rfl⟩
  rw [← hK0.out]
  have g3 := g2.put (j := 0) (u := .int .i64 K0) (k' := K0) (y' := []) (n' := 0) (by omega) rfl rfl rfl
  clear g2
  go_wp2_with fail
  clear k0 f0
  by_cases l2 : 2 ≤ p.length
  rotate_left
  · refine (rnum16_no g3.rd (k := 1) (by rw [List.length_drop]; omega) rfl).mono ?_
    rintro _ _ ⟨rfl, rfl⟩
    exact ⟨rfl, Reads16.no (no_ln fun q => by have := q.1; omega) (TF.out _ g3.tn)⟩
  refine (rnum16_yes g3.rd (k := 1) (by omega) (by rw [List.length_drop]; omega) rfl rfl).mono ?_
  rintro _ w4 ⟨rfl, r4, o4⟩
  rw [nuL1 (by rw [List.length_drop]; omega)]
  have g4 := g3.took o4 r4
  clear g3 o4 r4
  rw [List.drop_drop] at g4
  obtain ⟨N, hN⟩ : ∃ N : Nat, Hid (N = (co p 1).toNat) := ⟨_, rfl⟩
  have eN : (co (p.drop 1) 0).toNat = N := by rw [co_drop, hN.out]
  rw [eN]
  clear eN
  obtain ⟨q2, hq2⟩ : ∃ q2, Hid (q2 = p.drop 2) := ⟨_, rfl⟩
  have e2 : q2.length = p.length - 2 := by rw [hq2.out, List.length_drop]
  rw [show p.drop (1 + 1) = q2 from hq2.out.symm] at g4
  go_wp2_with fail
  by_cases l3 : N ≤ q2.length
  rotate_left
  · refine (take16_no g4.rd (n := N) (by omega) rfl).mono ?_
    rintro _ _ ⟨rfl, rfl⟩
    exact ⟨rfl, Reads16.no (no_ln fun q => by have := q.2; rw [← hN.out] at this; omega) (TF.out _ g4.tn)⟩
  refine (take16_yes g4.rd (n := N) l3 rfl).mono ?_
  rintro _ w5 ⟨u5, rfl, R5, r5, o5⟩
  have g5 := g4.took o5 r5
  clear g4 o5 r5
  obtain ⟨y, hy⟩ : ∃ y, Hid (y = q2.take N) := ⟨_, rfl⟩
  have ly : y.length ≤ 100000 := by rw [hy.out, List.length_take]; omega
  obtain ⟨q3, hq3⟩ : ∃ q3, Hid (q3 = q2.drop N) := ⟨_, rfl⟩
  have e3 : q3.length = q2.length - N := by rw [hq3.out, List.length_drop]
  rw [← hq3.out] at g5
  rw [← hy.out] at R5
  have CV := conv_str16 (R5.below g5.rd.bl)
  obtain ⟨a5, c5, ev⟩ := R5.form
  subst ev
  have k1 := g5.c1
  have f1 := g5.fz 1
  have g6 := g5.put (j := 1) (u := .string ⟨y.toArray⟩) (k' := K0) (y' := y) (n' := 0) (by omega) rfl rfl rfl
  clear g5 R5
  go_wp2_with fail
  clear k1 f1 CV
  by_cases l4 : 4 ≤ q3.length
  rotate_left
  · refine (rnum16_no g6.rd (k := 4) (by omega) rfl).mono ?_
    rintro _ _ ⟨rfl, rfl⟩
    exact ⟨rfl, Reads16.no (no_ln fun q => by have := q.2; rw [← hN.out] at this; omega) (TF.out _ g6.tn)⟩
  refine (rnum16_yes g6.rd (k := 4) (by omega) l4 rfl rfl).mono ?_
  rintro _ w7 ⟨rfl, r7, o7⟩
  rw [nuL4 l4]
  have g7 := g6.took o7 r7
  clear g6 o7 r7
  obtain ⟨L0, hL0⟩ : ∃ L0 : Int, Hid (L0 = ((nu q3 : Nat) : Int)) := ⟨_, rfl⟩
  rw [← hL0.out]
  obtain ⟨q4, hq4⟩ : ∃ q4, Hid (q4 = q3.drop 4) := ⟨_, rfl⟩
  have e4 : q4.length = q3.length - 4 := by rw [hq4.out, List.length_drop]
  rw [← hq4.out] at g7
  have k2 := g7.c2
  have f2 := g7.fz 2
  have g8 := g7.put (j := 2) (u := .int .i64 L0) (k' := K0) (y' := y) (n' := L0) (by omega) rfl rfl rfl
  clear g7
  go_wp2_with fail
  clear k2 f2
  by_cases l5 : 2 ≤ q4.length
  rotate_left
  · refine (rnum16_no g8.rd (k := 2) (by omega) rfl).mono ?_
    rintro _ _ ⟨rfl, rfl⟩
    exact ⟨rfl, Reads16.no (no_ln fun q => by have := q.2; rw [← hN.out] at this; omega) (TF.out _ g8.tn)⟩
  refine (rnum16_yes g8.rd (k := 2) (by omega) l5 rfl rfl).mono ?_
  rintro _ w9 ⟨rfl, r9, o9⟩
  rw [nuL2 l5]
  have g9 := g8.took o9 r9
  clear g8 o9 r9
  obtain ⟨C, hC⟩ : ∃ C : Nat, Hid (C = un q4) := ⟨_, rfl⟩
  have C0 : C < 65536 := by rw [hC.out]; exact un_lt _
  rw [← hC.out]
  obtain ⟨q5, hq5⟩ : ∃ q5, Hid (q5 = q4.drop 2) := ⟨_, rfl⟩
  have e5 : q5.length = q4.length - 2 := by rw [hq5.out, List.length_drop]
  rw [← hq5.out] at g9
  have EL : Hid (LnR p ↔ 2 * C ≤ q5.length) := by
    show LnR p ↔ _
    unfold LnR
    rw [← hN.out, ← hq2.out, ← hq3.out, ← hq4.out, ← hC.out]
    omega
  have ER : Hid (raR p = ⟨K0, y, L0, stN C q5⟩ ∧ reR p = q5.drop (2 * C)) := by
    refine ⟨?_, ?_⟩
    · rw [hK0.out, hy.out, hL0.out, hC.out, hq5.out, hq4.out, hq3.out, hq2.out, hN.out]; rfl
    · unfold reR
      rw [← hN.out, ← hq2.out, ← hq3.out, ← hq4.out, ← hC.out, hq5.out, hq4.out, hq3.out, hq2.out, List.drop_drop, List.drop_drop, List.drop_drop, List.drop_drop]
      congr 1
      omega
  have WK : Hid (((Lit.int .i64 K0).wf = true) ∧ ((Lit.int .i64 L0).wf = true)) := by
    refine ⟨?_, ?_⟩
    · rw [hK0.out]; have := (co p 0).toNat_lt; exact wf64 (by omega) (by omega)
    · rw [hL0.out]; have := nu_lt q3; exact wf64 (by omega) (by omega)
  clear hK0 hN hq2 hy hq3 hL0 hq4 hC hq5 l1 l2 l3 l4 l5
  have L5 : Hid (q5.length ≤ 100000) := by show _ ≤ _; omega
  have S1 : Hid (w1.heap.size = w.heap.size + 2) := s1
  clear e2 e3 e4 e5 s1
  go_wp2
  go_loopw [18] (fun i wr => ∃ (r : Nat) (v : Value), r ≤ C ∧ i = .int .i64 (r : Int) ∧ Got16 w0 w1 rb (w.heap.size + 1) wr K0 y L0 v (stN r q5) (q5.drop (2 * r)) ∧ Hid (2 * r ≤ q5.length)) (fun i _ => C - (intOf i).toNat)
  case atStart => exact ⟨0, _, Nat.zero_le _, rfl, g9, Nat.zero_le _⟩
  case round =>
    clear g9
    obtain ⟨r, v, hr, rfl, g, hlen⟩ := hrel
    by_cases hlt : r < C
    · have hlt' : (r : Int) < (C : Int) := by omega
      obtain ⟨va, vc, ev⟩ := owns_form g.own
      subst ev
      have el : (q5.drop (2 * r)).length = q5.length - 2 * r := List.length_drop
      have ls : (stN r q5).length = r := stN_length _ _
      have gd := g.drew
      have k3 : wr.drew.cell? ⟨w.heap.size + 1, 3, none⟩ = some (.slice va (stN r q5).length vc) := gd.c3
      by_cases l2 : 2 ≤ (q5.drop (2 * r)).length
      rotate_left
      · have FIN : Hid (Reads16 w0 rb w p (.panicked pz16) wr.drew) := Reads16.no (no_ln fun q => by have := EL.out.1 q; omega) (TF.out _ gd.tn)
        have KN := rnum16_no gd.rd (k := 2) (by omega) rfl
        rw [ls] at k3
        clear g gd ls el
        go_wp2_with fail
        refine wp_region_held_drew (S := fun _ => True) (by kernel_rfl) trivial (fun hHeld => ?_)
        refine tkH 0 ?_
        refine tkH 2 ?_
        refine rmH 1 3 (fun K hK => ?_) fun K hK => ?_
        · go_simp
          refine koH hK trivial fun hHeld => ?_
          clear hK K
          refine rnH 3 fun K hK => ?_
          go_simp
          refine KN.mono ?_
          rintro _ _ ⟨rfl, rfl⟩
          exact ⟨rfl, FIN.out⟩
        · go_simp
          refine KN.mono ?_
          rintro _ _ ⟨rfl, rfl⟩
          exact ⟨rfl, FIN.out⟩
      · have KY := rnum16_yes gd.rd (k := 2) (by omega) l2 rfl rfl
        rw [nuL2 l2, List.drop_drop, show 2 * r + 2 = 2 * (r + 1) by omega] at KY
        have EZ : Hid (stN (r + 1) q5 = stN r q5 ++ [((un (q5.drop (2 * r)) : Nat) : Int)]) := stN_succ r q5
        have HL : Hid (2 * (r + 1) ≤ q5.length) := by show _ ≤ _; omega
        have GY : Hid (∀ w3, RdrAt w0 rb w3 (q5.drop (2 * (r + 1))) → Only rb wr.drew w3 → Got16 w0 w1 rb (w.heap.size + 1) w3 K0 y L0 (.slice va (stN r q5).length vc) (stN r q5) (q5.drop (2 * (r + 1)))) := fun w3 r3 o3 => gd.took o3 r3
        generalize ((un (q5.drop (2 * r)) : Nat) : Int) = z at KY EZ
        clear g gd el l2 hlen
        rw [ls] at k3 GY
        go_wp2_with fail
        refine wp_region_held_drew (S := fun _ => True) (by kernel_rfl) trivial (fun hHeld => ?_)
        refine tkH 0 ?_
        refine tkH 2 ?_
        refine rmH 1 3 (fun K hK => ?_) fun K hK => ?_
        · go_simp
          refine koH hK trivial fun hHeld => ?_
          clear hK K
          refine rnH 3 fun K hK => ?_
          go_simp
          refine KY.mono ?_
          rintro _ w3 ⟨rfl, r3, o3⟩
          have g3 := GY.out w3 r3 o3
          clear r3 o3
          refine koH hK trivial fun hHeld => ?_
          clear hK K
          refine rnH 4 fun K hK => ?_
          go_simp
          refine koH hK trivial fun hHeld => ?_
          clear hK K
          exact rec_tail
        · go_simp
          refine KY.mono ?_
          rintro _ w3 ⟨rfl, r3, o3⟩
          have g3 := GY.out w3 r3 o3
          clear r3 o3
          have z3 := g3.c3
          have z4 : ∀ o, (w3.alloc o).cell? ⟨w.heap.size + 1, 3, none⟩ = some (.slice va r vc) := fun o => (World.cell?_alloc_past _ _ _ (World.block_lt_of_cell? _ _ z3)).trans z3
          refine koH hK trivial fun hHeld => ?_
          clear hK K
          refine rmH 1 4 (fun K hK => ?_) fun K hK => ?_
          · go_simp
            refine koH hK trivial fun hHeld => ?_
            clear hK K
            refine rnH 4 fun K hK => ?_
            go_simp
            refine koH hK trivial fun hHeld => ?_
            clear hK K
            exact rec_tail
          · go_simp
            refine koH hK trivial fun hHeld => ?_
            clear hK K
            refine rnH 1 fun K hK => ?_
            go_simp
            refine koH hK trivial fun hHeld => ?_
            clear hK K
            exact rec_tail
    · obtain rfl : r = C := by omega
      have hge : ¬ (r : Int) < (r : Int) := by omega
      obtain ⟨va, vc, ev⟩ := owns_form g.own
      subst ev
      have ls : (stN r q5).length = r := stN_length _ _
      obtain ⟨k0, k1, k2, k3⟩ := And.intro g.c0 (And.intro g.c1 (And.intro g.c2 g.c3))
      have IN : RcV.In wr ⟨⟨K0, y, L0, stN r q5⟩, .slice va (stN r q5).length vc⟩ := ⟨WK.out.1, WK.out.2, by show y.length ≤ _; unfold maxLen; omega, g.own.rd (by rw [ls]; omega), stN_wf _ _⟩
      have LG : w.heap.size + 1 < wr.heap.size := Nat.lt_of_lt_of_le g.lg.2.1 g.tn.size
      have KC := chk16_any IN rfl
      have FR : Hid (∀ k, (Value.slice va (stN r q5).length vc).ownBlock = some k → w.heap.size ≤ k ∧ k < wr.heap.size) := fun k hk => by
        have := World.ownsRow.lt g.own k hk
        have := S1.out
        omega
      have HL : Hid (LnR p) := EL.out.2 hlen.out
      rw [ls] at k3 KC FR IN
      go_wp2_with fail
      refine KC.mono ?_
      rintro _ w6 ⟨rfl, B6⟩
      clear KC
      obtain ⟨j0, j1, j2, j3⟩ : (w6.cell? ⟨w.heap.size + 1, 0, none⟩ = some (.int .i64 K0)) ∧ (w6.cell? ⟨w.heap.size + 1, 1, none⟩ = some (.string ⟨y.toArray⟩)) ∧ (w6.cell? ⟨w.heap.size + 1, 2, none⟩ = some (.int .i64 L0)) ∧ w6.cell? ⟨w.heap.size + 1, 3, none⟩ = some (.slice va r vc) := ⟨(B6.cell (p := ⟨w.heap.size + 1, 0, none⟩) LG).trans k0, (B6.cell (p := ⟨w.heap.size + 1, 1, none⟩) LG).trans k1, (B6.cell (p := ⟨w.heap.size + 1, 2, none⟩) LG).trans k2, (B6.cell (p := ⟨w.heap.size + 1, 3, none⟩) LG).trans k3⟩
      have LA : w.heap.size < wr.heap.size := by omega
      have AF6 : ∀ j, w6.cell? ⟨w.heap.size, j, none⟩ = #[Value.int .i64 0, .string ⟨#[]⟩, .int .i64 0, .slice none 0 0][j]? ∧ w6.frozen? ⟨w.heap.size, j, none⟩ = false := fun j => ⟨(B6.cell (p := ⟨w.heap.size, j, none⟩) LA).trans (AF.out wr g.tn j).1, (B6.frozen (p := ⟨w.heap.size, j, none⟩) LA).trans (AF.out wr g.tn j).2⟩
      have T6 : Hid (Turn rb w w6) := (TF.out wr g.tn).trans (Below.turn B6 rb)
      by_cases hok : OkR ⟨K0, y, L0, stN r q5⟩
      rotate_left
      · rw [show chR ⟨K0, y, L0, stN r q5⟩ = 1 from if_neg hok]
        have FIN : Hid (Reads16 w0 rb w p (.panicked pz16) w6) := Reads16.no (fun q => hok (by rw [← ER.out.1]; exact q.2)) T6.out
        clear AF6 j0 j1 j2 j3 k0 k1 k2 k3
        go_wp2_with fail
        refine (ask16_no rfl).mono ?_
        rintro _ _ ⟨rfl, rfl⟩
        exact ⟨rfl, FIN.out⟩
      · rw [show chR ⟨K0, y, L0, stN r q5⟩ = 0 from if_pos hok]
        have HN : Hid (NxR p) := ⟨HL.out, by rw [ER.out.1]; exact hok⟩
        obtain ⟨m0, f0⟩ := AF6 0
        obtain ⟨m1, f1⟩ := AF6 1
        obtain ⟨m2, f2⟩ := AF6 2
        obtain ⟨m3, f3⟩ := AF6 3
        simp at m0 m1 m2 m3
        have R6 := g.rd.below B6
        have O6 : OwnZ w6 w1.heap.size 3 (.slice va (stN r q5).length vc) (stN r q5) := owns_later g.own B6
        have HS6 : Hid (wr.heap.size ≤ w6.heap.size) := B6.size
        clear AF6 k0 k1 k2 k3 hok g IN
        go_wp2_with fail
        refine (ask16_yes rfl).mono ?_
        rintro _ w7 ⟨rfl, rfl⟩
        obtain ⟨W, hW⟩ : ∃ W, W = (((w7.setCell ⟨w.heap.size, 0, none⟩ (.int .i64 K0)).setCell ⟨w.heap.size, 1, none⟩ (.string ⟨y.toArray⟩)).setCell ⟨w.heap.size, 2, none⟩ (.int .i64 L0)).setCell ⟨w.heap.size, 3, none⟩ (.slice va r vc) := ⟨_, rfl⟩
        obtain ⟨OA, n0, n1, n2, n3⟩ := set4 (a := .int .i64 K0) (b := .string ⟨y.toArray⟩) (c := .int .i64 L0) (d := .slice va r vc) m0 m1 m2 m3
        rw [← hW] at OA n0 n1 n2 n3
        have O7 := O6.only OA (by have := S1.out; omega)
        have FIN : Hid (Reads16 w0 rb w p (.returned (.agg #[.int .i64 K0, .string ⟨y.toArray⟩, .int .i64 L0, .slice va r vc])) W) := by
          refine Or.inl ⟨HN.out, ⟨⟨K0, y, L0, stN r q5⟩, .slice va r vc⟩, rfl, ER.out.1.symm, ⟨WK.out.1, WK.out.2, by show y.length ≤ _; unfold maxLen; omega, ?_, stN_wf _ _⟩, ?_, ?_, ?_⟩
          · rw [ls] at O7; exact O7.rd (by rw [ls]; omega)
          · intro k hk
            have a1 := FR.out k hk
            have a2 := HS6.out
            rw [OA.size]
            omega
          · rw [ER.out.2]; exact R6.only OA sz (by omega)
          · exact ⟨OA.os.trans T6.out.os, OA.tape.trans T6.out.tape, OA.output.trans T6.out.output, by rw [OA.size]; exact T6.out.size, fun k hk hn => (OA.block k (by omega)).trans (T6.out.block k hk hn)⟩
        clear R6 O6 O7 OA ER EL
        go_wp2
        rw [← hW]
        clear hW
        exact bodyPost_ret (v := .agg #[.int .i64 K0, .string ⟨y.toArray⟩, .int .i64 L0, .slice va r vc]) (by simp [results, Tryz.results167, go_sem, n0, n1, n2, n3]) rfl FIN.out
end Go.Proofs.YtclieefpnbdbjaaGreat.Gf
