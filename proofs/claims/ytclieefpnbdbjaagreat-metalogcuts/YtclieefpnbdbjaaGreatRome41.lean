/- TEXTS JOINED: MeCT. -/
import Derived.Test.YtclieefpnbdbjaaGreatRome40
import Derived.Test.YtclieefpnbdbjaaGreatRome22
namespace Go.Proofs.YtclieefpnbdbjaaGreat.Gf
set_option linter.unusedVariables false
set_option linter.unusedSimpArgs false
open Go.RowKit
/-- a row of pages, the first k of which are laid -/
def pgR (A : Nat → Int) (V : Nat → Value) (k : Nat) (j : Nat) : Value := if j / 2 < k then (if j % 2 = 0 then .int .i64 (A (j / 2)) else V (j / 2)) else (if j % 2 = 0 then .int .i64 0 else .slice none 0 0)
theorem info_page : (Tryz.prog.info? 146).map (fun i => (i.zero, i.size, i.bytes)) = some (some (.agg #[.int .i64 0, .slice none 0 0]), 2, 32) := by kernel_rfl
theorem run_make_pages (n : Nat) (hn : n ≤ 32) (w : World) : (Instr.makeSlice 143 (.int .i64 (n : Int)) (.int .i64 (n : Int))).run Tryz.prog w = .ok (.slice (some ⟨w.heap.size, 0, none⟩) n n) (w.alloc (.cells (madeCells #[.int .i64 0, .slice none 0 0] (n * 2)) 146)) := by
  obtain ⟨i, hi, hzz⟩ := Option.map_eq_some_iff.1 info_page
  simp only [Prod.mk.injEq] at hzz
  obtain ⟨hz, hs, hb⟩ := hzz
  have hr := run_make (P := Tryz.prog) w 143 146 i _ Tryz.underlying143 hi hz .i64 .i64 n n (by omega) (Int.le_refl _) (by rw [hb]; omega) (by omega)
  simp only [Int.toNat_natCast, hs] at hr
  exact hr
theorem made_pages (w : World) (n : Nat) (t : TypeId) (A : Nat → Int) (V : Nat → Value) : (w.alloc (.cells (madeCells #[.int .i64 0, .slice none 0 0] (n * 2)) t)).rowIs w.heap.size t (n * 2) (pgR A V 0) := by
  have hs : (madeCells #[Value.int .i64 0, .slice none 0 0] (n * 2)).size = n * 2 := size_madeCells _ _
  have h := World.rowIs_alloc w (madeCells #[.int .i64 0, .slice none 0 0] (n * 2)) t (pgR A V 0) (fun i hi => by
    rw [hs] at hi
    unfold pgR
    rcases Nat.mod_two_eq_zero_or_one i with e | e <;> simp [madeCells, hi, e])
  rw [hs] at h
  exact h
theorem pg_step {w : World} {g t n r : Nat} {A : Nat → Int} {V : Nat → Value} (h : w.rowIs g t (n * 2) (pgR A V r)) (hr : r < n) : ((w.setCell ⟨g, r * 2, none⟩ (.int .i64 (A r))).setCell ⟨g, r * 2 + 1, none⟩ (V r)).rowIs g t (n * 2) (pgR A V (r + 1)) := by
  refine World.rowIs.congr ((World.rowIs.set h (r * 2) (.int .i64 (A r))).set (r * 2 + 1) (V r)) fun j hj => ?_
  unfold pgR
  by_cases e1 : j = r * 2 + 1
  · subst e1
    rw [if_pos rfl, if_pos (by omega), if_neg (by omega), show (r * 2 + 1) / 2 = r by omega]
  · rw [if_neg e1]
    by_cases e0 : j = r * 2
    · subst e0
      rw [if_pos rfl, if_pos (by omega), if_pos (by omega), show r * 2 / 2 = r by omega]
    · rw [if_neg e0]
      by_cases e : j / 2 < r
      · have e2 : j / 2 < r + 1 := by omega
        simp only [if_pos e, if_pos e2]
      · have e2 : ¬ j / 2 < r + 1 := by omega
        simp only [if_neg e, if_neg e2]
theorem sv_first {g : GeoS} {ar ep X3 : Int} {L : List ObS} {bv : Bool} (h1 : bv = true ↔ ((0 ≤ ar ∧ ar < 2) ∧ 0 ≤ ep ∧ ep ≤ mo18)) (h3 : (MayL L ∧ X3 = 0) ∨ (¬ MayL L ∧ X3 = 1)) : fiE [chG g, if bv = true then 0 else 1, X3] = svP g ar ep L := by
  unfold svP chG
  by_cases q : okG g
  · have n1 : ¬ ¬ okG g := fun k => k q
    rw [if_pos q, if_neg n1]
    by_cases q2 : (0 ≤ ar ∧ ar < 2) ∧ 0 ≤ ep ∧ ep ≤ mo18
    · rw [if_pos (h1.2 q2)]
      rcases h3 with ⟨m, rfl⟩ | ⟨m, rfl⟩
      · rw [if_pos (@decide_eq_true _ (Classical.propDecidable _) ⟨q2.1.1, by omega, q2.2.1, q2.2.2, m⟩)]; rfl
      · rw [if_neg (fun k => m (@of_decide_eq_true _ (Classical.propDecidable _) k).2.2.2.2)]; rfl
    · rw [if_neg (fun k => q2 (h1.1 k)), if_neg (fun k => by
        have := @of_decide_eq_true _ (Classical.propDecidable _) k
        exact q2 ⟨⟨this.1, by have := this.2.1; omega⟩, this.2.2.1, this.2.2.2.1⟩)]
      rfl
  · rw [if_neg q, if_pos q]; rfl
theorem la_sv {a : ArS} {g : GeoS} {ar ep : Int} {L : List ObS} (hP : svP g ar ep L = 0) : laX a ep [(arG g ar 0, (snB L).take 4096), (arG g ar 1, (snB L).drop 4096)] = svX a g ar ep L ∧ laT a ep [(arG g ar 0, (snB L).take 4096), (arG g ar 1, (snB L).drop 4096)] = svS a g ar ep L := by
  have nn : ¬ ¬ svP g ar ep L = 0 := fun k => k hP
  have e1 : laV a ep [(arG g ar 0, (snB L).take 4096), (arG g ar 1, (snB L).drop 4096)] 1 = ⟨(svA a g ar ep L).cr, true && decide (0 < (svA a g ar ep L).n), (svA a g ar ep L).st⟩ := la_go rfl
  unfold laX laT svX svS
  rw [show ([(arG g ar 0, (snB L).take 4096), (arG g ar 1, (snB L).drop 4096)] : List (Int × List UInt8)).length = 2 from rfl, if_neg nn, if_neg nn]
  by_cases c1 : (svA a g ar ep L).cr = true
  · have e2 : laV a ep [(arG g ar 0, (snB L).take 4096), (arG g ar 1, (snB L).drop 4096)] 2 = ⟨(svA a g ar ep L).cr, true && decide (0 < (svA a g ar ep L).n), (svA a g ar ep L).st⟩ := by
      have := la_stay (a := a) (ep := ep) (L := [(arG g ar 0, (snB L).take 4096), (arG g ar 1, (snB L).drop 4096)]) (r := 1) (by rw [e1]; exact c1) 1
      rw [e1] at this
      exact this
    rw [e2]
    simp only [c1, if_true]
    exact ⟨trivial, trivial⟩
  · have c1' : (svA a g ar ep L).cr = false := by simpa using c1
    have e2 : laV a ep [(arG g ar 0, (snB L).take 4096), (arG g ar 1, (snB L).drop 4096)] 2 = ⟨(svB a g ar ep L).cr, (true && decide (0 < (svA a g ar ep L).n)) && decide (0 < (svB a g ar ep L).n), (svB a g ar ep L).st⟩ := by
      have := la_go (a := a) (ep := ep) (L := [(arG g ar 0, (snB L).take 4096), (arG g ar 1, (snB L).drop 4096)]) (r := 1) (by rw [e1]; exact c1')
      rw [e1] at this
      exact this
    rw [e2, if_neg c1, if_neg c1]
    by_cases c2 : (svB a g ar ep L).cr = true
    · simp only [c2, if_true]
      exact ⟨trivial, trivial⟩
    · simp only [if_neg c2]
      refine ⟨?_, trivial⟩
      rw [fi_two]
      by_cases q : (svA a g ar ep L).n = 0 ∨ (svB a g ar ep L).n = 0
      · rw [if_pos q, show ((true && decide (0 < (svA a g ar ep L).n)) && decide (0 < (svB a g ar ep L).n)) = false by rcases q with q | q <;> rw [q] <;> simp]
        rfl
      · rw [if_neg q, show ((true && decide (0 < (svA a g ar ep L).n)) && decide (0 < (svB a g ar ep L).n)) = true by simp; omega]
        rfl
theorem sve_no {p : Prop} (h : p := by
  refine tkH 0 ?_
  refine tkH 1 ?_
  refine tkH 3 ?_
  refine tkH 4 ?_
  refine tkH 5 ?_
  refine tkH 17 ?_
  refine rnH 2 (fun K hK => ?_)
  go_simp
  go_at_call 62
  refine (KA _ (by assumption)).mono ?_
  rintro _ vv ⟨rfl, hB⟩
  dsimp only
  refine koH hK (LB.out _ (by assumption)).1 fun hHeld => ?_
  clear hK K
  refine tkH 6 ?_
  refine skH 7 ?_
  refine skH 8 ?_
  refine skH 9 ?_
  refine tkH 10 ?_
  refine tkH 11 ?_
  refine skH 12 ?_
  refine skH 13 ?_
  refine skH 14 ?_
  refine tkH 15 ?_
  refine rnH 16 (fun K hK => ?_)
  go_simp
  go_at_call 66
  refine (KU _ (by assumption)).mono ?_
  rintro _ vv ⟨rfl, hB⟩
  dsimp only
  refine koH hK (LB.out _ (by assumption)).1 fun hHeld => ?_
  clear hK K
  refine rnH 18 (fun K hK => ?_)
  go_simp
  refine koH hK (LB.out _ (LL.out _ _ _ (by assumption))).1 fun hHeld => ?_
  clear hK K
  refine rnH 19 (fun K hK => ?_)
  go_simp
  go_at_call 67
  refine (KF _ (by assumption)).mono ?_
  rintro _ vv ⟨rfl, hB⟩
  dsimp only
  refine koH hK (LB.out _ (by assumption)).1 fun hHeld => ?_
  clear hK K
  refine tkH 20 ?_
  refine wpAnyH_done (by kernel_rfl) ?_ _
  go_wp2
  go_meet
  case rel => exact ⟨rfl, by assumption⟩) : p := h
theorem sve_out {p : Prop} (h : p := by
  refine tkH 0 ?_
  refine tkH 1 ?_
  refine tkH 3 ?_
  refine tkH 4 ?_
  refine tkH 5 ?_
  refine tkH 17 ?_
  refine rnH 2 (fun K hK => ?_)
  go_simp
  go_at_call 62
  refine (KA _ (by assumption)).mono ?_
  rintro _ vv ⟨rfl, hB⟩
  dsimp only
  refine koH hK (LB.out _ (by assumption)).1 fun hHeld => ?_
  clear hK K
  refine tkH 6 ?_
  refine tkH 7 ?_
  refine tkH 8 ?_
  refine tkH 9 ?_
  refine tkH 10 ?_
  refine tkH 11 ?_
  refine skH 12 ?_
  refine skH 13 ?_
  refine skH 14 ?_
  refine tkH 15 ?_
  refine rnH 16 (fun K hK => ?_)
  go_simp
  go_at_call 66
  refine (KU _ (by assumption)).mono ?_
  rintro _ vv ⟨rfl, hB⟩
  dsimp only
  refine koH hK (LB.out _ (by assumption)).1 fun hHeld => ?_
  clear hK K
  refine rnH 18 (fun K hK => ?_)
  go_simp
  refine koH hK (LB.out _ (LL.out _ _ _ (by assumption))).1 fun hHeld => ?_
  clear hK K
  refine rnH 19 (fun K hK => ?_)
  go_simp
  go_at_call 67
  refine (KF _ (by assumption)).mono ?_
  rintro _ vv ⟨rfl, hB⟩
  dsimp only
  refine koH hK (LB.out _ (by assumption)).1 fun hHeld => ?_
  clear hK K
  refine tkH 20 ?_
  refine wpAnyH_done (by kernel_rfl) ?_ _
  go_wp2
  go_meet
  case rel => exact ⟨rfl, by assumption⟩) : p := h
theorem sve_in {p : Prop} (h : p := by
  refine tkH 0 ?_
  refine tkH 1 ?_
  refine tkH 3 ?_
  refine tkH 4 ?_
  refine tkH 5 ?_
  refine tkH 17 ?_
  refine rnH 2 (fun K hK => ?_)
  go_simp
  go_at_call 62
  refine (KA _ (by assumption)).mono ?_
  rintro _ vv ⟨rfl, hB⟩
  dsimp only
  refine koH hK (LB.out _ (by assumption)).1 fun hHeld => ?_
  clear hK K
  refine tkH 6 ?_
  refine tkH 7 ?_
  refine tkH 8 ?_
  refine tkH 9 ?_
  refine tkH 10 ?_
  refine tkH 11 ?_
  refine tkH 12 ?_
  refine tkH 13 ?_
  refine rnH 14 (fun K hK => ?_)
  go_simp
  go_at_call 68
  refine (KB _ (by assumption)).mono ?_
  rintro _ vv ⟨rfl, hB⟩
  dsimp only
  refine koH hK (LB.out _ (by assumption)).1 fun hHeld => ?_
  clear hK K
  refine tkH 15 ?_
  refine rnH 16 (fun K hK => ?_)
  go_simp
  go_at_call 66
  refine (KU _ (by assumption)).mono ?_
  rintro _ vv ⟨rfl, hB⟩
  dsimp only
  refine koH hK (LB.out _ (by assumption)).1 fun hHeld => ?_
  clear hK K
  refine rnH 18 (fun K hK => ?_)
  go_simp
  refine koH hK (LB.out _ (LL.out _ _ _ (by assumption))).1 fun hHeld => ?_
  clear hK K
  refine rnH 19 (fun K hK => ?_)
  go_simp
  go_at_call 67
  refine (KF _ (by assumption)).mono ?_
  rintro _ vv ⟨rfl, hB⟩
  dsimp only
  refine koH hK (LB.out _ (by assumption)).1 fun hHeld => ?_
  clear hK K
  refine tkH 20 ?_
  refine wpAnyH_done (by kernel_rfl) ?_ _
  go_wp2
  go_meet
  case rel => exact ⟨rfl, by assumption⟩) : p := h
/-- a geometry and a checkpoint, laid as parameters -/
theorem two18s (w : World) (g : GeoS) (ar ep : Int) (vs : Value) (e f : Nat) : ∀ V, Below ((w.alloc (.cells (cellsG g) e)).alloc (.cells #[.int .i64 ar, .int .i64 ep, vs] f)).heap.size ((w.alloc (.cells (cellsG g) e)).alloc (.cells #[.int .i64 ar, .int .i64 ep, vs] f)) V →
    (GeoAt V w.heap.size g ∧ Below w.heap.size w V) ∧ V.cell? ⟨w.heap.size + 1, 0, none⟩ = some (.int .i64 ar) ∧ V.cell? ⟨w.heap.size + 1, 1, none⟩ = some (.int .i64 ep) ∧ V.cell? ⟨w.heap.size + 1, 2, none⟩ = some vs := by
  intro V hV
  obtain ⟨u, hu⟩ : ∃ u, u = w.alloc (.cells (cellsG g) e) := ⟨_, rfl⟩
  have LG := geo_laid w g e
  rw [← hu] at hV LG
  have s1 : u.heap.size = w.heap.size + 1 := by rw [hu]; simp
  have b2 : Below u.heap.size u (u.alloc (.cells #[.int .i64 ar, .int .i64 ep, vs] f)) := belR _ _
  have z : ∀ j, (u.alloc (.cells #[.int .i64 ar, .int .i64 ep, vs] f)).cell? ⟨u.heap.size, j, none⟩ = #[Value.int .i64 ar, .int .i64 ep, vs][j]? := fun j => World.cell?_alloc_new _ _ _ _
  have lt : u.heap.size < (u.alloc (.cells #[.int .i64 ar, .int .i64 ep, vs] f)).heap.size := by simp
  refine ⟨LG V (b2.step16 hV b2.size), ?_⟩
  rw [← s1]
  exact ⟨(hV.cell (p := ⟨u.heap.size, 0, none⟩) lt).trans (z 0), (hV.cell (p := ⟨u.heap.size, 1, none⟩) lt).trans (z 1), (hV.cell (p := ⟨u.heap.size, 2, none⟩) lt).trans (z 2)⟩
set_option maxRecDepth 100000 in
set_option maxHeartbeats 8000000 in
theorem msave_any {w : World} {ab : Nat} {GA : Nat → Prop} {a : ArS} (h : ArAt w ab GA a) {g : GeoS} (hg : g.Wf) {ar ep : Int} (haw : (Lit.int .i64 ar).wf = true) {vs : Value} {L : List ObV} (ho : RdO w vs L) (hs : ∀ i, i < L.length → (L.getD i default).o.st.length ≤ 1000000) :
    Calls Tryz.prog 27 #[.pointer (some ⟨ab, 0, none⟩), aggG g, .agg #[.int .i64 ar, .int .i64 ep, vs]] w (LeavesA w ab GA (svS a g ar ep (oL L)) (.int .i64 (svX a g ar ep (oL L)))) := by
  obtain ⟨va, vc, ev⟩ := ho.form
  subst ev
  have HA : Hid (ArAt w ab GA a) := h
  have lG := h.lt
  have KR0 := fun V => @mref_any V ab g hg _ rfl
  have KS0 := fun V (i : Int) (hi : (Lit.int .i64 i).wf = true) => @larea_any V g hg ar i haw hi _ rfl
  have T2 := two18s w g ar ep (.slice va L.length vc) 23 41
  obtain ⟨y, hy⟩ : ∃ y, Hid (y = chG g) := ⟨_, rfl⟩
  obtain ⟨E, hE⟩ : ∃ E, Hid (E = svP g ar ep (oL L)) := ⟨_, rfl⟩
  have FIE : Hid (∀ (bv : Bool) (X3 : Int), (bv = true ↔ ((0 ≤ ar ∧ ar < 2) ∧ 0 ≤ ep ∧ ep ≤ mo18)) → ((MayL (oL L) ∧ X3 = 0) ∨ (¬ MayL (oL L) ∧ X3 = 1)) → fiE [y, if bv = true then 0 else 1, X3] = E) := fun bv X3 q q2 => by rw [hy.out, hE.out]; exact sv_first q q2
  have EARLY : Hid (∀ V, ¬ E = 0 → Below w.heap.size w V → LeavesA w ab GA (svS a g ar ep (oL L)) (.int .i64 (svX a g ar ep (oL L))) (.returned (.int .i64 E)) V) := fun V he b => by
    rw [hE.out] at he
    unfold svX svS
    rw [if_pos he, if_pos he, hE.out]
    exact ⟨rfl, GA, HA.out.below b, Grew.of_below b⟩
  have MAY : Hid (E = 0 → (0 ≤ ar ∧ ar ≤ 1 ∧ MayL (oL L)) ∧ (OkSe (arG g ar 0) ep ((snB (oL L)).take 4096).length ∧ OkSe (arG g ar 1) ep ((snB (oL L)).drop 4096).length) ∧ laX a ep [(arG g ar 0, (snB (oL L)).take 4096), (arG g ar 1, (snB (oL L)).drop 4096)] = svX a g ar ep (oL L) ∧ laT a ep [(arG g ar 0, (snB (oL L)).take 4096), (arG g ar 1, (snB (oL L)).drop 4096)] = svS a g ar ep (oL L)) := fun he => by
    rw [hE.out] at he
    obtain ⟨m1, m2, m3, m4, m5, m6⟩ := sv_may he
    exact ⟨⟨m2, m3, m6⟩, sv_se he, la_sv he⟩
  have KSN := fun W (b : Below w.heap.size w W) => snap16_far (ho.below b) hs
  clear h ho hs hE
  rw [← hy.out] at KR0
  obtain ⟨k, m, z, s, t, o⟩ := g
  rw [aggE] at KR0 KS0 ⊢
  obtain ⟨W, hW⟩ : ∃ W, W = (w.alloc (.cells #[.int .i64 k, .int .i64 m, .int .i64 z, .int .i64 s, .int .i64 t, .int .i64 o] 23)).alloc (.cells #[.int .i64 ar, .int .i64 ep, .slice va L.length vc] 41) := ⟨_, rfl⟩
  have T3 : Hid (∀ V, Below W.heap.size W V → (GeoAt V w.heap.size ⟨k, m, z, s, t, o⟩ ∧ Below w.heap.size w V) ∧ V.cell? ⟨w.heap.size + 1, 0, none⟩ = some (.int .i64 ar) ∧ V.cell? ⟨w.heap.size + 1, 1, none⟩ = some (.int .i64 ep) ∧ V.cell? ⟨w.heap.size + 1, 2, none⟩ = some (.slice va L.length vc)) := by
    rw [hW]; exact T2
  clear T2
  obtain ⟨⟨⟨x0, x1, x2, x3, x4, x5⟩, B0⟩, y0, y1, y2⟩ := T3.out W (Below.refl _ _)
  simp only at x0 x1 x2 x3 x4 x5
  have KE := KSN W B0
  go_enter Tryz.func27, Tryz.ntmps27
  go_wp2_with fail
  rw [← hW]
  clear hW
  refine KE.mono ?_
  rintro ez w1 hsn
  obtain ⟨X3, pv, hez, hX3, B1, KEEP⟩ : ∃ (X3 : Int) (pv : Value), ez = Ending.returned (.tuple #[pv, .int .i64 X3]) ∧ ((MayL (oL L) ∧ X3 = 0) ∨ (¬ MayL (oL L) ∧ X3 = 1)) ∧ Below W.heap.size W w1 ∧ (MayL (oL L) → KeepRs W.heap.size w1 pv (snP (oL L))) ∧ ∃ pa pn pc, pv = .slice pa pn pc ∧ (MayL (oL L) → pn = 2) := by
    rcases hsn with ⟨m, u, rfl, k1, k2, k3⟩ | ⟨m, rfl, k3⟩
    · obtain ⟨pa, pc, e⟩ := k1.form
      exact ⟨0, u, rfl, Or.inl ⟨m, rfl⟩, k3, fun _ => k2, pa, _, pc, e, fun _ => rfl⟩
    · exact ⟨1, _, rfl, Or.inr ⟨m, rfl⟩, k3, fun q => absurd q m, none, 0, 0, rfl, fun q => absurd q m⟩
  obtain ⟨KEEP, pa, pn, pc, rfl, hpn⟩ := KEEP
  clear KE hsn
  subst hez
  clear x0 x1 x2 x3 x4 x5 y0 y1 y2
  have HB1 : Hid (Below W.heap.size W w1) := B1
  have LB : Hid (∀ V, Below w1.heap.size w1 V → (GeoAt V w.heap.size ⟨k, m, z, s, t, o⟩ ∧ V.cell? ⟨w.heap.size + 1, 0, none⟩ = some (.int .i64 ar) ∧ V.cell? ⟨w.heap.size + 1, 1, none⟩ = some (.int .i64 ep)) ∧ Below w.heap.size w V) := fun V b => by
    obtain ⟨⟨q1, q2⟩, q3, q4, _⟩ := T3.out V (HB1.out.step16 b HB1.out.size)
    exact ⟨⟨q1, q3, q4⟩, q2⟩
  have LL : Hid (∀ V cs e, Below w1.heap.size w1 V → Below w1.heap.size w1 (V.alloc (.cells cs e))) := fun V cs e b => b.step16 (belR _ _) b.size
  have HX3 : Hid ((MayL (oL L) ∧ X3 = 0) ∨ (¬ MayL (oL L) ∧ X3 = 1)) := hX3
  have HKEEP : Hid (MayL (oL L) → KeepRs W.heap.size w1 (.slice pa pn pc) (snP (oL L))) := KEEP
  have HPN : Hid (MayL (oL L) → pn = 2) := hpn
  have BD : Below w1.heap.size w1 w1.drew := (Below.refl _ _).drew
  have sD := (LB.out _ BD).1
  have KA : ∀ V, Below w1.heap.size w1 V → Calls Tryz.prog 62 #[.pointer (some ⟨ab, 0, none⟩), .agg #[.int .i64 k, .int .i64 m, .int .i64 z, .int .i64 s, .int .i64 t, .int .i64 o]] V fun e w' => e = .returned (.int .i64 y) ∧ Below w1.heap.size w1 w' := fun V b => (KR0 V).mono fun e w' h => ⟨h.1, b.step16 h.2 b.size⟩
  clear B1 KR0 hX3 KEEP hpn
  go_upto_region 2 with fail
  go_cut [9] from 19 to 38 (fun s9 wx => s9 = .int .i64 E ∧ Below w1.heap.size w1 wx)
  case first =>
    clear EARLY MAY KS0 HKEEP HPN
    by_cases c1 : 0 ≤ ar
    rotate_left
    · have ZE : fiE [y, 1, X3] = E := FIE.out false X3 ⟨fun q => (by cases q), fun q => absurd q.1.1 c1⟩ HX3.out
      have KU : ∀ V, Below w1.heap.size w1 V → Calls Tryz.prog 66 #[.bool false, .int .i64 1] V fun e w' => e = .returned (.int .i64 1) ∧ Below w1.heap.size w1 w' := fun V b => (munless_any false 1).mono fun e w' h => ⟨h.1, by rw [h.2]; exact b⟩
      have KF : ∀ V, Below w1.heap.size w1 V → Calls Tryz.prog 67 #[.slice (some ⟨V.heap.size, 0, none⟩) 3 3] (V.alloc (.cells #[.int .i64 y, .int .i64 1, .int .i64 X3] 28)) fun e w' => e = .returned (.int .i64 E) ∧ Below w1.heap.size w1 w' := fun V b => (mfirst3 28 ZE).mono fun e w' h => ⟨h.1, b.step16 h.2 b.size⟩
      have c1' : decide (0 ≤ ar) = false := decide_eq_false c1
      have c1'' : decide (ar ≥ 0) = false := decide_eq_false c1
      clear ZE FIE HX3
      refine wp_region_held_drew (S := fun wx => (wx.cell? ⟨w.heap.size, 0, none⟩ = some (.int .i64 k) ∧ wx.cell? ⟨w.heap.size, 1, none⟩ = some (.int .i64 m) ∧ wx.cell? ⟨w.heap.size, 2, none⟩ = some (.int .i64 z) ∧ wx.cell? ⟨w.heap.size, 3, none⟩ = some (.int .i64 s) ∧ wx.cell? ⟨w.heap.size, 4, none⟩ = some (.int .i64 t) ∧ wx.cell? ⟨w.heap.size, 5, none⟩ = some (.int .i64 o)) ∧ wx.cell? ⟨w.heap.size + 1, 0, none⟩ = some (.int .i64 ar) ∧ wx.cell? ⟨w.heap.size + 1, 1, none⟩ = some (.int .i64 ep)) (by kernel_rfl) sD (fun hHeld => ?_)
      exact sve_no
    have c1' : decide (0 ≤ ar) = true := decide_eq_true c1
    have c1'' : decide (ar ≥ 0) = true := decide_eq_true c1
    by_cases c2 : ar < 2
    rotate_left
    · have ZE : fiE [y, 1, X3] = E := FIE.out false X3 ⟨fun q => (by cases q), fun q => absurd q.1.2 c2⟩ HX3.out
      have KU : ∀ V, Below w1.heap.size w1 V → Calls Tryz.prog 66 #[.bool false, .int .i64 1] V fun e w' => e = .returned (.int .i64 1) ∧ Below w1.heap.size w1 w' := fun V b => (munless_any false 1).mono fun e w' h => ⟨h.1, by rw [h.2]; exact b⟩
      have KF : ∀ V, Below w1.heap.size w1 V → Calls Tryz.prog 67 #[.slice (some ⟨V.heap.size, 0, none⟩) 3 3] (V.alloc (.cells #[.int .i64 y, .int .i64 1, .int .i64 X3] 28)) fun e w' => e = .returned (.int .i64 E) ∧ Below w1.heap.size w1 w' := fun V b => (mfirst3 28 ZE).mono fun e w' h => ⟨h.1, b.step16 h.2 b.size⟩
      have c2' : decide (ar < 2) = false := decide_eq_false c2
      clear ZE FIE HX3
      refine wp_region_held_drew (S := fun wx => (wx.cell? ⟨w.heap.size, 0, none⟩ = some (.int .i64 k) ∧ wx.cell? ⟨w.heap.size, 1, none⟩ = some (.int .i64 m) ∧ wx.cell? ⟨w.heap.size, 2, none⟩ = some (.int .i64 z) ∧ wx.cell? ⟨w.heap.size, 3, none⟩ = some (.int .i64 s) ∧ wx.cell? ⟨w.heap.size, 4, none⟩ = some (.int .i64 t) ∧ wx.cell? ⟨w.heap.size, 5, none⟩ = some (.int .i64 o)) ∧ wx.cell? ⟨w.heap.size + 1, 0, none⟩ = some (.int .i64 ar) ∧ wx.cell? ⟨w.heap.size + 1, 1, none⟩ = some (.int .i64 ep)) (by kernel_rfl) sD (fun hHeld => ?_)
      exact sve_out
    · obtain ⟨yb, hyb⟩ : ∃ yb, Hid (decide (0 ≤ ep ∧ ep ≤ mo18) = yb) := ⟨_, rfl⟩
      have KB : ∀ V, Below w1.heap.size w1 V → Calls Tryz.prog 68 #[.int .i64 ep] V fun e w' => e = .returned (.bool yb) ∧ Below w1.heap.size w1 w' := fun V b => (misbase_any hyb.out).mono fun e w' h => ⟨h.1, by rw [h.2]; exact b⟩
      obtain ⟨u2, hu2⟩ : ∃ u2 : Int, Hid (u2 = if yb = true then 0 else 1) := ⟨_, rfl⟩
      have ZE : fiE [y, u2, X3] = E := by
        rw [hu2.out]
        refine FIE.out yb X3 ⟨fun q => ⟨⟨c1, c2⟩, ?_⟩, fun q => ?_⟩ HX3.out
        · rw [← hyb.out] at q; exact of_decide_eq_true q
        · rw [← hyb.out]; exact decide_eq_true q.2
      have KU : ∀ V, Below w1.heap.size w1 V → Calls Tryz.prog 66 #[.bool yb, .int .i64 1] V fun e w' => e = .returned (.int .i64 u2) ∧ Below w1.heap.size w1 w' := fun V b => (munless_any yb 1).mono fun e w' h => ⟨by rw [hu2.out]; exact h.1, by rw [h.2]; exact b⟩
      have KF : ∀ V, Below w1.heap.size w1 V → Calls Tryz.prog 67 #[.slice (some ⟨V.heap.size, 0, none⟩) 3 3] (V.alloc (.cells #[.int .i64 y, .int .i64 u2, .int .i64 X3] 28)) fun e w' => e = .returned (.int .i64 E) ∧ Below w1.heap.size w1 w' := fun V b => (mfirst3 28 ZE).mono fun e w' h => ⟨h.1, b.step16 h.2 b.size⟩
      have c2' : decide (ar < 2) = true := decide_eq_true c2
      clear ZE FIE HX3 hu2 hyb
      refine wp_region_held_drew (S := fun wx => (wx.cell? ⟨w.heap.size, 0, none⟩ = some (.int .i64 k) ∧ wx.cell? ⟨w.heap.size, 1, none⟩ = some (.int .i64 m) ∧ wx.cell? ⟨w.heap.size, 2, none⟩ = some (.int .i64 z) ∧ wx.cell? ⟨w.heap.size, 3, none⟩ = some (.int .i64 s) ∧ wx.cell? ⟨w.heap.size, 4, none⟩ = some (.int .i64 t) ∧ wx.cell? ⟨w.heap.size, 5, none⟩ = some (.int .i64 o)) ∧ wx.cell? ⟨w.heap.size + 1, 0, none⟩ = some (.int .i64 ar) ∧ wx.cell? ⟨w.heap.size + 1, 1, none⟩ = some (.int .i64 ep)) (by kernel_rfl) sD (fun hHeld => ?_)
      exact sve_in
  case rest =>
    obtain ⟨rfl, hB⟩ := hcut
    clear KA sD BD FIE
    by_cases q : E = 0
    rotate_left
    · have q1 : (E == 0) = false := beq_eq_false_iff_ne.2 q
      have q2 : (E != 0) = true := by simp [bne, q1]
      have F9 : Hid _ := EARLY.out _ q (LB.out _ hB).2
      clear EARLY MAY KS0 HKEEP HPN HX3
      go_wp2
      exact bodyPost_ret (v := .int .i64 E) (by simp [results, Tryz.results27, go_sem]) rfl F9.out
    · obtain ⟨⟨e1, e2, may⟩, ⟨se0, se1⟩, eX, eT⟩ := MAY.out q
      subst q
      obtain rfl : pn = 2 := HPN.out may
      have KP := (HKEEP.out may).below hB
      have hBw := hB
      obtain ⟨pb, po, v0, epa, n0, l0, c0, K0⟩ := KP.at (i := 0) (by show 0 < 2; omega)
      obtain ⟨pb', po', v1, epa', n1, l1, c1, K1⟩ := KP.at (i := 1) (by show 1 < 2; omega)
      rw [epa] at epa'
      simp at epa'
      obtain ⟨rfl, rfl⟩ := epa'
      subst epa
      obtain ⟨P0, hP0⟩ : ∃ P0, Hid (P0 = (snB (oL L)).take 4096) := ⟨_, rfl⟩
      obtain ⟨P1, hP1⟩ : ∃ P1, Hid (P1 = (snB (oL L)).drop 4096) := ⟨_, rfl⟩
      have k0 : Rk W.heap.size wc v0 P0 := by rw [hP0.out]; exact K0
      have k1 : Rk W.heap.size wc v1 P1 := by rw [hP1.out]; exact K1
      rw [← hP0.out, ← hP1.out] at eX eT
      rw [← hP0.out] at se0
      rw [← hP1.out] at se1
      obtain ⟨a0, d0, f0⟩ := k0.form
      obtain ⟨a1, d1, f1⟩ := k1.form
      obtain ⟨V, hV⟩ : ∃ V : Nat → Value, Hid (V = fun j => if j = 0 then v0 else v1) := ⟨_, rfl⟩
      obtain ⟨A, hA⟩ : ∃ A : Nat → Int, Hid (A = fun (j : Nat) => arG ⟨k, m, z, s, t, o⟩ ar (j : Int)) := ⟨_, rfl⟩
      have VF : Hid (∀ r, r < 2 → ∃ x n c, V r = .slice x n c) := fun r hr => by
        rw [hV.out]
        have : r = 0 ∨ r = 1 := by omega
        rcases this with rfl | rfl
        · exact ⟨a0, _, d0, f0⟩
        · exact ⟨a1, _, d1, f1⟩
      have CP : Hid (∀ r, r < 2 → ∀ W2, Below wc.heap.size wc W2 → W2.cell? ⟨pb, po + r, none⟩ = some (V r)) := fun r hr W2 b => by
        rw [hV.out]
        have : r = 0 ∨ r = 1 := by omega
        rcases this with rfl | rfl
        · exact (b.cell (p := ⟨pb, po + 0, none⟩) l0).trans c0
        · exact (b.cell (p := ⟨pb, po + 1, none⟩) l0).trans c1
      have KS1 : Hid (∀ r : Nat, r < 2 → ∀ W2, Calls Tryz.prog 78 #[.agg #[.int .i64 k, .int .i64 m, .int .i64 z, .int .i64 s, .int .i64 t, .int .i64 o], .int .i64 ar, .int .i64 (r : Int)] W2 fun e w' => e = .returned (.int .i64 (A r)) ∧ Below W2.heap.size W2 w') := fun r hr W2 => by
        rw [hA.out]
        exact KS0 W2 (r : Int) (WalkArith.wf_i64 (by omega))
      have mk2 : (Instr.makeSlice 143 (.int .i64 2) (.int .i64 2)).run Tryz.prog wc = _ := run_make_pages 2 (by omega) wc
      obtain ⟨u, hu⟩ : ∃ u, u = wc.alloc (.cells (madeCells #[.int .i64 0, .slice none 0 0] (2 * 2)) 146) := ⟨_, rfl⟩
      have hub : Below wc.heap.size wc u := by rw [hu]; exact belR _ _
      have hur : u.rowIs wc.heap.size 146 (2 * 2) (pgR A V 0) := by rw [hu]; exact made_pages wc 2 146 A V
      obtain ⟨pg, hpg⟩ : ∃ pg, Hid (pg = wc.heap.size) := ⟨_, rfl⟩
      rw [← hu, ← hpg.out] at mk2
      rw [← hpg.out] at hur
      have HK0 : Hid (Rk W.heap.size wc v0 P0) := k0
      have HK1 : Hid (Rk W.heap.size wc v1 P1) := k1
      have HBW : Hid (Below w1.heap.size w1 wc) := hBw
      have START : Hid (u.rowIs pg 146 (2 * 2) (pgR A V 0) ∧ Below wc.heap.size wc u) := ⟨hur, hub⟩
      clear KS0 HKEEP HPN HX3 EARLY MAY KP K0 K1 k0 k1 c0 c1 hu hub hur f0 f1 hB hBw
      go_wp2_with fail
      go_loopw [47] (fun i wr => ∃ r : Nat, r ≤ 2 ∧ i = .int .i64 (r : Int) ∧ wr.rowIs pg 146 (2 * 2) (pgR A V r) ∧ Hid (Below wc.heap.size wc wr)) (fun i _ => 2 - (intOf i).toNat)
      case atStart => exact ⟨0, Nat.zero_le _, rfl, START.out.1, START.out.2⟩
      case round =>
        clear START mk2
        obtain ⟨r, hr, rfl, hR, hB⟩ := hrel
        have BB := HBW.out.step16 hB.out HBW.out.size
        obtain ⟨⟨⟨x0, x1, x2, x3, x4, x5⟩, y0, y1⟩, B02⟩ := LB.out wr BB
        simp only at x0 x1 x2 x3 x4 x5
        by_cases hlt : r < 2
        · have hlt' : (r : Int) < 2 := by omega
          have cV := CP.out r hlt wr hB.out
          obtain ⟨xa, xn, xc, eV⟩ := VF.out r hlt
          have KS := KS1.out r hlt wr
          have ST := fun (X : World) (h : X.rowIs pg 146 (2 * 2) (pgR A V r)) => pg_step h hlt
          obtain ⟨Ar, hAr⟩ : ∃ Ar, A r = Ar := ⟨_, rfl⟩
          rw [hAr] at KS
          simp only [hAr, eV] at ST
          rw [eV] at cV
          have HST : Hid _ := ST
          clear ST eV hAr
          go_wp2_with fail
          refine KS.mono ?_
          rintro _ w2 ⟨rfl, B2⟩
          have hR2 := hR.of_block (B2.block pg hR.lt)
          have q0 := hR2.cell (i := r * 2) (by omega)
          have q1 := hR2.cell (i := r * 2 + 1) (by omega)
          have g0 := hR2.frozen (r * 2)
          have g1 := hR2.frozen (r * 2 + 1)
          have R3 : Hid _ := HST.out w2 hR2
          have B3 : Hid (Below wc.heap.size wc ((w2.setCell ⟨pg, r * 2, none⟩ (.int .i64 Ar)).setCell ⟨pg, r * 2 + 1, none⟩ (.slice xa xn xc))) := ((hB.out.step16 B2 hB.out.size).setCell (by rw [hpg.out]; exact Nat.le_refl _) _).setCell (by rw [hpg.out]; exact Nat.le_refl _) _
          clear KS hR hR2 B2 hB BB B02 x0 x1 x2 x3 x4 x5 y0 y1 HST
          go_wp2
          go_roundw
          case rel => exact ⟨r + 1, by omega, by go_num, R3.out, B3⟩
          case measure => simp [intOf]; omega
        · obtain rfl : r = 2 := by omega
          have wcs : Hid (w.heap.size ≤ W.heap.size) := (T3.out W (Below.refl _ _)).1.2.size
          have pgn : Hid (¬ GA pg) := fun e => by have h1 := lG _ e; have h2 := B02.size; have h3 := hR.lt; rw [hpg.out] at h1; have h4 := HBW.out.size; have h5 := HB1.out.size; have := wcs.out; omega
          have K := mlay_any (HA.out.below B02) (ep := ep) (b := pg) (off := 0) (n := 2) (c := 2) (L := [(arG ⟨k, m, z, s, t, o⟩ ar 0, P0), (arG ⟨k, m, z, s, t, o⟩ ar 1, P1)]) rfl (by omega) (fun i hi => by
            have : i = 0 ∨ i = 1 := by omega
            rcases this with rfl | rfl
            · exact se0
            · exact se1) (fun W2 tt i hi => by
            have hGA : ∀ k, GA k → k < W.heap.size := fun k e => by have := lG _ e; have := wcs.out; omega
            have : i = 0 ∨ i = 1 := by omega
            rcases this with rfl | rfl
            · refine ⟨v0, ?_, ?_, (HK0.out.below hB.out).turn hGA tt⟩
              · refine (tt.cell (p := ⟨pg, 0 + 0 * 2, none⟩) hR.lt pgn.out).trans ((hR.cell (i := 0) (by omega)).trans ?_)
                show some (pgR A V 2 0) = _
                unfold pgR; rw [hA.out]; rfl
              · refine (tt.cell (p := ⟨pg, 0 + 0 * 2 + 1, none⟩) hR.lt pgn.out).trans ((hR.cell (i := 1) (by omega)).trans ?_)
                show some (pgR A V 2 1) = _
                unfold pgR; rw [hV.out]; rfl
            · refine ⟨v1, ?_, ?_, (HK1.out.below hB.out).turn hGA tt⟩
              · refine (tt.cell (p := ⟨pg, 0 + 1 * 2, none⟩) hR.lt pgn.out).trans ((hR.cell (i := 2) (by omega)).trans ?_)
                show some (pgR A V 2 2) = _
                unfold pgR; rw [hA.out]; rfl
              · refine (tt.cell (p := ⟨pg, 0 + 1 * 2 + 1, none⟩) hR.lt pgn.out).trans ((hR.cell (i := 3) (by omega)).trans ?_)
                show some (pgR A V 2 3) = _
                unfold pgR; rw [hV.out]; rfl)
          rw [eX, eT] at K
          obtain ⟨X, hX⟩ : ∃ X, Hid (X = svX a ⟨k, m, z, s, t, o⟩ ar ep (oL L)) := ⟨_, rfl⟩
          have FN : Hid (∀ V2, (∃ GC, ArAt V2 ab GC (svS a ⟨k, m, z, s, t, o⟩ ar ep (oL L)) ∧ Grew GA wr GC V2) → LeavesA w ab GA (svS a ⟨k, m, z, s, t, o⟩ ar ep (oL L)) (.int .i64 (svX a ⟨k, m, z, s, t, o⟩ ar ep (oL L))) (.returned (.int .i64 X)) V2) := fun V2 ⟨GC, A2, g⟩ => by
            rw [hX.out]
            exact ⟨rfl, GC, A2, (Grew.of_below B02).trans g⟩
          rw [← hX.out] at K
          clear eX eT hX hR hB BB B02 x0 x1 x2 x3 x4 x5 y0
          go_wp2_with fail
          refine K.mono ?_
          rintro _ w3 ⟨rfl, L3⟩
          have F9 : Hid _ := FN.out w3 L3
          clear K FN L3
          go_wp2
          exact bodyPost_ret (v := .int .i64 X) (by simp [results, Tryz.results27, go_sem]) rfl F9.out
end Go.Proofs.YtclieefpnbdbjaaGreat.Gf
