/- TEXTS JOINED: StCR, StCP, PoLaws, PoTop, PoShort1, PoCodeB, GfDiv. -/
import Derived.Test.YtddnfhfangfgeaaGreatTome12
import Derived.Test.YtddnfhfangfgeaaGreatTome11
import Derived.Deep.CutRange
import Derived.Test.YtddnfhfangfgeaaGreatTome2
import Derived.Test.YtddnfhfangfgeaaGreatTome1
import Derived.BigQuiet
namespace Go.Proofs.YtddnfhfangfgeaaGreat.Gf
set_option linter.unusedVariables false
set_option linter.unusedSimpArgs false
open Go.RowKit
theorem info_bytesR : (Tryz.prog.info? 36).map (fun i => (i.zero, i.size, i.bytes)) = some (some (.slice none 0 0), 1, 24) := by kernel_rfl
theorem info_boolR : (Tryz.prog.info? 4).map (fun i => (i.zero, i.size, i.bytes)) = some (some (.bool false), 1, 1) := by kernel_rfl
/-- what is left where the power is gone -/
def MakesOff15 (w : World) (e : Ending) (w' : World) : Prop := ∃ va vb, e = .returned (.tuple #[va, vb, .int .i64 130]) ∧ Below w.heap.size w w'
/-- .. where it is there -/
def MakesOn15 (w : World) (n : Nat) (L : Nat → List UInt8) (H : Nat → Bool) (e : Ending) (w' : World) : Prop := ∃ gs gh V, e = .returned (.tuple #[.slice (some ⟨gs, 0, none⟩) n n, .slice (some ⟨gh, 0, none⟩) n n, .int .i64 0]) ∧ TwoL w' gs gh n V L H ∧ w.heap.size ≤ gs ∧ w.heap.size ≤ gh ∧ Below w.heap.size w w'
def MakesT15 (w : World) (off : Bool) (n : Nat) (L : Nat → List UInt8) (H : Nat → Bool) (e : Ending) (w' : World) : Prop := (off = true → MakesOff15 w e w') ∧ (off = false → MakesOn15 w n L H e w')
structure MadeT (W0 : World) (n : Nat) (s5 s6 : Value) (wx : World) : Prop where
  at_ : ∃ gs gh, s5 = .slice (some ⟨gs, 0, none⟩) n n ∧ s6 = .slice (some ⟨gh, 0, none⟩) n n ∧ wx.rowIs gs 36 n (fun _ => .slice none 0 0) ∧ wx.rowIs gh 4 n (fun _ => .bool false) ∧ gs ≠ gh ∧ W0.heap.size ≤ gs ∧ W0.heap.size ≤ gh
  bel : Below W0.heap.size W0 wx
set_option maxRecDepth 100000 in
set_option maxHeartbeats 8000000 in
theorem pread_any {w : World} {ab : Nat} {GA : Nat → Prop} {a : ArS} (h : ArAt w ab GA a) {pf : Option Addr} {g : GeoS} (hg : g.Wf) {st ep : Int} (hst : (Lit.int .i64 st).wf = true) (hT : OkT g st ep) :
    Calls Tryz.prog 93 #[aggP (some ⟨ab, 0, none⟩) pf g st ep] w (MakesT15 w a.off (nT g) (shdF a g st ep) (hsF a g st ep)) := by
  have zz := okG_nat hT.1
  have sin := stG_in hT.1 hT.2.1 hT.2.2.1
  obtain ⟨at_, t0⟩ : ∃ x, Hid (x = stG g st) := ⟨_, rfl⟩
  rw [← t0.out] at sin
  obtain ⟨n, hn⟩ : ∃ n, Hid (n = nT g) := ⟨_, rfl⟩
  obtain ⟨FH, hFH⟩ : ∃ F, Hid (F = hsF a g st ep) := ⟨_, rfl⟩
  obtain ⟨FL, hFL⟩ : ∃ F, Hid (F = shdF a g st ep) := ⟨_, rfl⟩
  rw [← hn.out, ← hFH.out, ← hFL.out]
  have n1 : 1 ≤ n ∧ n ≤ 32 := by rw [hn.out]; exact ⟨nT_pos hT.1, zz.2.2.2.2.1⟩
  have KN := fun W => @pcount_any W (some ⟨ab, 0, none⟩) pf g st ep (n : Int) (by rw [← zz.2.2.2.2.2.2.2, ← hn.out, IntKind.wrap_i64]; omega)
  have KP := fun W => @pplace_any W (some ⟨ab, 0, none⟩) pf g st ep hg hst _ t0.out.symm
  have KD := fun W (i : Nat) (hi : i < n) => @pdisk_any W (some ⟨ab, 0, none⟩) pf g st ep hg hst (i : Int) (wf_small (by omega) (by omega)) _ rfl
  have KU := fun W (v : Value) (p : List UInt8) (hr : Rd W v p) (hl : p.length ≤ 100000) => @punpack_any W (some ⟨ab, 0, none⟩) pf g st ep hg hst v p hr hl _ _ rfl rfl
  rw [← t0.out] at KU
  have DI : Hid (∀ i : Nat, i < n → 0 ≤ diG g st (i : Int) ∧ diG g st (i : Int) ≤ 100000) := fun i hi => by
    rw [hn.out] at hi
    have := diG_in hT.1 hT.2.1 hT.2.2.1 hi
    have := zz.2.2.2.2.1
    omega
  have okA := h.ok
  have HFv : Hid (∀ i : Nat, decide (upX at_ (rdAB a (diG g st (i : Int)) at_) = 0 ∧ ((upN at_ (rdAB a (diG g st (i : Int)) at_) : Nat) : Int) = ep ∧ (((upD at_ (rdAB a (diG g st (i : Int)) at_)).length : Nat) : Int) = g.z) = FH i) := fun i => by rw [hFH.out, t0.out]; rfl
  have HLv : Hid (∀ i : Nat, (if FH i = true then upD at_ (rdAB a (diG g st (i : Int)) at_) else []) = FL i) := fun i => by rw [hFH.out, hFL.out, t0.out]; rfl
  have HNo : Hid (∀ i : Nat, ¬ rdAX a (diG g st (i : Int)) at_ = 0 → FH i = false ∧ FL i = []) := fun i hx => by
    have e := rdAB_no hx
    have q : FH i = false := by
      rw [← HFv.out i, e]
      refine decide_eq_false fun q => ?_
      have := q.1
      rw [up_nil] at this
      cases this
    refine ⟨q, ?_⟩
    rw [← HLv.out i, q]
    rfl
  have wat : (Lit.int .i64 at_).wf = true := wf_small (by omega) (by omega)
  have HA : Hid (ArAt w ab GA a) := h
  clear sin t0 hFH hFL hn hT zz h
  obtain ⟨k, m, z, s, t, o⟩ := g
  have LB := spot_laid w (some ⟨ab, 0, none⟩) pf ⟨k, m, z, s, t, o⟩ st ep 103
  unfold aggP at KN KP KD KU ⊢
  simp only [cellsP] at KN KP KD KU LB ⊢
  obtain ⟨W0, hW0⟩ : ∃ W0, W0 = w.alloc (.cells #[.pointer (some ⟨ab, 0, none⟩), .pointer pf, .int .i64 k, .int .i64 m, .int .i64 z, .int .i64 s, .int .i64 t, .int .i64 o, .int .i64 st, .int .i64 ep] 103) := ⟨_, rfl⟩
  rw [← hW0] at LB
  have gb : w.heap.size < W0.heap.size := by rw [hW0]; simp
  have SE : Hid (∀ W, Below W0.heap.size W0 W → W.cell? ⟨w.heap.size, 0, none⟩ = some (.pointer (some ⟨ab, 0, none⟩)) ∧ W.cell? ⟨w.heap.size, 1, none⟩ = some (.pointer pf) ∧ W.cell? ⟨w.heap.size, 2, none⟩ = some (.int .i64 k) ∧ W.cell? ⟨w.heap.size, 3, none⟩ = some (.int .i64 m) ∧ W.cell? ⟨w.heap.size, 4, none⟩ = some (.int .i64 z) ∧ W.cell? ⟨w.heap.size, 5, none⟩ = some (.int .i64 s) ∧ W.cell? ⟨w.heap.size, 6, none⟩ = some (.int .i64 t) ∧ W.cell? ⟨w.heap.size, 7, none⟩ = some (.int .i64 o) ∧ W.cell? ⟨w.heap.size, 8, none⟩ = some (.int .i64 st) ∧ W.cell? ⟨w.heap.size, 9, none⟩ = some (.int .i64 ep)) := fun W b => (LB W b).1.all
  have FE : Hid (∀ W, Below W0.heap.size W0 W → Below w.heap.size w W) := fun W b => (LB W b).2
  clear LB
  have MKS : Hid _ := run_make_row' (P := Tryz.prog) 106 36 (.slice none 0 0) 24 Tryz.underlying106 info_bytesR rfl .i64 .i64 n (by omega) (by omega)
  have MKB : Hid _ := run_make_row' (P := Tryz.prog) 96 4 (.bool false) 1 Tryz.underlying96 info_boolR rfl .i64 .i64 n (by omega) (by omega)
  go_enter Tryz.func93, Tryz.ntmps93
  go_wp2_with fail
  rw [← hW0]
  clear hW0
  go_step3
  go_upto_region 1 with fail
  go_cut [5, 6] from 11 to 17 (fun s5 s6 wx => MadeT W0 n s5 s6 wx)
  case first =>
    have c0 := SE.out W0 (Below.refl _ _)
    refine wp_region_held_drew (S := fun wx => wx.cell? ⟨w.heap.size, 0, none⟩ = some (.pointer (some ⟨ab, 0, none⟩)) ∧ wx.cell? ⟨w.heap.size, 1, none⟩ = some (.pointer pf) ∧ wx.cell? ⟨w.heap.size, 2, none⟩ = some (.int .i64 k) ∧ wx.cell? ⟨w.heap.size, 3, none⟩ = some (.int .i64 m) ∧ wx.cell? ⟨w.heap.size, 4, none⟩ = some (.int .i64 z) ∧ wx.cell? ⟨w.heap.size, 5, none⟩ = some (.int .i64 s) ∧ wx.cell? ⟨w.heap.size, 6, none⟩ = some (.int .i64 t) ∧ wx.cell? ⟨w.heap.size, 7, none⟩ = some (.int .i64 o) ∧ wx.cell? ⟨w.heap.size, 8, none⟩ = some (.int .i64 st) ∧ wx.cell? ⟨w.heap.size, 9, none⟩ = some (.int .i64 ep)) (by kernel_rfl) ?_ (fun hHeld => ?_)
    · exact c0
    have B0 : Below W0.heap.size W0 W0.drew := (Below.refl _ _).drew
    refine wpAnyH_take (i := 0) (v := ?_) rfl (by kernel_rfl) (by kernel_rfl) (by kernel_rfl) (fun _ _ _ h => h) (Or.inl ⟨by rfl, ?_⟩) (by assumption) ?_
    rotate_left
    · intro w hSw; (try dsimp only at hSw); go_simp; try with_reducible rfl
    try simp only [Act.put, List.getElem_toArray, List.getElem_cons_succ, List.getElem_cons_zero, List.setIfInBounds_toArray, List.set_cons_zero, List.set_cons_succ]
    refine wpAnyH_take (i := 3) (v := ?_) rfl (by kernel_rfl) (by kernel_rfl) (by kernel_rfl) (fun _ _ _ h => h) (Or.inl ⟨by rfl, ?_⟩) (by assumption) ?_
    rotate_left
    · intro w hSw; (try dsimp only at hSw); go_simp; try with_reducible rfl
    try simp only [Act.put, List.getElem_toArray, List.getElem_cons_succ, List.getElem_cons_zero, List.setIfInBounds_toArray, List.set_cons_zero, List.set_cons_succ]
    refine wpAnyH_ready (rs := [1]) (by kernel_rfl) (by simp) ?_
    refine AllReadyH.cons rfl (fun K hK => ?_) AllReadyH.nil
    go_simp
    refine (KN _).mono ?_
    rintro _ v1 ⟨rfl, b1⟩
    have B1 : Below W0.heap.size W0 v1 := B0.stepL b1 B0.size
    refine hK.out _ _ ?_ (fun hHeld => ?_)
    · exact SE.out _ B1
    clear hK K
    try simp only [Act.put, List.getElem_toArray, List.getElem_cons_succ, List.getElem_cons_zero, List.setIfInBounds_toArray, List.set_cons_zero, List.set_cons_succ]
    refine wpAnyH_ready (rs := [2, 4]) (by kernel_rfl) (by simp) ?_
    refine AllReadyH.cons rfl (fun K hK => ?_) (AllReadyH.cons rfl (fun K hK => ?_) AllReadyH.nil)
    · have q2 := MKS.out v1
      obtain ⟨u2, hu2⟩ : ∃ u, u = (v1).alloc (.cells (madeCells #[.slice none 0 0] n) 36) := ⟨_, rfl⟩
      rw [← hu2] at q2
      have r2 : u2.rowIs (v1).heap.size 36 n (fun _ => .slice none 0 0) := by rw [hu2]; exact World.rowIs_made _ _ _ _
      have d2 : Below (v1).heap.size (v1) u2 := by rw [hu2]; exact belL _ _
      have B2 : Below W0.heap.size W0 u2 := B1.stepL d2 B1.size
      have l2 : Hid (W0.heap.size ≤ (v1).heap.size) := B1.size
      obtain ⟨gs, hgs⟩ : ∃ x, Hid (x = (v1).heap.size) := ⟨_, rfl⟩
      rw [← hgs.out] at q2 r2 l2
      clear hu2
      go_simp
      refine hK.out _ _ ?_ (fun hHeld => ?_)
      · exact SE.out _ B2
      clear hK K
      try simp only [Act.put, List.getElem_toArray, List.getElem_cons_succ, List.getElem_cons_zero, List.setIfInBounds_toArray, List.set_cons_zero, List.set_cons_succ]
      refine wpAnyH_ready (rs := [4]) (by kernel_rfl) (by simp) ?_
      refine AllReadyH.cons rfl (fun K hK => ?_) AllReadyH.nil
      go_simp
      refine (KN _).mono ?_
      rintro _ v4 ⟨rfl, b4⟩
      have B4 : Below W0.heap.size W0 v4 := B2.stepL b4 B2.size
      have r2 := r2.of_block (b4.block gs r2.lt)
      refine hK.out _ _ ?_ (fun hHeld => ?_)
      · exact SE.out _ B4
      clear hK K
      try simp only [Act.put, List.getElem_toArray, List.getElem_cons_succ, List.getElem_cons_zero, List.setIfInBounds_toArray, List.set_cons_zero, List.set_cons_succ]
      refine wpAnyH_take (i := 6) (v := ?_) rfl (by kernel_rfl) (by kernel_rfl) (by kernel_rfl) (fun _ _ _ h => h) (Or.inl ⟨by rfl, ?_⟩) (by assumption) ?_
      rotate_left
      · intro w hSw; (try dsimp only at hSw); go_simp; try with_reducible rfl
      try simp only [Act.put, List.getElem_toArray, List.getElem_cons_succ, List.getElem_cons_zero, List.setIfInBounds_toArray, List.set_cons_zero, List.set_cons_succ]
      refine wpAnyH_ready (rs := [5]) (by kernel_rfl) (by simp) ?_
      refine AllReadyH.cons rfl (fun K hK => ?_) AllReadyH.nil
      have q5 := MKB.out v4
      obtain ⟨u5, hu5⟩ : ∃ u, u = (v4).alloc (.cells (madeCells #[.bool false] n) 4) := ⟨_, rfl⟩
      rw [← hu5] at q5
      have r5 : u5.rowIs (v4).heap.size 4 n (fun _ => .bool false) := by rw [hu5]; exact World.rowIs_made _ _ _ _
      have d5 : Below (v4).heap.size (v4) u5 := by rw [hu5]; exact belL _ _
      have B5 : Below W0.heap.size W0 u5 := B4.stepL d5 B4.size
      have l5 : Hid (W0.heap.size ≤ (v4).heap.size) := B4.size
      have ne : Hid (gs ≠ (v4).heap.size) := by have := r2.lt; show _ ≠ _; omega
      obtain ⟨gh, hgh⟩ : ∃ x, Hid (x = (v4).heap.size) := ⟨_, rfl⟩
      rw [← hgh.out] at q5 r5 l5
      rw [← hgh.out] at ne
      have r2 := r2.of_block (d5.block gs r2.lt)
      clear hu5
      go_simp
      refine hK.out _ _ ?_ (fun hHeld => ?_)
      · exact SE.out _ B5
      clear hK K
      try simp only [Act.put, List.getElem_toArray, List.getElem_cons_succ, List.getElem_cons_zero, List.setIfInBounds_toArray, List.set_cons_zero, List.set_cons_succ]
      clear KN MKS MKB
      refine wpAnyH_take (i := 7) (v := ?_) rfl (by kernel_rfl) (by kernel_rfl) (by kernel_rfl) (fun _ _ _ h => h) (Or.inl ⟨by rfl, ?_⟩) (by assumption) ?_
      rotate_left
      · intro w hSw; (try dsimp only at hSw); go_simp; try with_reducible rfl
      try simp only [Act.put, List.getElem_toArray, List.getElem_cons_succ, List.getElem_cons_zero, List.setIfInBounds_toArray, List.set_cons_zero, List.set_cons_succ]
      refine wpAnyH_done (by kernel_rfl) ?_ _
      try simp only [Act.put, List.getElem_toArray, List.getElem_cons_succ, List.getElem_cons_zero, List.setIfInBounds_toArray, List.set_cons_zero, List.set_cons_succ]
      clear hHeld c0
      go_wp2
      go_meet
      case rel => exact ⟨⟨gs, gh, rfl, rfl, r2, r5, ne.out, l2.out, l5.out⟩, B5⟩
    · go_simp
      refine (KN _).mono ?_
      rintro _ v4 ⟨rfl, b4⟩
      have B4 : Below W0.heap.size W0 v4 := B1.stepL b4 B1.size
      refine hK.out _ _ ?_ (fun hHeld => ?_)
      · exact SE.out _ B4
      clear hK K
      try simp only [Act.put, List.getElem_toArray, List.getElem_cons_succ, List.getElem_cons_zero, List.setIfInBounds_toArray, List.set_cons_zero, List.set_cons_succ]
      refine wpAnyH_ready (rs := [2, 5]) (by kernel_rfl) (by simp) ?_
      refine AllReadyH.cons rfl (fun K hK => ?_) (AllReadyH.cons rfl (fun K hK => ?_) AllReadyH.nil)
      · have q2 := MKS.out v4
        obtain ⟨u2, hu2⟩ : ∃ u, u = (v4).alloc (.cells (madeCells #[.slice none 0 0] n) 36) := ⟨_, rfl⟩
        rw [← hu2] at q2
        have r2 : u2.rowIs (v4).heap.size 36 n (fun _ => .slice none 0 0) := by rw [hu2]; exact World.rowIs_made _ _ _ _
        have d2 : Below (v4).heap.size (v4) u2 := by rw [hu2]; exact belL _ _
        have B2 : Below W0.heap.size W0 u2 := B4.stepL d2 B4.size
        have l2 : Hid (W0.heap.size ≤ (v4).heap.size) := B4.size
        obtain ⟨gs, hgs⟩ : ∃ x, Hid (x = (v4).heap.size) := ⟨_, rfl⟩
        rw [← hgs.out] at q2 r2 l2
        clear hu2
        go_simp
        refine hK.out _ _ ?_ (fun hHeld => ?_)
        · exact SE.out _ B2
        clear hK K
        try simp only [Act.put, List.getElem_toArray, List.getElem_cons_succ, List.getElem_cons_zero, List.setIfInBounds_toArray, List.set_cons_zero, List.set_cons_succ]
        refine wpAnyH_take (i := 6) (v := ?_) rfl (by kernel_rfl) (by kernel_rfl) (by kernel_rfl) (fun _ _ _ h => h) (Or.inl ⟨by rfl, ?_⟩) (by assumption) ?_
        rotate_left
        · intro w hSw; (try dsimp only at hSw); go_simp; try with_reducible rfl
        try simp only [Act.put, List.getElem_toArray, List.getElem_cons_succ, List.getElem_cons_zero, List.setIfInBounds_toArray, List.set_cons_zero, List.set_cons_succ]
        refine wpAnyH_ready (rs := [5]) (by kernel_rfl) (by simp) ?_
        refine AllReadyH.cons rfl (fun K hK => ?_) AllReadyH.nil
        have q5 := MKB.out u2
        obtain ⟨u5, hu5⟩ : ∃ u, u = (u2).alloc (.cells (madeCells #[.bool false] n) 4) := ⟨_, rfl⟩
        rw [← hu5] at q5
        have r5 : u5.rowIs (u2).heap.size 4 n (fun _ => .bool false) := by rw [hu5]; exact World.rowIs_made _ _ _ _
        have d5 : Below (u2).heap.size (u2) u5 := by rw [hu5]; exact belL _ _
        have B5 : Below W0.heap.size W0 u5 := B2.stepL d5 B2.size
        have l5 : Hid (W0.heap.size ≤ (u2).heap.size) := B2.size
        have ne : Hid (gs ≠ (u2).heap.size) := by have := r2.lt; show _ ≠ _; omega
        obtain ⟨gh, hgh⟩ : ∃ x, Hid (x = (u2).heap.size) := ⟨_, rfl⟩
        rw [← hgh.out] at q5 r5 l5
        rw [← hgh.out] at ne
        have r2 := r2.of_block (d5.block gs r2.lt)
        clear hu5
        go_simp
        refine hK.out _ _ ?_ (fun hHeld => ?_)
        · exact SE.out _ B5
        clear hK K
        try simp only [Act.put, List.getElem_toArray, List.getElem_cons_succ, List.getElem_cons_zero, List.setIfInBounds_toArray, List.set_cons_zero, List.set_cons_succ]
        clear KN MKS MKB
        refine wpAnyH_take (i := 7) (v := ?_) rfl (by kernel_rfl) (by kernel_rfl) (by kernel_rfl) (fun _ _ _ h => h) (Or.inl ⟨by rfl, ?_⟩) (by assumption) ?_
        rotate_left
        · intro w hSw; (try dsimp only at hSw); go_simp; try with_reducible rfl
        try simp only [Act.put, List.getElem_toArray, List.getElem_cons_succ, List.getElem_cons_zero, List.setIfInBounds_toArray, List.set_cons_zero, List.set_cons_succ]
        refine wpAnyH_done (by kernel_rfl) ?_ _
        try simp only [Act.put, List.getElem_toArray, List.getElem_cons_succ, List.getElem_cons_zero, List.setIfInBounds_toArray, List.set_cons_zero, List.set_cons_succ]
        clear hHeld c0
        go_wp2
        go_meet
        case rel => exact ⟨⟨gs, gh, rfl, rfl, r2, r5, ne.out, l2.out, l5.out⟩, B5⟩
      · have q5 := MKB.out v4
        obtain ⟨u5, hu5⟩ : ∃ u, u = (v4).alloc (.cells (madeCells #[.bool false] n) 4) := ⟨_, rfl⟩
        rw [← hu5] at q5
        have r5 : u5.rowIs (v4).heap.size 4 n (fun _ => .bool false) := by rw [hu5]; exact World.rowIs_made _ _ _ _
        have d5 : Below (v4).heap.size (v4) u5 := by rw [hu5]; exact belL _ _
        have B5 : Below W0.heap.size W0 u5 := B4.stepL d5 B4.size
        have l5 : Hid (W0.heap.size ≤ (v4).heap.size) := B4.size
        obtain ⟨gh, hgh⟩ : ∃ x, Hid (x = (v4).heap.size) := ⟨_, rfl⟩
        rw [← hgh.out] at q5 r5 l5
        clear hu5
        go_simp
        refine hK.out _ _ ?_ (fun hHeld => ?_)
        · exact SE.out _ B5
        clear hK K
        try simp only [Act.put, List.getElem_toArray, List.getElem_cons_succ, List.getElem_cons_zero, List.setIfInBounds_toArray, List.set_cons_zero, List.set_cons_succ]
        refine wpAnyH_ready (rs := [2]) (by kernel_rfl) (by simp) ?_
        refine AllReadyH.cons rfl (fun K hK => ?_) AllReadyH.nil
        have q2 := MKS.out u5
        obtain ⟨u2, hu2⟩ : ∃ u, u = (u5).alloc (.cells (madeCells #[.slice none 0 0] n) 36) := ⟨_, rfl⟩
        rw [← hu2] at q2
        have r2 : u2.rowIs (u5).heap.size 36 n (fun _ => .slice none 0 0) := by rw [hu2]; exact World.rowIs_made _ _ _ _
        have d2 : Below (u5).heap.size (u5) u2 := by rw [hu2]; exact belL _ _
        have B2 : Below W0.heap.size W0 u2 := B5.stepL d2 B5.size
        have l2 : Hid (W0.heap.size ≤ (u5).heap.size) := B5.size
        have ne : Hid (gh ≠ (u5).heap.size) := by have := r5.lt; show _ ≠ _; omega
        obtain ⟨gs, hgs⟩ : ∃ x, Hid (x = (u5).heap.size) := ⟨_, rfl⟩
        rw [← hgs.out] at q2 r2 l2
        rw [← hgs.out] at ne
        have r5 := r5.of_block (d2.block gh r5.lt)
        clear hu2
        go_simp
        refine hK.out _ _ ?_ (fun hHeld => ?_)
        · exact SE.out _ B2
        clear hK K
        try simp only [Act.put, List.getElem_toArray, List.getElem_cons_succ, List.getElem_cons_zero, List.setIfInBounds_toArray, List.set_cons_zero, List.set_cons_succ]
        refine wpAnyH_take (i := 6) (v := ?_) rfl (by kernel_rfl) (by kernel_rfl) (by kernel_rfl) (fun _ _ _ h => h) (Or.inl ⟨by rfl, ?_⟩) (by assumption) ?_
        rotate_left
        · intro w hSw; (try dsimp only at hSw); go_simp; try with_reducible rfl
        try simp only [Act.put, List.getElem_toArray, List.getElem_cons_succ, List.getElem_cons_zero, List.setIfInBounds_toArray, List.set_cons_zero, List.set_cons_succ]
        clear KN MKS MKB
        refine wpAnyH_take (i := 7) (v := ?_) rfl (by kernel_rfl) (by kernel_rfl) (by kernel_rfl) (fun _ _ _ h => h) (Or.inl ⟨by rfl, ?_⟩) (by assumption) ?_
        rotate_left
        · intro w hSw; (try dsimp only at hSw); go_simp; try with_reducible rfl
        try simp only [Act.put, List.getElem_toArray, List.getElem_cons_succ, List.getElem_cons_zero, List.setIfInBounds_toArray, List.set_cons_zero, List.set_cons_succ]
        refine wpAnyH_done (by kernel_rfl) ?_ _
        try simp only [Act.put, List.getElem_toArray, List.getElem_cons_succ, List.getElem_cons_zero, List.setIfInBounds_toArray, List.set_cons_zero, List.set_cons_succ]
        clear hHeld c0
        go_wp2
        go_meet
        case rel => exact ⟨⟨gs, gh, rfl, rfl, r2, r5, ne.out.symm, l2.out, l5.out⟩, B2⟩
  case rest =>
    obtain ⟨⟨gs, gh, rfl, rfl, r2, r5, ne, l2, l5⟩, BB⟩ := hcut
    have START : Hid (TwoL wc gs gh n (fun _ => .slice none 0 0) (fun i => if i < 0 then FL i else []) (fun i => if i < 0 then FH i else false) ∧ Below W0.heap.size W0 wc) := ⟨(TwoL.made r2 r5 ne (by omega)).congr (fun i _ => rfl) (fun i _ => rfl), BB⟩
    have HL : Hid (W0.heap.size ≤ gs ∧ W0.heap.size ≤ gh) := ⟨l2, l5⟩
    clear r2 r5 ne BB MKS MKB KN l2 l5
    go_wp2_with fail
    go_step3
    go_wp2_with fail
    go_loopw [7, 19] (fun tv i wr => ∃ r : Nat, r ≤ n ∧ i = .int .i64 (r : Int) ∧ tv = .int .i64 0 ∧ (∃ V, TwoL wr gs gh n V (fun i => if i < r then FL i else []) (fun i => if i < r then FH i else false)) ∧ Below W0.heap.size W0 wr ∧ (r = 0 ∨ a.off = false)) (fun _ i _ => n - (intOf i).toNat)
    case atStart => exact ⟨0, Nat.zero_le _, rfl, rfl, ⟨_, START.out.1⟩, START.out.2, Or.inl rfl⟩
    case round =>
      clear START
      obtain ⟨r, hr, rfl, rfl, ⟨V, hV⟩, hB, hoff⟩ := hrel
      by_cases hlt : r < n
      · have hlt' : (r : Int) < (n : Int) := by omega
        have g1 : IntKind.i64.wrap ((r : Int) + 1) = ((r + 1 : Nat) : Int) := by rw [IntKind.wrap_i64]; omega
        obtain ⟨dd, hdd⟩ : ∃ dd, Hid (dd = diG ⟨k, m, z, s, t, o⟩ st (r : Int)) := ⟨_, rfl⟩
        have KD1 := fun W => KD W r hlt
        rw [← hdd.out] at KD1
        have wdd : (Lit.int .i64 dd).wf = true := by rw [hdd.out]; exact wf_small (DI.out r hlt).1 (DI.out r hlt).2
        obtain ⟨px, hpx⟩ : ∃ px, Hid (rdAX a dd at_ = px) := ⟨_, rfl⟩
        obtain ⟨rb, hrb⟩ : ∃ rb, Hid (rdAB a dd at_ = rb) := ⟨_, rfl⟩
        have hrl : Hid (rb.length ≤ 100000) := by show _ ≤ _; rw [← hrb.out]; exact rdAB_len okA _ _
        have KR : ∀ W, Below W0.heap.size W0 W → Calls Tryz.prog 72 #[.pointer (some ⟨ab, 0, none⟩), .int .i64 dd, .int .i64 at_] W (Tells W px rb) := fun W b => by
          have := aread_any (HA.out.below (FE.out W b)) wdd wat
          rw [hpx.out, hrb.out] at this
          exact this
        have c0 := SE.out wr hB
        have BD : Below W0.heap.size W0 wr.drew := hB.drew
        have cD := SE.out _ BD
        have E2D : Hid (∀ {v2 v3 : World}, Below v2.drew.heap.size v2.drew v3 → Below v2.heap.size v2 v3) := fun b => ((Below.refl _ _).drew).stepL b (Nat.le_refl _)
        by_cases ho : a.off = true
        · have e1 : px = 130 := by rw [← hpx.out]; exact rdAX_crash.2 ho
          subst e1
          go_wp2_with fail
          have W5 : Hid (∀ v5, ∀ {v3 v4 : World}, Below wr.drew.heap.size wr.drew v3 → Below v3.heap.size v3 v4 → Below v4.heap.size v4 v5 → Below wr.heap.size wr v5) := fun v5 _ _ b3 b4 b5 => ((E2D.out b3).stepL b4 (E2D.out b3).size).stepL b5 (Nat.le_trans (E2D.out b3).size b4.size)
          go_region_held3 (fun wx => wx.cell? ⟨w.heap.size, 0, none⟩ = some (.pointer (some ⟨ab, 0, none⟩)) ∧ wx.cell? ⟨w.heap.size, 1, none⟩ = some (.pointer pf) ∧ wx.cell? ⟨w.heap.size, 2, none⟩ = some (.int .i64 k) ∧ wx.cell? ⟨w.heap.size, 3, none⟩ = some (.int .i64 m) ∧ wx.cell? ⟨w.heap.size, 4, none⟩ = some (.int .i64 z) ∧ wx.cell? ⟨w.heap.size, 5, none⟩ = some (.int .i64 s) ∧ wx.cell? ⟨w.heap.size, 6, none⟩ = some (.int .i64 t) ∧ wx.cell? ⟨w.heap.size, 7, none⟩ = some (.int .i64 o) ∧ wx.cell? ⟨w.heap.size, 8, none⟩ = some (.int .i64 st) ∧ wx.cell? ⟨w.heap.size, 9, none⟩ = some (.int .i64 ep)) (first | exact c0 | exact cD | exact c3 | exact c4 | exact c5) (first
            | (go_at_call 87; go_loud (refine (KD1 _).mono ?_); rintro _ v3 ⟨rfl, b3⟩; have B3 : Below W0.heap.size W0 v3 := BD.stepL b3 BD.size; have c3 := SE.out _ B3)
            | (go_at_call 86; go_loud (refine (KP _).mono ?_); rintro _ v4 ⟨rfl, b4⟩; have B4 : Below W0.heap.size W0 v4 := B3.stepL b4 B3.size; have c4 := SE.out _ B4)
            | (go_at_call 72; go_loud (refine (KR _ B4).mono ?_); rintro _ v5 ⟨ov, rfl, O5, b5⟩; have B5 : Below W0.heap.size W0 v5 := B4.stepL b5 B4.size; have c5 := SE.out _ B5))
          have HO5 : Hid (v5.ownsRow v4.heap.size 5 1 ov rb.length (rb.map vb)) := O5
          have FB : Hid (Below w.heap.size w v5) := FE.out _ B5
          clear c0 cD c3 c4 c5 b3 b4 O5 b5 B5 B3 B4 BD hV hB
          obtain ⟨oa, oc, rfl⟩ := owns_form HO5.out
          clear HO5
          go_wp2
          try rw [Exit.noGoto_ret]
          refine bodyPost_ret (v := .tuple #[.slice (some ⟨gs, 0, none⟩) n n, .slice (some ⟨gh, 0, none⟩) n n, .int .i64 130]) (by simp [results, Tryz.results93, go_sem]) rfl ?_
          exact ⟨fun _ => ⟨_, _, rfl, FB.out⟩, fun q => by rw [ho] at q; cases q⟩
        · have ho' : a.off = false := by simpa using ho
          have e1 : ¬ px = 130 := by rw [← hpx.out]; exact fun e => ho (rdAX_crash.1 e)
          have e1' : (px == 130) = false := beq_eq_false_iff_ne.2 e1
          by_cases hp0 : px = 0
          · subst hp0
            have eF := HFv.out r
            have eL := HLv.out r
            rw [← hdd.out, hrb.out] at eF eL
            have KU1 : ∀ W v, Rd W v rb → Calls Tryz.prog 132 #[.agg #[.pointer (some ⟨ab, 0, none⟩), .pointer pf, .int .i64 k, .int .i64 m, .int .i64 z, .int .i64 s, .int .i64 t, .int .i64 o, .int .i64 st, .int .i64 ep], v] W (MakesP15 W (FL r) (FH r)) := fun W v hr => by
              have := KU W v rb hr hrl.out
              try simp only at eF
              rw [eF, eL] at this
              exact this
            obtain ⟨fh, hfh⟩ : ∃ x, Hid (x = FH r) := ⟨_, rfl⟩
            obtain ⟨fl, hfl⟩ : ∃ x, Hid (x = FL r) := ⟨_, rfl⟩
            rw [← hfh.out, ← hfl.out] at KU1
            go_wp2_with fail
            have W5 : Hid (∀ v5, ∀ {v3 v4 : World}, Below wr.drew.heap.size wr.drew v3 → Below v3.heap.size v3 v4 → Below v4.heap.size v4 v5 → Below wr.heap.size wr v5) := fun v5 _ _ b3 b4 b5 => ((E2D.out b3).stepL b4 (E2D.out b3).size).stepL b5 (Nat.le_trans (E2D.out b3).size b4.size)
            go_region_held3 (fun wx => wx.cell? ⟨w.heap.size, 0, none⟩ = some (.pointer (some ⟨ab, 0, none⟩)) ∧ wx.cell? ⟨w.heap.size, 1, none⟩ = some (.pointer pf) ∧ wx.cell? ⟨w.heap.size, 2, none⟩ = some (.int .i64 k) ∧ wx.cell? ⟨w.heap.size, 3, none⟩ = some (.int .i64 m) ∧ wx.cell? ⟨w.heap.size, 4, none⟩ = some (.int .i64 z) ∧ wx.cell? ⟨w.heap.size, 5, none⟩ = some (.int .i64 s) ∧ wx.cell? ⟨w.heap.size, 6, none⟩ = some (.int .i64 t) ∧ wx.cell? ⟨w.heap.size, 7, none⟩ = some (.int .i64 o) ∧ wx.cell? ⟨w.heap.size, 8, none⟩ = some (.int .i64 st) ∧ wx.cell? ⟨w.heap.size, 9, none⟩ = some (.int .i64 ep)) (first | exact c0 | exact cD | exact c3 | exact c4 | exact c5) (first
              | (go_at_call 87; go_loud (refine (KD1 _).mono ?_); rintro _ v3 ⟨rfl, b3⟩; have B3 : Below W0.heap.size W0 v3 := BD.stepL b3 BD.size; have c3 := SE.out _ B3)
              | (go_at_call 86; go_loud (refine (KP _).mono ?_); rintro _ v4 ⟨rfl, b4⟩; have B4 : Below W0.heap.size W0 v4 := B3.stepL b4 B3.size; have c4 := SE.out _ B4)
              | (go_at_call 72; go_loud (refine (KR _ B4).mono ?_); rintro _ v5 ⟨ov, rfl, O5, b5⟩; have B5 : Below W0.heap.size W0 v5 := B4.stepL b5 B4.size; have c5 := SE.out _ B5))
            have HO5 : Hid (v5.ownsRow v4.heap.size 5 1 ov rb.length (rb.map vb)) := O5
            have R5 : Rd v5 ov rb := Rd.owned HO5.out
            have V5 := hV.below (W5.out _ b3 b4 b5)
            obtain ⟨oa, oc, rfl⟩ := R5.form
            obtain ⟨rl, hrl2⟩ : ∃ rl, Hid (rl = rb.length) := ⟨_, rfl⟩
            rw [← hrl2.out] at R5 ⊢
            clear c0 cD c3 c4 b3 b4 O5 HO5 b5 B3 B4 BD hV hB eF eL
            obtain ⟨x0, x1, x2, x3, x4, x5, x6, x7, x8, x9⟩ := c5
            have K6 := KU1 _ _ R5
            have lt1 := V5.rs.lt
            have lt2 := V5.rh.lt
            go_wp2_with (go_at_call 132; go_loud (refine K6.mono ?_); rintro _ v6 ⟨ux, rfl, R6, F6, b6⟩; obtain ⟨ua, uc, rfl⟩ := R6.form; have V6 := V5.below b6; have q1 := V6.rs.cell hlt; have q2 := V6.rs.frozen r; have V7 := V6.putS R6 (F6.apartB lt1) (F6.apartB lt2) r; have q3 := V7.rh.cell hlt; have q4 := V7.rh.frozen r)
            have V8 := V7.putB r fh
            have B6 : Below W0.heap.size W0 v6 := B5.stepL b6 B5.size
            have H8 : Hid ((∃ V, TwoL ((v6.setCell ⟨gs, r, none⟩ (.slice ua fl.length uc)).setCell ⟨gh, r, none⟩ (.bool fh)) gs gh n V (fun i => if i < r + 1 then FL i else []) (fun i => if i < r + 1 then FH i else false)) ∧ Below W0.heap.size W0 ((v6.setCell ⟨gs, r, none⟩ (.slice ua fl.length uc)).setCell ⟨gh, r, none⟩ (.bool fh))) := by
              refine ⟨⟨_, V8.congr (fun i _ => ?_) (fun i _ => ?_)⟩, (B6.setCell (p := ⟨gs, r, none⟩) HL.out.1 _).setCell (p := ⟨gh, r, none⟩) HL.out.2 _⟩
              · by_cases e : i = r
                · rw [if_pos e, if_pos (by omega), e, hfl.out]
                · rw [if_neg e]
                  by_cases e2 : i < r
                  · rw [if_pos e2, if_pos (by omega)]
                  · rw [if_neg e2, if_neg (by omega)]
              · by_cases e : i = r
                · rw [if_pos e, if_pos (by omega), e, hfh.out]
                · rw [if_neg e]
                  by_cases e2 : i < r
                  · rw [if_pos e2, if_pos (by omega)]
                  · rw [if_neg e2, if_neg (by omega)]
            clear V5 V6 V7 V8 R6 F6 b6 B6 q1 q2 q3 q4 B5 x0 x1 x2 x3 x4 x5 x6 x7 x8 x9 K6 KU1 R5
            go_wp2
            go_roundw
            case rel => exact ⟨r + 1, by omega, by go_num, rfl, H8.out.1, H8.out.2, Or.inr ho'⟩
            case measure => simp [intOf]; omega
          · have hp0' : (px == 0) = false := beq_eq_false_iff_ne.2 hp0
            obtain ⟨eF, eL⟩ := HNo.out r (by rw [← hdd.out, hpx.out]; exact hp0)
            go_wp2_with fail
            have W5 : Hid (∀ v5, ∀ {v3 v4 : World}, Below wr.drew.heap.size wr.drew v3 → Below v3.heap.size v3 v4 → Below v4.heap.size v4 v5 → Below wr.heap.size wr v5) := fun v5 _ _ b3 b4 b5 => ((E2D.out b3).stepL b4 (E2D.out b3).size).stepL b5 (Nat.le_trans (E2D.out b3).size b4.size)
            go_region_held3 (fun wx => wx.cell? ⟨w.heap.size, 0, none⟩ = some (.pointer (some ⟨ab, 0, none⟩)) ∧ wx.cell? ⟨w.heap.size, 1, none⟩ = some (.pointer pf) ∧ wx.cell? ⟨w.heap.size, 2, none⟩ = some (.int .i64 k) ∧ wx.cell? ⟨w.heap.size, 3, none⟩ = some (.int .i64 m) ∧ wx.cell? ⟨w.heap.size, 4, none⟩ = some (.int .i64 z) ∧ wx.cell? ⟨w.heap.size, 5, none⟩ = some (.int .i64 s) ∧ wx.cell? ⟨w.heap.size, 6, none⟩ = some (.int .i64 t) ∧ wx.cell? ⟨w.heap.size, 7, none⟩ = some (.int .i64 o) ∧ wx.cell? ⟨w.heap.size, 8, none⟩ = some (.int .i64 st) ∧ wx.cell? ⟨w.heap.size, 9, none⟩ = some (.int .i64 ep)) (first | exact c0 | exact cD | exact c3 | exact c4 | exact c5) (first
              | (go_at_call 87; go_loud (refine (KD1 _).mono ?_); rintro _ v3 ⟨rfl, b3⟩; have B3 : Below W0.heap.size W0 v3 := BD.stepL b3 BD.size; have c3 := SE.out _ B3)
              | (go_at_call 86; go_loud (refine (KP _).mono ?_); rintro _ v4 ⟨rfl, b4⟩; have B4 : Below W0.heap.size W0 v4 := B3.stepL b4 B3.size; have c4 := SE.out _ B4)
              | (go_at_call 72; go_loud (refine (KR _ B4).mono ?_); rintro _ v5 ⟨ov, rfl, O5, b5⟩; have B5 : Below W0.heap.size W0 v5 := B4.stepL b5 B4.size; have c5 := SE.out _ B5))
            have HO5 : Hid (v5.ownsRow v4.heap.size 5 1 ov rb.length (rb.map vb)) := O5
            have V5 := hV.below (W5.out _ b3 b4 b5)
            have H8 : Hid ((∃ V, TwoL v5 gs gh n V (fun i => if i < r + 1 then FL i else []) (fun i => if i < r + 1 then FH i else false)) ∧ Below W0.heap.size W0 v5) := by
              refine ⟨⟨_, V5.congr (fun i _ => ?_) (fun i _ => ?_)⟩, B5⟩
              · by_cases e : i = r
                · rw [if_neg (by omega), if_pos (by omega), e, eL]
                · by_cases e2 : i < r
                  · rw [if_pos e2, if_pos (by omega)]
                  · rw [if_neg e2, if_neg (by omega)]
              · by_cases e : i = r
                · rw [if_neg (by omega), if_pos (by omega), e, eF]
                · by_cases e2 : i < r
                  · rw [if_pos e2, if_pos (by omega)]
                  · rw [if_neg e2, if_neg (by omega)]
            obtain ⟨oa, oc, rfl⟩ := owns_form HO5.out
            clear c0 cD c3 c4 c5 b3 b4 O5 HO5 b5 B5 B3 B4 BD hV hB eF eL V5
            go_wp2
            go_roundw
            case rel => exact ⟨r + 1, by omega, by go_num, rfl, H8.out.1, H8.out.2, Or.inr ho'⟩
            case measure => simp [intOf]; omega
      · obtain rfl : r = n := by omega
        have hlt' : ¬ (r : Int) < (r : Int) := by omega
        have ho' : Hid (a.off = false) := hoff.resolve_left (by omega)
        have FV : Hid (∃ V, TwoL wr gs gh r V FL FH) := ⟨V, hV.congr (fun i hi => if_pos hi) (fun i hi => if_pos hi)⟩
        have FB : Hid (Below w.heap.size w wr) := FE.out _ hB
        clear hV hB hoff
        go_wp2
        try rw [Exit.noGoto_ret]
        refine bodyPost_ret (v := .tuple #[.slice (some ⟨gs, 0, none⟩) r r, .slice (some ⟨gh, 0, none⟩) r r, .int .i64 0]) (by simp [results, Tryz.results93, go_sem]) rfl ?_
        refine ⟨(fun q => by rw [ho'.out] at q; cases q), fun _ => ?_⟩
        obtain ⟨V', hV'⟩ := FV.out
        exact ⟨gs, gh, V', rfl, hV', by have := HL.out; omega, by have := HL.out; omega, FB.out⟩
end Go.Proofs.YtddnfhfangfgeaaGreat.Gf

namespace Go.Proofs.YtddnfhfangfgeaaGreat.Gf
set_option linter.unusedVariables false
set_option linter.unusedSimpArgs false
open Go.RowKit
theorem info_intP : (Tryz.prog.info? 3).map (fun i => (i.zero, i.size, i.bytes)) = some (some (.int .i64 0), 1, 8) := by kernel_rfl
set_option maxRecDepth 100000 in
set_option maxHeartbeats 4000000 in
theorem pbad_any {w : World} {ab : Nat} {GA : Nat → Prop} {a : ArS} (h : ArAt w ab GA a) {pf : Option Addr} {g : GeoS} (hg : g.Wf) {st ep : Int} (hst : (Lit.int .i64 st).wf = true) (hT : OkT g st ep) {gh n : Nat} {H : Nat → Bool} (hr : w.rowIs gh 4 n (fun i => .bool (H i))) (hn : n = nT g) :
    Calls Tryz.prog 95 #[aggP (some ⟨ab, 0, none⟩) pf g st ep, .slice (some ⟨gh, 0, none⟩) n n] w fun e w' => ∃ v, e = .returned v ∧ OwnI w' w.heap.size 3 v (plc (fun i => !H i && lvT a (diG g st (i : Int))) n) ∧ Below w.heap.size w w' := by
  obtain ⟨i0, hi, hz0, hz1, hz2⟩ := info_parts info_intP
  have zz := okG_nat hT.1
  have n1 : 1 ≤ n ∧ n ≤ 32 := by rw [hn]; exact ⟨nT_pos hT.1, zz.2.2.2.2.1⟩
  have KD := fun W (i : Nat) (hi : i < n) => @pdisk_any W (some ⟨ab, 0, none⟩) pf g st ep hg hst (i : Int) (wf_small (by omega) (by omega)) _ rfl
  have DI : Hid (∀ i : Nat, i < n → 0 ≤ diG g st (i : Int) ∧ diG g st (i : Int) ≤ 100000) := fun i hi => by
    rw [hn] at hi
    have := diG_in hT.1 hT.2.1 hT.2.2.1 hi
    have := zz.2.2.2.2.1
    omega
  obtain ⟨FF, hFF⟩ : ∃ F : Nat → Bool, Hid (F = fun i => !H i && lvT a (diG g st (i : Int))) := ⟨_, rfl⟩
  rw [← hFF.out]
  have HFF : Hid (∀ i : Nat, FF i = (!H i && lvT a (diG g st (i : Int)))) := fun i => by rw [hFF.out]
  have KL := fun W (hA : ArAt W ab GA a) => alive_any hA
  obtain ⟨N, hN⟩ : ∃ N, Hid (N = a.D.length) := ⟨_, rfl⟩
  have HLv : Hid (∀ d : Int, 0 ≤ d → lvT a d = (decide (d < (N : Int)) && !(a.D.getD d.toNat default).dead)) := fun d hd => by rw [hN.out]; exact lv_at hd
  rw [← hN.out] at KL
  have HA : Hid (ArAt w ab GA a) := h
  have HR : Hid (w.rowIs gh 4 n (fun i => .bool (H i))) := hr
  clear zz hT hn hFF h hr
  obtain ⟨k, m, z, s, t, o⟩ := g
  have LB := spot_laid w (some ⟨ab, 0, none⟩) pf ⟨k, m, z, s, t, o⟩ st ep 103
  unfold aggP at KD ⊢
  simp only [cellsP] at KD LB ⊢
  obtain ⟨W0, hW0⟩ : ∃ W0, W0 = w.alloc (.cells #[.pointer (some ⟨ab, 0, none⟩), .pointer pf, .int .i64 k, .int .i64 m, .int .i64 z, .int .i64 s, .int .i64 t, .int .i64 o, .int .i64 st, .int .i64 ep] 103) := ⟨_, rfl⟩
  rw [← hW0] at LB
  obtain ⟨x0, x1, x2, x3, x4, x5, x6, x7, x8, x9⟩ := (LB _ (Below.refl _ _)).1.all
  simp only at x0 x1 x2 x3 x4 x5 x6 x7 x8 x9
  have K1 := KL W0 (HA.out.below (LB _ (Below.refl _ _)).2)
  go_enter Tryz.func95, Tryz.ntmps95
  go_wp2_with fail
  rw [← hW0]
  clear hW0
  refine K1.mono ?_
  rintro _ v1 ⟨gl, rfl, rl, hgl, b1⟩
  have B1 : Hid (Below W0.heap.size W0 v1) := b1
  have RL : Hid (v1.rowIs gl 4 N (fun i => .bool (!(a.D.getD i default).dead))) := rl
  have R1 : Hid (v1.rowIs gh 4 n (fun i => .bool (H i))) := HR.out.of_block ((LB _ b1).2.block gh HR.out.lt)
  have SE : Hid (∀ W, Below v1.heap.size v1 W → SpotAt W w.heap.size (some ⟨ab, 0, none⟩) pf ⟨k, m, z, s, t, o⟩ st ep) := fun W b => (LB W (b1.stepL b b1.size)).1
  have FE : Hid (∀ W, Below v1.heap.size v1 W → Below w.heap.size w W) := fun W b => (LB W (b1.stepL b b1.size)).2
  clear x0 x1 x2 x3 x4 x5 x6 x7 x8 x9 K1 KL rl b1 hgl LB
  go_wp2
  go_loopw [6, 15] (fun sv i wr => ∃ r : Nat, r ≤ n ∧ i = .int .i64 (r : Int) ∧ OwnI wr v1.heap.size 3 sv (plc FF r) ∧ Below v1.heap.size v1 wr) (fun _ i _ => n - (intOf i).toNat)
  case atStart => exact ⟨0, Nat.zero_le _, rfl, OwnI.nil _ _ _, Below.refl _ _⟩
  case round =>
    obtain ⟨r, hr, rfl, hO, hB⟩ := hrel
    obtain ⟨BL, hBL⟩ : ∃ BL, Hid (BL = plc FF r) := ⟨_, rfl⟩
    rw [← hBL.out] at hO
    obtain ⟨ba, bc, rfl⟩ := hO.form
    by_cases hlt : r < n
    · have hlt' : (r : Int) < (n : Int) := by omega
      have g1 : IntKind.i64.wrap ((r : Int) + 1) = ((r + 1 : Nat) : Int) := by rw [IntKind.wrap_i64]; omega
      have hbl : Hid (BL.length ≤ 100000) := by
        show _ ≤ _
        rw [hBL.out, plc_length]
        have := cnt_le FF r
        omega
      have ch := (R1.out.of_block (hB.block gh R1.out.lt)).cell hlt
      obtain ⟨dd, hdd⟩ : ∃ dd : Nat, Hid ((dd : Int) = diG ⟨k, m, z, s, t, o⟩ st (r : Int)) := ⟨(diG ⟨k, m, z, s, t, o⟩ st (r : Int)).toNat, by show _ = _; have := DI.out r hlt; omega⟩
      have KD1 := fun W => KD W r hlt
      rw [← hdd.out] at KD1
      have hF := HFF.out r
      rw [← hdd.out, HLv.out _ (by omega), Int.toNat_natCast] at hF
      have P1 : Hid (plc FF (r + 1) = BL ++ (if FF r then [r] else [])) := by show _ = _; rw [plc_succ, ← hBL.out]
      obtain ⟨x0, x1, x2, x3, x4, x5, x6, x7, x8, x9⟩ := (SE.out _ hB).all
      simp only at x0 x1 x2 x3 x4 x5 x6 x7 x8 x9
      have DONE : Hid (∀ W, FF r = false → Below wr.heap.size wr W → OwnI W v1.heap.size 3 (.slice ba BL.length bc) (plc FF (r + 1)) ∧ Below v1.heap.size v1 W) := fun W e b => by
        rw [P1.out, e]
        refine ⟨?_, hB.stepL b hB.size⟩
        have := owns_later hO b
        rw [show BL ++ (if false = true then [r] else []) = BL by simp]
        exact this
      cases hH : H r with
      | true =>
        rw [hH] at ch hF
        have e0 : FF r = false := by rw [hF]; rfl
        have D0 := fun W => DONE.out W e0
        clear hF e0 DONE P1 hO hH
        go_wp2_with fail
        refine (KD1 _).mono ?_
        rintro _ v3 ⟨rfl, b3⟩
        have E3 : Hid _ := D0 _ b3
        clear D0 b3 KD1 x0 x1 x2 x3 x4 x5 x6 x7 x8 x9 ch hB
        go_wp2
        go_roundw
        case rel => exact ⟨r + 1, by omega, by go_num, E3.out.1, E3.out.2⟩
        case measure => simp [intOf]; omega
      | false =>
        rw [hH] at ch hF
        by_cases hd : dd < N
        · have hd' : (dd : Int) < (N : Int) := by omega
          rw [decide_eq_true hd'] at hF
          cases hx : (a.D.getD dd default).dead with
          | true =>
            rw [hx] at hF
            have e0 : FF r = false := by rw [hF]; rfl
            have D0 := fun W => DONE.out W e0
            have CL : Hid (∀ W, Below wr.heap.size wr W → W.cell? ⟨gl, dd, none⟩ = some (.bool false)) := fun W b => by
              have := ((RL.out.of_block (hB.block gl RL.out.lt)).of_block (b.block gl (RL.out.of_block (hB.block gl RL.out.lt)).lt)).cell hd
              rw [hx] at this
              exact this
            clear hF e0 DONE P1 hO hH hx
            go_wp2_with fail
            refine (KD1 _).mono ?_
            rintro _ v3 ⟨rfl, b3⟩
            have E3 : Hid _ := D0 _ b3
            have cl := CL.out _ b3
            clear D0 b3 KD1 x0 x1 x2 x3 x4 x5 x6 x7 x8 x9 ch hB CL
            go_wp2
            go_roundw
            case rel => exact ⟨r + 1, by omega, by go_num, E3.out.1, E3.out.2⟩
            case measure => simp [intOf]; omega
          | false =>
            rw [hx] at hF
            have e0 : FF r = true := by rw [hF]; rfl
            have P2 : Hid (plc FF (r + 1) = BL ++ [r]) := by show _ = _; rw [P1.out, e0]; rfl
            have CL : Hid (∀ W, Below wr.heap.size wr W → W.cell? ⟨gl, dd, none⟩ = some (.bool true)) := fun W b => by
              have := ((RL.out.of_block (hB.block gl RL.out.lt)).of_block (b.block gl (RL.out.of_block (hB.block gl RL.out.lt)).lt)).cell hd
              rw [hx] at this
              exact this
            clear hF e0 DONE P1 hH hx
            go_wp2_with fail
            refine (KD1 _).mono ?_
            rintro _ v3 ⟨rfl, b3⟩
            have cl := CL.out _ b3
            have O3 := hO.later b3
            have B3 : Below v1.heap.size v1 v3 := hB.stepL b3 hB.size
            have h3 := B3.size
            clear b3 KD1 x0 x1 x2 x3 x4 x5 x6 x7 x8 x9 ch hB CL hO
            go_wp2_with (at_builtin; go_loud (refine wpList_append_int rfl (.tmp 37) (.tmp 39) 45 rfl v1.heap.size 3 i0 Tryz.underlying45 hi hz0 hz1 hz2 (.slice ba BL.length bc) BL rfl O3 r _ 1 rfl hbl.out h3 ?_); intro v9 w9 h9 b9)
            have E3 : Hid (OwnI w9 v1.heap.size 3 v9 (plc FF (r + 1)) ∧ Below v1.heap.size v1 w9) := by
              refine ⟨?_, B3.trans b9⟩
              rw [P2.out]; exact h9
            clear h9 b9 O3 B3 cl
            go_wp2
            go_roundw
            case rel => exact ⟨r + 1, by omega, by go_num, E3.out.1, E3.out.2⟩
            case measure => simp [intOf]; omega
        · have hd' : ¬ (dd : Int) < (N : Int) := by omega
          rw [decide_eq_false hd'] at hF
          have e0 : FF r = false := by rw [hF]; rfl
          have D0 := fun W => DONE.out W e0
          clear hF e0 DONE P1 hO hH
          go_wp2_with fail
          refine (KD1 _).mono ?_
          rintro _ v3 ⟨rfl, b3⟩
          have E3 : Hid _ := D0 _ b3
          clear D0 b3 KD1 x0 x1 x2 x3 x4 x5 x6 x7 x8 x9 ch hB
          go_wp2
          go_roundw
          case rel => exact ⟨r + 1, by omega, by go_num, E3.out.1, E3.out.2⟩
          case measure => simp [intOf]; omega
    · obtain rfl : r = n := by omega
      have hlt' : ¬ (r : Int) < (r : Int) := by omega
      have FO : Hid (OwnI wr w.heap.size 3 (.slice ba BL.length bc) (plc FF r)) := by
        show OwnI _ _ _ _ _
        rw [← hBL.out]
        exact ownsRow_base hO (FE.out _ (Below.refl _ _)).size
      have FB : Hid (Below w.heap.size w wr) := FE.out _ hB
      clear hO hB
      go_wp2
      go_ret
      exact ⟨_, rfl, FO.out, FB.out⟩
end Go.Proofs.YtddnfhfangfgeaaGreat.Gf

namespace Go.Proofs.YtddnfhfangfgeaaGreat.Gf
set_option linter.unusedVariables false
set_option linter.unusedSimpArgs false
theorem norm_length (p : List UInt8) : (norm p).length = deg (co p) p.length := mk_length _ _
theorem norm_length_le (p : List UInt8) : (norm p).length ≤ p.length := by rw [norm_length]; exact deg_le _ _
theorem norm_norm (p : List UInt8) : norm (norm p) = norm p := norm_mk (co_fin p)
theorem mulP_length_le (p q : List UInt8) : (mulP p q).length ≤ p.length + q.length := by rw [mulP, mk_length]; exact deg_le _ _
theorem mulP_comm (p q : List UInt8) : mulP p q = mulP q p := mk_ext (fin_conv _ _) (fin_conv _ _) (conv_comm _ _)
theorem mulP_length (p q : List UInt8) : (mulP p q).length = if (norm p).length = 0 ∨ (norm q).length = 0 then 0 else (norm p).length + (norm q).length - 1 := by
  rw [mulP, mk_length, norm_length, norm_length]
  exact deg_conv (co_fin p) (co_fin q) (fin_conv p q)
end Go.Proofs.YtddnfhfangfgeaaGreat.Gf

namespace Go.Proofs.YtddnfhfangfgeaaGreat.Gf
set_option linter.unusedVariables false
set_option linter.unusedSimpArgs false
open Go.RowKit
theorem topg_step {f : Nat → UInt8} {k : Nat} (hk : 0 < k) (h : f (k - 1) = 0) : deg f k = deg f (k - 1) := by
  obtain ⟨j, rfl⟩ : ∃ j, k = j + 1 := ⟨k - 1, by omega⟩
  rw [Nat.add_sub_cancel] at h ⊢
  rw [deg, if_pos h]
theorem topg_stop {f : Nat → UInt8} {k : Nat} (h : k = 0 ∨ f (k - 1) ≠ 0) : deg f k = k := by
  match k, h with
  | 0, _ => rfl
  | j + 1, h =>
    rw [Nat.add_sub_cancel] at h
    rw [deg, if_neg (by simpa using h)]
def lenV : Value → Nat
  | .slice _ n _ => n
  | _ => 0
set_option maxRecDepth 100000 in
set_option maxHeartbeats 1000000 in
theorem top_main (b off c : Nat) (p : List UInt8) (w : World) (hl : p.length ≤ 140737488355328) (hm : p.length ≤ c) (hcm : c ≤ maxLen)
    (hp : ∀ i, i < p.length → w.cell? ⟨b, off + i, none⟩ = some (.int .u8 ((co p i).toNat : Nat))) :
    Calls Tryz.prog 202 #[.slice (some ⟨b, off, none⟩) p.length c] w fun e w' => e = .returned (.slice (some ⟨b, off, none⟩) (norm p).length c) ∧ w' = w := by
  unfold maxLen at hcm
  go_enter Tryz.func202, Tryz.ntmps202
  go_wp2
  go_loop [0] (fun v => ∃ k : Nat, k ≤ p.length ∧ v = .slice (some ⟨b, off, none⟩) k c ∧ Hid (deg (co p) p.length = deg (co p) k)) (fun v => lenV v)
  case atStart => exact ⟨p.length, Nat.le_refl _, rfl, rfl⟩
  case round =>
    obtain ⟨k, hk, rfl, hd⟩ := hrel
    by_cases hgo : 0 < k ∧ co p (k - 1) = 0
    · obtain ⟨h0, hz⟩ := hgo
      have c1 : w.cell? ⟨b, off + (k - 1), none⟩ = some (.int .u8 0) := by rw [hp (k - 1) (by omega), hz]; rfl
      have HD : Hid (deg (co p) p.length = deg (co p) (k - 1)) := by show _ = _; rw [hd.out]; exact topg_step h0 hz
      clear hz hd
      go_wp2
      go_round
      case rel => exact ⟨k - 1, by omega, by go_num, HD⟩
      case measure => simp [lenV]; omega
    · have hstop : k = 0 ∨ co p (k - 1) ≠ 0 := by
        by_cases h0 : k = 0
        · exact Or.inl h0
        · exact Or.inr (fun h => hgo ⟨by omega, h⟩)
      have HK : Hid ((norm p).length = k) := by show _ = _; rw [norm_length, hd.out]; exact topg_stop hstop
      clear hd hgo
      by_cases h0 : k = 0
      · subst h0
        clear hp hstop
        go_wp2
        go_ret
        exact ⟨by rw [HK.out]; rfl, rfl⟩
      · have hne := hstop.resolve_left h0
        have c1 := hp (k - 1) (by omega)
        have c2 : ((((co p (k - 1)).toNat : Nat) : Int) == 0) = false := by rw [eq_u8_zero]; simpa using hne
        clear hne hstop hp
        go_wp2
        go_ret
        exact ⟨by rw [HK.out]; rfl, rfl⟩
set_option maxRecDepth 100000 in
set_option maxHeartbeats 1000000 in
theorem top_nil (ao : Option Addr) (c : Nat) (w : World) :
    Calls Tryz.prog 202 #[.slice ao 0 c] w fun e w' => e = .returned (.slice ao 0 c) ∧ w' = w := by
  go_enter Tryz.func202, Tryz.ntmps202
  go_wp2
  go_loop [0] (fun v => v = .slice ao 0 c) (fun v => 0)
  case atStart => rfl
  case round =>
    subst hrel
    go_wp2
    go_ret
    exact ⟨rfl, rfl⟩
theorem Rd.n {w : World} {ao : Option Addr} {n c : Nat} {p : List UInt8} (h : Rd w (.slice ao n c) p) : n = p.length := by
  obtain ⟨a, c', e⟩ := h.form
  simp at e
  exact e.2.1
/-- A slice, and the first numbers of it. -/
theorem Rd.part {w : World} {ao : Option Addr} {n c : Nat} {p : List UInt8} (h : Rd w (.slice ao n c) p) : Rd w (.slice ao (norm p).length c) (norm p) := by
  by_cases h0 : norm p = []
  · rw [h0]
    rcases h with ⟨a, c', e1, e2, hc, hn⟩ | ⟨b, off, c', hp0, e2, h1, h2, h3, hpc⟩
    · simp at e2; obtain ⟨rfl, _, rfl⟩ := e2
      exact Or.inl ⟨_, _, rfl, rfl, hc, hn⟩
    · simp at e2; obtain ⟨rfl, rfl, rfl⟩ := e2
      exact Or.inl ⟨_, _, rfl, rfl, h2, fun h => by cases h⟩
  · have hle := norm_length_le p
    rcases h with ⟨a, c', e1, e2, hc, hn⟩ | ⟨b, off, c', hp0, e2, h1, h2, h3, hpc⟩
    · subst e1; exact absurd rfl h0
    · simp at e2; obtain ⟨rfl, rfl, rfl⟩ := e2
      exact Or.inr ⟨b, off, _, h0, rfl, Nat.le_trans hle h1, h2, h3, fun i hi => by rw [co_norm]; exact hpc i (Nat.lt_of_lt_of_le hi hle)⟩
theorem top_any {ao : Option Addr} {n c : Nat} {p : List UInt8} {w : World} (hp : Rd w (.slice ao n c) p) (hl : p.length ≤ 140737488355328) :
    Calls Tryz.prog 202 #[.slice ao n c] w fun e w' => e = .returned (.slice ao (norm p).length c) ∧ w' = w := by
  have hn := hp.n
  subst hn
  rcases hp with ⟨a, c', rfl, e2, hc, hn⟩ | ⟨b, off, c', hp0, e2, h1, h2, h3, hpc⟩
  · exact top_nil ao c w
  · simp at e2; obtain ⟨rfl, rfl⟩ := e2
    exact top_main b off _ p w hl h1 h2 hpc
end Go.Proofs.YtddnfhfangfgeaaGreat.Gf

namespace Go.Proofs.YtddnfhfangfgeaaGreat.Gf
set_option linter.unusedVariables false
set_option linter.unusedSimpArgs false
open Go.RowKit
theorem rd_nil_any {w : World} : Rd w (.slice none 0 0) [] := Or.inl ⟨none, 0, rfl, rfl, Nat.zero_le _, fun _ => rfl⟩
theorem fmu_at {b : Nat} {w : World} (hF : FieldAt w b) (a c : UInt8) {x y : Int} (hx : x = ((a.toNat : Nat) : Int)) (hy : y = ((c.toNat : Nat) : Int)) :
    Calls Tryz.prog 188 #[.pointer (some ⟨b, 0, none⟩), .int .u8 x, .int .u8 y] w fun e w' => e = .returned (.int .u8 ((mu a c).toNat : Nat)) ∧ Below w.heap.size w w' := by
  rw [mu_toNat]
  exact (mul_at hF a.toNat c.toNat hx hy (u8_lt a) (u8_lt c)).mono fun e w' ⟨he, n, hw⟩ => ⟨he, by rw [hw]; exact below_draws w n⟩
end Go.Proofs.YtddnfhfangfgeaaGreat.Gf

namespace Go.Proofs.YtddnfhfangfgeaaGreat.Gf
set_option linter.unusedVariables false
set_option linter.unusedSimpArgs false
open Go.RowKit
theorem pder_even {f : Nat → UInt8} {k : Nat} (h : k % 2 = 0) : der f k = f (k + 1) := by unfold der od; rw [if_pos (by omega)]
theorem pder_odd {f : Nat → UInt8} {k : Nat} (h : k % 2 = 1) : der f k = 0 := by unfold der od; rw [if_neg (by omega)]
/-- the first k numbers of a derivative -/
def dk (f : Nat → UInt8) (k t : Nat) : UInt8 := if t < k then der f t else 0
theorem dk_zero (f : Nat → UInt8) (t : Nat) : dk f 0 t = 0 := if_neg (by omega)
theorem dk_even {f : Nat → UInt8} {k : Nat} (h : k % 2 = 0) (t : Nat) : dk f (k + 1) t = if t = k then f (k + 1) else dk f k t := by
  unfold dk
  by_cases e : t = k
  · subst e; rw [if_pos (by omega), if_pos rfl, pder_even h]
  · rw [if_neg e]
    by_cases h2 : t < k
    · rw [if_pos h2, if_pos (by omega)]
    · rw [if_neg h2, if_neg (by omega)]
theorem dk_odd {f : Nat → UInt8} {k : Nat} (h : k % 2 = 1) : dk f (k + 1) = dk f k := by
  funext t
  unfold dk
  by_cases e : t = k
  · subst e; rw [if_pos (by omega), if_neg (by omega), pder_odd h]
  · by_cases h2 : t < k
    · rw [if_pos h2, if_pos (by omega)]
    · rw [if_neg h2, if_neg (by omega)]
set_option maxRecDepth 100000 in
set_option maxHeartbeats 1000000 in
theorem pderiv_nil (a : Option Addr) (c : Nat) (w : World) :
    Calls Tryz.prog 172 #[.slice a 0 c] w fun e w' => e = .returned (.slice none 0 0) ∧ w' = w := by
  go_enter Tryz.func172, Tryz.ntmps172
  go_wp2
  go_ret
  exact ⟨rfl, rfl⟩
set_option maxRecDepth 100000 in
set_option maxHeartbeats 1000000 in
theorem pderiv_main (b off c : Nat) (p : List UInt8) (w : World) (hp0 : p ≠ []) (hl : p.length ≤ 1000000) (hb : b < w.heap.size)
    (hpc : ∀ i, i < p.length → w.cell? ⟨b, off + i, none⟩ = some (.int .u8 ((co p i).toNat : Nat))) :
    Calls Tryz.prog 172 #[.slice (some ⟨b, off, none⟩) p.length c] w (Makes w (derP p)) := by
  obtain ⟨i0, hi, hz0, hz1, hz2⟩ := info_parts info_u8
  obtain ⟨n, hn⟩ : ∃ n, p.length = n + 1 := ⟨p.length - 1, by have := List.length_pos_iff.2 hp0; omega⟩
  have HN : Hid (norm (upto (der (co p)) n) = derP p) := norm_upto (by have := (co_fin p).der; rw [hn] at this; exact this) (fin_der p)
  have HU : Hid ((upto (der (co p)) n).length = n) := upto_length _ _
  rw [hn] at hpc hl
  simp only [hn]
  clear hp0 hn
  have hnz : (((n : Int) + 1) == 0) = false := by simp; omega
  go_enter Tryz.func172, Tryz.ntmps172
  go_wp2_with (at_make; go_loud (refine wpList_make_full _ rfl (.tmp 10) (.tmp 10) 36 rfl w.heap.size 5 i0 (.int .u8 0) 1 Tryz.underlying36 hi hz0 hz1 _ _ _ _ n rfl rfl (by omega) (by omega) (by rw [hz2]; omega) (by unfold maxLen; omega) (Nat.le_refl _) ?_); intro w1 hown1 hgrow1)
  have R1 := RowF.made hown1
  have B1 : Below w.heap.size w w1 := (Below.refl _ _).grown hgrow1 (Nat.le_refl _) (fun k h => by cases h)
  clear hown1 hgrow1
  go_loopw [14] (fun i wr => ∃ k : Nat, k ≤ n ∧ i = .int .i64 k ∧ RowF wr w.heap.size 5 w.heap.size n n (dk (co p) k) ∧ Below w.heap.size w wr) (fun i _ => n - (intOf i).toNat)
  case atStart => exact ⟨0, by omega, rfl, R1.congr (fun t _ => (dk_zero _ t).symm), B1⟩
  case round =>
    obtain ⟨k, hk, rfl, hR, hB⟩ := hrel
    clear R1 B1
    by_cases hlt : k < n
    · by_cases hev : k % 2 = 0
      · have c1 : wr.cell? ⟨b, off + (k + 1), none⟩ = some (.int .u8 (((co p (k + 1)).toNat : Nat) : Int)) := (hB.cell (p := ⟨b, off + (k + 1), none⟩) hb).trans (hpc (k + 1) (by omega))
        have c2 := hR.cell hlt
        have f1 := hR.unfrozen k
        have N1 : Hid _ := hR.store hlt (co p (k + 1)) (dk_even hev)
        have N2 : Hid _ := hB.setCell (p := ⟨w.heap.size, k, none⟩) (Nat.le_refl _) (.int .u8 (((co p (k + 1)).toNat : Nat) : Int))
        clear hpc hR hB
        go_wp2
        go_roundw
        case rel => exact ⟨k + 1, by omega, by go_num, N1.out, N2.out⟩
        case measure => simp [intOf]; omega
      · have hev2 : k % 2 = 1 := by omega
        have N1 : Hid (RowF wr w.heap.size 5 w.heap.size n n (dk (co p) (k + 1))) := by rw [dk_odd hev2]; exact hR
        clear hpc hR
        go_wp2
        go_roundw
        case rel => exact ⟨k + 1, by omega, by go_num, N1.out, hB⟩
        case measure => simp [intOf]; omega
    · have e : k = n := by omega
      subst e
      have hR2 : RowF wr w.heap.size 5 w.heap.size k k (der (co p)) := hR.congr (fun t ht => if_pos ht)
      have hRd := hR2.rd
      have hRN := hRd.part
      clear hR hR2 hpc
      go_wp2_with fail
      refine (top_any hRd (by rw [HU.out]; omega)).mono ?_
      rintro e w'' ⟨rfl, rfl⟩
      go_wp2
      go_ret
      rw [← HN.out]
      exact ⟨_, rfl, hRN, hB⟩
theorem pderiv_any {v : Value} {p : List UInt8} {w : World} (hp : Rd w v p) (hl : p.length ≤ 400000) :
    Calls Tryz.prog 172 #[v] w (Makes w (derP p)) := by
  rcases hp with ⟨a, c, rfl, rfl, hc, hn⟩ | ⟨b, off, c, hp0, rfl, h1, h2, h3, hpc⟩
  · refine (pderiv_nil a c w).mono ?_
    rintro e w' ⟨rfl, rfl⟩
    exact ⟨_, rfl, rd_nil_any, Below.refl _ _⟩
  · exact pderiv_main b off c p w hp0 (by omega) h3 hpc
/-- A value by Horner's rule: the last k numbers. -/
def hor (p : Nat → UInt8) (x : UInt8) (n k : Nat) : UInt8 := ev k (fun i => p (n - k + i)) x
theorem hor_step (p : Nat → UInt8) (x : UInt8) (n k : Nat) (h : k < n) : hor p x n (k + 1) = mu (hor p x n k) x ^^^ p (n - 1 - k) := by
  unfold hor ev
  rw [S_head, S_mu, x_comm]
  congr 1
  · refine S_congr fun i hi => ?_
    rw [pwr, mu_assoc]
    show mu (p (n - (k + 1) + (i + 1))) _ = mu (p (n - k + i)) _
    rw [show n - (k + 1) + (i + 1) = n - k + i by omega]
  · rw [pwr, mu_one]
    show p (n - (k + 1) + 0) = _
    rw [show n - (k + 1) + 0 = n - 1 - k by omega]
theorem hor_all (p : List UInt8) (x : UInt8) : hor (co p) x p.length p.length = evP p x := by
  unfold hor evP ev
  refine S_congr fun i _ => ?_
  show mu (co p (p.length - p.length + i)) _ = _
  rw [Nat.sub_self, Nat.zero_add]
set_option maxRecDepth 100000 in
set_option maxHeartbeats 1000000 in
theorem peval_quiet {b : Nat} {v : Value} {p : List UInt8} {w : World} (hF : FieldAt w b) (hp : Rd w v p) (x : UInt8) {y : Int} (hy : y = ((x.toNat : Nat) : Int)) (hl : p.length ≤ 400000) :
    Calls Tryz.prog 199 #[.pointer (some ⟨b, 0, none⟩), v, .int .u8 y] w fun e w' => e = .returned (.int .u8 ((evP p x).toNat : Nat)) ∧ ∃ n, w' = w.drewN n := by
  subst hy
  rcases hp with ⟨a, c, rfl, rfl, hc, hn⟩ | ⟨bb, off, c, hp0, rfl, h1, h2, h3, hpc⟩
  · have e : evP [] x = 0 := rfl
    have E : Hid _ := e
    clear e
    go_enter Tryz.func199, Tryz.ntmps199
    go_wp2
    go_loop [7, 13] (fun o i => o = .int .u8 0 ∧ i = .int .i64 0) (fun _ _ => 0)
    case atStart => exact ⟨rfl, rfl⟩
    case round =>
      obtain ⟨rfl, rfl⟩ := hrel
      go_wp2
      go_ret
      exact ⟨by rw [E.out]; rfl, 0, rfl⟩
  · have HE : Hid _ := hor_all p x
    clear hp0
    go_enter Tryz.func199, Tryz.ntmps199
    go_wp2
    go_loopw [7, 13] (fun o i wr => ∃ k : Nat, k ≤ p.length ∧ i = .int .i64 k ∧ o = .int .u8 ((hor (co p) x p.length k).toNat : Nat) ∧ ∃ d, Hid (wr = w.drewN d)) (fun _ i _ => p.length - (intOf i).toNat)
    case atStart => exact ⟨0, by omega, rfl, rfl, 0, rfl⟩
    case round =>
      obtain ⟨k, hk, rfl, rfl, d, hd⟩ := hrel
      by_cases hlt : k < p.length
      · have c1 : wr.cell? ⟨bb, off + (p.length - 1 - k), none⟩ = some (.int .u8 ((co p (p.length - 1 - k)).toNat : Nat)) := by rw [hd.out]; exact hpc (p.length - 1 - k) (by omega)
        obtain ⟨t, ht⟩ : ∃ t, t = p.length - 1 - k := ⟨_, rfl⟩
        have hx : bits .xor .u8 (((mu (hor (co p) x p.length k) x).toNat : Nat) : Int) (((co p t).toNat : Nat) : Int) = (((hor (co p) x p.length (k + 1)).toNat : Nat) : Int) := by
          rw [hor_step _ _ _ _ hlt, ← ht]; exact xor_u8 _ _
        have HX : Hid _ := hx
        rw [← ht] at c1
        clear hpc
        have g0 : (p.length : Int) - 1 - (k : Int) = (t : Int) := by omega
        have htl : t < p.length := by omega
        have gw1 : IntKind.i64.wrap ((p.length : Int) - 1) = (p.length : Int) - 1 := by rw [IntKind.wrap_i64]; omega
        have gw3 : IntKind.i64.wrap (t : Int) = (t : Int) := by rw [IntKind.wrap_i64]; omega
        have g1 : (t : Int) < (p.length : Int) := by omega
        clear ht
        have hFd : FieldAt wr b := by rw [hd.out]; exact hF.drewN d
        go_wp2
        go_quiet ((go_at_call 188; go_loud (exact Calls.quiet_of (fmu_quiet (hFd.drewN _) (hor (co p) x p.length k) x rfl rfl))))
        go_wp2
        go_roundw
        case rel => exact ⟨k + 1, by omega, by go_num, by first | exact congrArg _ HX.out | (rw [← HX.out, xor_u8]), _, by show _ = _; rw [hd.out, World.drewN_drewN]⟩
        case measure => simp [intOf]; omega
      · have e : k = p.length := by omega
        subst e
        clear hpc
        go_wp2
        go_ret
        exact ⟨by rw [← HE.out]; rfl, d, hd.out⟩
end Go.Proofs.YtddnfhfangfgeaaGreat.Gf

namespace Go.Proofs.YtddnfhfangfgeaaGreat.Gf
set_option linter.unusedVariables false
open Go.RowKit
set_option maxRecDepth 100000 in
theorem div_zero (b a : Nat) (w : World) (hF : FieldAt w b) :
    Calls Tryz.prog 201 #[.pointer (some ⟨b, 0, none⟩), .int .u8 a, .int .u8 0] w fun e w' => e = .returned (.tuple #[.int .u8 0, .int .i64 10]) ∧ ∃ n, w' = w.drewN n := by
  have e1 : powV 0 (-1) = 0 := rfl
  have e2 : powE 0 (-1) = 10 := rfl
  go_enter Tryz.func201, Tryz.ntmps201
  go_wp2_with (go_at_call 192; go_must (refine (inv_any b 0 _ hF (by omega)).mono ?_); rintro e w' ⟨rfl, nd, rfl⟩)
  go_ret2
  exact ⟨rfl, _, rfl⟩
set_option maxRecDepth 100000 in
theorem div_main (b a c : Nat) (w : World) (hF : FieldAt w b) (ha : a < 256) (hc : c < 256) (hc0 : c ≠ 0) :
    Calls Tryz.prog 201 #[.pointer (some ⟨b, 0, none⟩), .int .u8 a, .int .u8 c] w fun e w' => e = .returned (.tuple #[.int .u8 (mulS a (powV c (-1)) : Nat), .int .i64 0]) ∧ ∃ n, w' = w.drewN n := by
  have e2 : powE c (-1) = 0 := by simp [powE, hc0]
  have l : powV c (-1) < 256 := by unfold powV; rw [if_neg (by omega), if_neg hc0]; exact pw_lt _
  go_enter Tryz.func201, Tryz.ntmps201
  go_wp2_with (go_at_call 192; go_must (refine (inv_any b c _ hF hc).mono ?_); rintro e w' ⟨rfl, nd, rfl⟩)
  go_wp2_with (go_at_call 188; go_must (refine (mul_any b a _ _ (hF.drewN nd) ha l).mono ?_); rintro e w' ⟨rfl, nd2, rfl⟩)
  go_ret2
  exact ⟨rfl, _, rfl⟩
theorem div_at {b : Nat} {x y : Int} {w : World} (hF : FieldAt w b) (a c : Nat) (hx : x = a) (hy : y = c) (ha : a < 256) (hc : c < 256) (hc0 : c ≠ 0) :
    Calls Tryz.prog 201 #[.pointer (some ⟨b, 0, none⟩), .int .u8 x, .int .u8 y] w fun e w' => e = .returned (.tuple #[.int .u8 (mulS a (powV c (-1)) : Nat), .int .i64 0]) ∧ ∃ n, w' = w.drewN n := by
  subst hx hy; exact div_main b a c w hF ha hc hc0
theorem div_all {b : Nat} {x y : Int} {w : World} (hF : FieldAt w b) (a c : Nat) (hx : x = a) (hy : y = c) (ha : a < 256) (hc : c < 256) :
    Calls Tryz.prog 201 #[.pointer (some ⟨b, 0, none⟩), .int .u8 x, .int .u8 y] w fun e w' => e = .returned (.tuple #[.int .u8 (mulS a (invS c) : Nat), .int .i64 (zE c : Nat)]) ∧ ∃ n, w' = w.drewN n := by
  by_cases hc0 : c = 0
  · subst hc0 hx hy
    have e1 : mulS a (invS 0) = 0 := mulS_zero a
    rw [e1, zE_zero]
    exact div_zero b a w hF
  · rw [← powV_m1 c, zE_pos hc0]
    exact div_at hF a c hx hy ha hc hc0
end Go.Proofs.YtddnfhfangfgeaaGreat.Gf

