/- TEXTS JOINED: SeCA. -/
import Derived.Laws.BytesArg
import Derived.Test.YtclieefpnbdbjaaGreatTome5
import Derived.Test.YtclieefpnbdbjaaGreatTome2
namespace Go.Proofs.YtclieefpnbdbjaaGreat.Gf
set_option linter.unusedVariables false
set_option linter.unusedSimpArgs false
open Go.RowKit
theorem smay_any {n : Int} {w : World} : Calls Tryz.prog 152 #[.int .i64 n] w fun e w' => e = .returned (.bool (decide (0 ≤ n ∧ n ≤ 2147483647))) ∧ w' = w := by
  by_cases h0 : 0 ≤ n
  · have h0' : n ≥ 0 := h0
    by_cases h1 : n ≤ 2147483647
    · have E : decide (0 ≤ n ∧ n ≤ 2147483647) = true := decide_eq_true ⟨h0, h1⟩
      rw [E]
      clear E
      go_enter Tryz.func152, Tryz.ntmps152
      go_wp2
      go_ret
      exact ⟨rfl, rfl⟩
    · have E : decide (0 ≤ n ∧ n ≤ 2147483647) = false := decide_eq_false (by omega)
      rw [E]
      clear E
      go_enter Tryz.func152, Tryz.ntmps152
      go_wp2
      go_ret
      exact ⟨rfl, rfl⟩
  · have h0' : ¬ n ≥ 0 := h0
    have E : decide (0 ≤ n ∧ n ≤ 2147483647) = false := decide_eq_false (by omega)
    rw [E]
    clear E
    go_enter Tryz.func152, Tryz.ntmps152
    go_wp2
    go_ret
    exact ⟨rfl, rfl⟩
theorem info1_u8s : (Tryz.prog.info? 5).map (·.size) = some 1 := by
  obtain ⟨i0, hi, hz0, hz1, hz2⟩ := info_parts info_u8
  rw [hi]
  simp [hz1]
set_option maxRecDepth 100000 in
set_option maxHeartbeats 4000000 in
theorem slay_any {w : World} {lb bb g L k n base : Nat} {f : Nat → UInt8} {u : Int} (hu : u = (n : Int)) (c1 : w.cell? ⟨lb, 0, none⟩ = some (.int .i64 (k : Int))) (c2 : w.cell? ⟨bb, 0, none⟩ = some (.slice (some ⟨g, 0, none⟩) L L)) (fz : w.frozen? ⟨lb, 0, none⟩ = false) (hR : RowF w base 5 g L L f) (hk : k + 4 ≤ L) (hL : L ≤ 5000) (l1 : lb < w.heap.size) (l2 : bb < w.heap.size) (n1 : lb ≠ g) (n2 : bb ≠ g) (n3 : lb ≠ bb) :
    Calls Tryz.prog 153 #[.int .u32 u, .pointer (some ⟨lb, 0, none⟩), .pointer (some ⟨bb, 0, none⟩)] w fun e w' => e = .returned (.tuple #[]) ∧ w'.cell? ⟨lb, 0, none⟩ = some (.int .i64 ((k + 4 : Nat) : Int)) ∧ w'.cell? ⟨bb, 0, none⟩ = some (.slice (some ⟨g, 0, none⟩) L L) ∧ w'.frozen? ⟨lb, 0, none⟩ = false ∧ RowF w' base 5 g L L (putAt f k 4 (co (fo n))) ∧ TurnL [lb, g] w w' := by
  subst hu
  obtain ⟨x0, hx0⟩ : ∃ x, Hid (x = UInt8.ofNat (n / 16777216)) := ⟨_, rfl⟩
  obtain ⟨x1, hx1⟩ : ∃ x, Hid (x = UInt8.ofNat (n / 65536)) := ⟨_, rfl⟩
  obtain ⟨x2, hx2⟩ : ∃ x, Hid (x = UInt8.ofNat (n / 256)) := ⟨_, rfl⟩
  obtain ⟨x3, hx3⟩ : ∃ x, Hid (x = UInt8.ofNat n) := ⟨_, rfl⟩
  have q0 : IntKind.u8.wrap ((n : Int) / 16777216) = ((x0.toNat : Nat) : Int) := by rw [hx0.out]; exact wrap_u8 (n / 16777216)
  have q1 : IntKind.u8.wrap ((n : Int) / 65536) = ((x1.toNat : Nat) : Int) := by rw [hx1.out]; exact wrap_u8 (n / 65536)
  have q2 : IntKind.u8.wrap ((n : Int) / 256) = ((x2.toNat : Nat) : Int) := by rw [hx2.out]; exact wrap_u8 (n / 256)
  have q3 : IntKind.u8.wrap (n : Int) = ((x3.toNat : Nat) : Int) := by rw [hx3.out]; exact wrap_u8 n
  have hF : Hid (fo n = [x0, x1, x2, x3]) := by show _ = _; rw [hx0.out, hx1.out, hx2.out, hx3.out]; rfl
  rw [hF.out]
  clear hF hx0 hx1 hx2 hx3
  have RL : Rd (w.drew.alloc (.cells #[.int .u8 ((x0.toNat : Nat) : Int), .int .u8 ((x1.toNat : Nat) : Int), .int .u8 ((x2.toNat : Nat) : Int), .int .u8 ((x3.toNat : Nat) : Int)] 5)) (.slice (some ⟨w.heap.size, 0, none⟩) 4 4) [x0, x1, x2, x3] := rd_lit (w := w.drew) [x0, x1, x2, x3] rfl rfl (by decide)
  have hfl : [x0, x1, x2, x3].length = 4 := rfl
  have RA : RowF (w.drew.alloc (.cells #[.int .u8 ((x0.toNat : Nat) : Int), .int .u8 ((x1.toNat : Nat) : Int), .int .u8 ((x2.toNat : Nat) : Int), .int .u8 ((x3.toNat : Nat) : Int)] 5)) base 5 g L L f := hR.later (((Below.refl _ _).drew).alloc (Nat.le_refl _) _)
  have c1a : ∀ o, (w.drew.alloc o).cell? ⟨lb, 0, none⟩ = some (.int .i64 (k : Int)) := fun o => (World.cell?_alloc_past _ _ _ l1).trans c1
  have c2a : ∀ o, (w.drew.alloc o).cell? ⟨bb, 0, none⟩ = some (.slice (some ⟨g, 0, none⟩) L L) := fun o => (World.cell?_alloc_past _ _ _ l2).trans c2
  have fza : ∀ o, (w.drew.alloc o).frozen? ⟨lb, 0, none⟩ = false := fun o => (((Below.refl w.heap.size w).drew.alloc (Nat.le_refl _) o).frozen (p := ⟨lb, 0, none⟩) l1).trans fz
  have hdl : 4 ≤ L - k := by omega
  obtain ⟨m, hm⟩ : ∃ m, Hid (m = k + 4) := ⟨_, rfl⟩
  rw [← hm.out]
  have g0 : (k : Int) + 4 = (m : Int) := by have := hm.out; omega
  have gw : IntKind.i64.wrap (m : Int) = (m : Int) := by rw [IntKind.wrap_i64]; have := hm.out; omega
  clear hm
  have g1 : (k : Int) ≤ (L : Int) := by omega
  have g2 : ¬ L = k := by omega
  have g3 : k < L := by omega
  have FIN : ∀ v3, Only g (w.drew.alloc (.cells #[.int .u8 ((x0.toNat : Nat) : Int), .int .u8 ((x1.toNat : Nat) : Int), .int .u8 ((x2.toNat : Nat) : Int), .int .u8 ((x3.toNat : Nat) : Int)] 5)) v3 → RowF v3 base 5 g L L (putAt f k 4 (co [x0, x1, x2, x3])) → Hid ((v3.setCell ⟨lb, 0, none⟩ (.int .i64 (m : Int))).cell? ⟨lb, 0, none⟩ = some (.int .i64 (m : Int)) ∧ (v3.setCell ⟨lb, 0, none⟩ (.int .i64 (m : Int))).cell? ⟨bb, 0, none⟩ = some (.slice (some ⟨g, 0, none⟩) L L) ∧ (v3.setCell ⟨lb, 0, none⟩ (.int .i64 (m : Int))).frozen? ⟨lb, 0, none⟩ = false ∧ RowF (v3.setCell ⟨lb, 0, none⟩ (.int .i64 (m : Int))) base 5 g L L (putAt f k 4 (co [x0, x1, x2, x3])) ∧ TurnL [lb, g] w (v3.setCell ⟨lb, 0, none⟩ (.int .i64 (m : Int)))) := by
    intro v3 O3 R3
    have c1v := (O3.cell (p := ⟨lb, 0, none⟩) n1).trans (c1a _)
    have c2v := (O3.cell (p := ⟨bb, 0, none⟩) n2).trans (c2a _)
    have fzv := (O3.frozen (p := ⟨lb, 0, none⟩) n1).trans (fza _)
    have OO := (Only.refl lb v3).setCell 0 (.int .i64 (m : Int))
    have T1 : TurnL [lb, g] w (w.drew.alloc (.cells #[.int .u8 ((x0.toNat : Nat) : Int), .int .u8 ((x1.toNat : Nat) : Int), .int .u8 ((x2.toNat : Nat) : Int), .int .u8 ((x3.toNat : Nat) : Int)] 5)) := Below.turnL (((Below.refl _ _).drew).alloc (Nat.le_refl _) _) _
    refine ⟨by simp [go_sem, c1v], (OO.cell (p := ⟨bb, 0, none⟩) n3.symm).trans c2v, by simp [go_sem, fzv], R3.only n1.symm OO, (T1.trans (O3.turnL (by simp))).trans (OO.turnL (by simp))⟩
  clear hR
  go_enter Tryz.func153, Tryz.ntmps153
  go_wp2
  -- REGION
  refine wp_region_held_drew (S := (fun wx => wx.cell? ⟨bb, 0, none⟩ = some (.slice (some ⟨g, 0, none⟩) L L))) (by kernel_rfl) ?_ (fun hHeld => ?_)
  · exact c2
  refine tkH 1 ?_
  refine tkH 4 ?_
  refine tkH 5 ?_
  refine tkH 6 ?_
  refine tkH 7 ?_
  refine tkH 8 ?_
  refine tkH 9 ?_
  refine tkH 10 ?_
  refine tkH 11 ?_
  refine tkH 12 ?_
  refine tkH 13 ?_
  refine tkH 14 ?_
  refine rtH 0 2 15 (fun K hK => ?_) (fun K hK => ?_) fun K hK => ?_
  · go_simp
    refine koH hK (by assumption) fun hHeld => ?_
    clear hK K
    refine rmH 2 15 (fun K hK => ?_) fun K hK => ?_
    · go_simp
      refine koH hK (by assumption) fun hHeld => ?_
      clear hK K
      refine tkH 3 ?_
      refine rnH 15 fun K hK => ?_
      go_simp
      refine koH hK (c2a _) fun hHeld => ?_
      clear hK K
      refine rnH 16 fun K hK => ?_
      refine step_copy_rd rfl (.tmp 7) (.tmp 19) 42 42 rfl 5 Tryz.underlying42 info1_u8s rfl rfl RL hfl hdl RA (by omega) ?_
      intro v3 O3 R3
      have c1v := (O3.cell (p := ⟨lb, 0, none⟩) n1).trans (c1a (.cells #[.int .u8 ((x0.toNat : Nat) : Int), .int .u8 ((x1.toNat : Nat) : Int), .int .u8 ((x2.toNat : Nat) : Int), .int .u8 ((x3.toNat : Nat) : Int)] 5))
      have c2v := (O3.cell (p := ⟨bb, 0, none⟩) n2).trans (c2a (.cells #[.int .u8 ((x0.toNat : Nat) : Int), .int .u8 ((x1.toNat : Nat) : Int), .int .u8 ((x2.toNat : Nat) : Int), .int .u8 ((x3.toNat : Nat) : Int)] 5))
      have fzv := (O3.frozen (p := ⟨lb, 0, none⟩) n1).trans (fza (.cells #[.int .u8 ((x0.toNat : Nat) : Int), .int .u8 ((x1.toNat : Nat) : Int), .int .u8 ((x2.toNat : Nat) : Int), .int .u8 ((x3.toNat : Nat) : Int)] 5))
      have FW := FIN v3 O3 R3
      clear FIN RL RA
      refine koH hK c2v fun hHeld => ?_
      clear hK K
      refine tkH 17 ?_
      refine rnH 18 fun K hK => ?_
      go_simp
      refine koH hK ((((Only.refl lb v3).setCell 0 _).cell (p := ⟨bb, 0, none⟩) n3.symm).trans c2v) fun hHeld => ?_
      clear hK K
      refine wpAnyH_done (by kernel_rfl) ?_ _
      try simp only [List.getElem_toArray, List.getElem_cons_succ, List.getElem_cons_zero, Act.put, List.setIfInBounds_toArray, List.set_cons_zero, List.set_cons_succ]
      clear c1v c2v fzv hHeld
      go_wp2
      go_end0
      exact ⟨rfl, FW.out⟩
    · go_simp
      refine koH hK (c2a _) fun hHeld => ?_
      clear hK K
      refine rnH 2 fun K hK => ?_
      go_simp
      refine koH hK (by assumption) fun hHeld => ?_
      clear hK K
      refine tkH 3 ?_
      refine rnH 16 fun K hK => ?_
      refine step_copy_rd rfl (.tmp 7) (.tmp 19) 42 42 rfl 5 Tryz.underlying42 info1_u8s rfl rfl RL hfl hdl RA (by omega) ?_
      intro v3 O3 R3
      have c1v := (O3.cell (p := ⟨lb, 0, none⟩) n1).trans (c1a (.cells #[.int .u8 ((x0.toNat : Nat) : Int), .int .u8 ((x1.toNat : Nat) : Int), .int .u8 ((x2.toNat : Nat) : Int), .int .u8 ((x3.toNat : Nat) : Int)] 5))
      have c2v := (O3.cell (p := ⟨bb, 0, none⟩) n2).trans (c2a (.cells #[.int .u8 ((x0.toNat : Nat) : Int), .int .u8 ((x1.toNat : Nat) : Int), .int .u8 ((x2.toNat : Nat) : Int), .int .u8 ((x3.toNat : Nat) : Int)] 5))
      have fzv := (O3.frozen (p := ⟨lb, 0, none⟩) n1).trans (fza (.cells #[.int .u8 ((x0.toNat : Nat) : Int), .int .u8 ((x1.toNat : Nat) : Int), .int .u8 ((x2.toNat : Nat) : Int), .int .u8 ((x3.toNat : Nat) : Int)] 5))
      have FW := FIN v3 O3 R3
      clear FIN RL RA
      refine koH hK c2v fun hHeld => ?_
      clear hK K
      refine tkH 17 ?_
      refine rnH 18 fun K hK => ?_
      go_simp
      refine koH hK ((((Only.refl lb v3).setCell 0 _).cell (p := ⟨bb, 0, none⟩) n3.symm).trans c2v) fun hHeld => ?_
      clear hK K
      refine wpAnyH_done (by kernel_rfl) ?_ _
      try simp only [List.getElem_toArray, List.getElem_cons_succ, List.getElem_cons_zero, Act.put, List.setIfInBounds_toArray, List.set_cons_zero, List.set_cons_succ]
      clear c1v c2v fzv hHeld
      go_wp2
      go_end0
      exact ⟨rfl, FW.out⟩
  · go_simp
    refine koH hK (by assumption) fun hHeld => ?_
    clear hK K
    refine tkH 3 ?_
    refine rmH 0 15 (fun K hK => ?_) fun K hK => ?_
    · go_simp
      refine koH hK (by assumption) fun hHeld => ?_
      clear hK K
      refine rnH 15 fun K hK => ?_
      go_simp
      refine koH hK (c2a _) fun hHeld => ?_
      clear hK K
      refine rnH 16 fun K hK => ?_
      refine step_copy_rd rfl (.tmp 7) (.tmp 19) 42 42 rfl 5 Tryz.underlying42 info1_u8s rfl rfl RL hfl hdl RA (by omega) ?_
      intro v3 O3 R3
      have c1v := (O3.cell (p := ⟨lb, 0, none⟩) n1).trans (c1a (.cells #[.int .u8 ((x0.toNat : Nat) : Int), .int .u8 ((x1.toNat : Nat) : Int), .int .u8 ((x2.toNat : Nat) : Int), .int .u8 ((x3.toNat : Nat) : Int)] 5))
      have c2v := (O3.cell (p := ⟨bb, 0, none⟩) n2).trans (c2a (.cells #[.int .u8 ((x0.toNat : Nat) : Int), .int .u8 ((x1.toNat : Nat) : Int), .int .u8 ((x2.toNat : Nat) : Int), .int .u8 ((x3.toNat : Nat) : Int)] 5))
      have fzv := (O3.frozen (p := ⟨lb, 0, none⟩) n1).trans (fza (.cells #[.int .u8 ((x0.toNat : Nat) : Int), .int .u8 ((x1.toNat : Nat) : Int), .int .u8 ((x2.toNat : Nat) : Int), .int .u8 ((x3.toNat : Nat) : Int)] 5))
      have FW := FIN v3 O3 R3
      clear FIN RL RA
      refine koH hK c2v fun hHeld => ?_
      clear hK K
      refine tkH 17 ?_
      refine rnH 18 fun K hK => ?_
      go_simp
      refine koH hK ((((Only.refl lb v3).setCell 0 _).cell (p := ⟨bb, 0, none⟩) n3.symm).trans c2v) fun hHeld => ?_
      clear hK K
      refine wpAnyH_done (by kernel_rfl) ?_ _
      try simp only [List.getElem_toArray, List.getElem_cons_succ, List.getElem_cons_zero, Act.put, List.setIfInBounds_toArray, List.set_cons_zero, List.set_cons_succ]
      clear c1v c2v fzv hHeld
      go_wp2
      go_end0
      exact ⟨rfl, FW.out⟩
    · go_simp
      refine koH hK (c2a _) fun hHeld => ?_
      clear hK K
      refine rmH 0 16 (fun K hK => ?_) fun K hK => ?_
      · go_simp
        refine koH hK (by assumption) fun hHeld => ?_
        clear hK K
        refine rnH 16 fun K hK => ?_
        refine step_copy_rd rfl (.tmp 7) (.tmp 19) 42 42 rfl 5 Tryz.underlying42 info1_u8s rfl rfl RL hfl hdl RA (by omega) ?_
        intro v3 O3 R3
        have c1v := (O3.cell (p := ⟨lb, 0, none⟩) n1).trans (c1a (.cells #[.int .u8 ((x0.toNat : Nat) : Int), .int .u8 ((x1.toNat : Nat) : Int), .int .u8 ((x2.toNat : Nat) : Int), .int .u8 ((x3.toNat : Nat) : Int)] 5))
        have c2v := (O3.cell (p := ⟨bb, 0, none⟩) n2).trans (c2a (.cells #[.int .u8 ((x0.toNat : Nat) : Int), .int .u8 ((x1.toNat : Nat) : Int), .int .u8 ((x2.toNat : Nat) : Int), .int .u8 ((x3.toNat : Nat) : Int)] 5))
        have fzv := (O3.frozen (p := ⟨lb, 0, none⟩) n1).trans (fza (.cells #[.int .u8 ((x0.toNat : Nat) : Int), .int .u8 ((x1.toNat : Nat) : Int), .int .u8 ((x2.toNat : Nat) : Int), .int .u8 ((x3.toNat : Nat) : Int)] 5))
        have FW := FIN v3 O3 R3
        clear FIN RL RA
        refine koH hK c2v fun hHeld => ?_
        clear hK K
        refine tkH 17 ?_
        refine rnH 18 fun K hK => ?_
        go_simp
        refine koH hK ((((Only.refl lb v3).setCell 0 _).cell (p := ⟨bb, 0, none⟩) n3.symm).trans c2v) fun hHeld => ?_
        clear hK K
        refine wpAnyH_done (by kernel_rfl) ?_ _
        try simp only [List.getElem_toArray, List.getElem_cons_succ, List.getElem_cons_zero, Act.put, List.setIfInBounds_toArray, List.set_cons_zero, List.set_cons_succ]
        clear c1v c2v fzv hHeld
        go_wp2
        go_end0
        exact ⟨rfl, FW.out⟩
      · refine step_copy_rd rfl (.tmp 7) (.tmp 19) 42 42 rfl 5 Tryz.underlying42 info1_u8s rfl rfl RL hfl hdl RA (by omega) ?_
        intro v3 O3 R3
        have c1v := (O3.cell (p := ⟨lb, 0, none⟩) n1).trans (c1a (.cells #[.int .u8 ((x0.toNat : Nat) : Int), .int .u8 ((x1.toNat : Nat) : Int), .int .u8 ((x2.toNat : Nat) : Int), .int .u8 ((x3.toNat : Nat) : Int)] 5))
        have c2v := (O3.cell (p := ⟨bb, 0, none⟩) n2).trans (c2a (.cells #[.int .u8 ((x0.toNat : Nat) : Int), .int .u8 ((x1.toNat : Nat) : Int), .int .u8 ((x2.toNat : Nat) : Int), .int .u8 ((x3.toNat : Nat) : Int)] 5))
        have fzv := (O3.frozen (p := ⟨lb, 0, none⟩) n1).trans (fza (.cells #[.int .u8 ((x0.toNat : Nat) : Int), .int .u8 ((x1.toNat : Nat) : Int), .int .u8 ((x2.toNat : Nat) : Int), .int .u8 ((x3.toNat : Nat) : Int)] 5))
        have FW := FIN v3 O3 R3
        clear FIN RL RA
        refine koH hK c2v fun hHeld => ?_
        clear hK K
        refine rnH 0 fun K hK => ?_
        go_simp
        refine koH hK (by assumption) fun hHeld => ?_
        clear hK K
        refine tkH 17 ?_
        refine rnH 18 fun K hK => ?_
        go_simp
        refine koH hK ((((Only.refl lb v3).setCell 0 _).cell (p := ⟨bb, 0, none⟩) n3.symm).trans c2v) fun hHeld => ?_
        clear hK K
        refine wpAnyH_done (by kernel_rfl) ?_ _
        try simp only [List.getElem_toArray, List.getElem_cons_succ, List.getElem_cons_zero, Act.put, List.setIfInBounds_toArray, List.set_cons_zero, List.set_cons_succ]
        clear c1v c2v fzv hHeld
        go_wp2
        go_end0
        exact ⟨rfl, FW.out⟩
  · go_simp
    refine koH hK (c2a _) fun hHeld => ?_
    clear hK K
    refine rmH 0 2 (fun K hK => ?_) fun K hK => ?_
    · go_simp
      refine koH hK (by assumption) fun hHeld => ?_
      clear hK K
      refine rnH 2 fun K hK => ?_
      go_simp
      refine koH hK (by assumption) fun hHeld => ?_
      clear hK K
      refine tkH 3 ?_
      refine rnH 16 fun K hK => ?_
      refine step_copy_rd rfl (.tmp 7) (.tmp 19) 42 42 rfl 5 Tryz.underlying42 info1_u8s rfl rfl RL hfl hdl RA (by omega) ?_
      intro v3 O3 R3
      have c1v := (O3.cell (p := ⟨lb, 0, none⟩) n1).trans (c1a (.cells #[.int .u8 ((x0.toNat : Nat) : Int), .int .u8 ((x1.toNat : Nat) : Int), .int .u8 ((x2.toNat : Nat) : Int), .int .u8 ((x3.toNat : Nat) : Int)] 5))
      have c2v := (O3.cell (p := ⟨bb, 0, none⟩) n2).trans (c2a (.cells #[.int .u8 ((x0.toNat : Nat) : Int), .int .u8 ((x1.toNat : Nat) : Int), .int .u8 ((x2.toNat : Nat) : Int), .int .u8 ((x3.toNat : Nat) : Int)] 5))
      have fzv := (O3.frozen (p := ⟨lb, 0, none⟩) n1).trans (fza (.cells #[.int .u8 ((x0.toNat : Nat) : Int), .int .u8 ((x1.toNat : Nat) : Int), .int .u8 ((x2.toNat : Nat) : Int), .int .u8 ((x3.toNat : Nat) : Int)] 5))
      have FW := FIN v3 O3 R3
      clear FIN RL RA
      refine koH hK c2v fun hHeld => ?_
      clear hK K
      refine tkH 17 ?_
      refine rnH 18 fun K hK => ?_
      go_simp
      refine koH hK ((((Only.refl lb v3).setCell 0 _).cell (p := ⟨bb, 0, none⟩) n3.symm).trans c2v) fun hHeld => ?_
      clear hK K
      refine wpAnyH_done (by kernel_rfl) ?_ _
      try simp only [List.getElem_toArray, List.getElem_cons_succ, List.getElem_cons_zero, Act.put, List.setIfInBounds_toArray, List.set_cons_zero, List.set_cons_succ]
      clear c1v c2v fzv hHeld
      go_wp2
      go_end0
      exact ⟨rfl, FW.out⟩
    · go_simp
      refine koH hK (by assumption) fun hHeld => ?_
      clear hK K
      refine tkH 3 ?_
      refine rmH 0 16 (fun K hK => ?_) fun K hK => ?_
      · go_simp
        refine koH hK (by assumption) fun hHeld => ?_
        clear hK K
        refine rnH 16 fun K hK => ?_
        refine step_copy_rd rfl (.tmp 7) (.tmp 19) 42 42 rfl 5 Tryz.underlying42 info1_u8s rfl rfl RL hfl hdl RA (by omega) ?_
        intro v3 O3 R3
        have c1v := (O3.cell (p := ⟨lb, 0, none⟩) n1).trans (c1a (.cells #[.int .u8 ((x0.toNat : Nat) : Int), .int .u8 ((x1.toNat : Nat) : Int), .int .u8 ((x2.toNat : Nat) : Int), .int .u8 ((x3.toNat : Nat) : Int)] 5))
        have c2v := (O3.cell (p := ⟨bb, 0, none⟩) n2).trans (c2a (.cells #[.int .u8 ((x0.toNat : Nat) : Int), .int .u8 ((x1.toNat : Nat) : Int), .int .u8 ((x2.toNat : Nat) : Int), .int .u8 ((x3.toNat : Nat) : Int)] 5))
        have fzv := (O3.frozen (p := ⟨lb, 0, none⟩) n1).trans (fza (.cells #[.int .u8 ((x0.toNat : Nat) : Int), .int .u8 ((x1.toNat : Nat) : Int), .int .u8 ((x2.toNat : Nat) : Int), .int .u8 ((x3.toNat : Nat) : Int)] 5))
        have FW := FIN v3 O3 R3
        clear FIN RL RA
        refine koH hK c2v fun hHeld => ?_
        clear hK K
        refine tkH 17 ?_
        refine rnH 18 fun K hK => ?_
        go_simp
        refine koH hK ((((Only.refl lb v3).setCell 0 _).cell (p := ⟨bb, 0, none⟩) n3.symm).trans c2v) fun hHeld => ?_
        clear hK K
        refine wpAnyH_done (by kernel_rfl) ?_ _
        try simp only [List.getElem_toArray, List.getElem_cons_succ, List.getElem_cons_zero, Act.put, List.setIfInBounds_toArray, List.set_cons_zero, List.set_cons_succ]
        clear c1v c2v fzv hHeld
        go_wp2
        go_end0
        exact ⟨rfl, FW.out⟩
      · refine step_copy_rd rfl (.tmp 7) (.tmp 19) 42 42 rfl 5 Tryz.underlying42 info1_u8s rfl rfl RL hfl hdl RA (by omega) ?_
        intro v3 O3 R3
        have c1v := (O3.cell (p := ⟨lb, 0, none⟩) n1).trans (c1a (.cells #[.int .u8 ((x0.toNat : Nat) : Int), .int .u8 ((x1.toNat : Nat) : Int), .int .u8 ((x2.toNat : Nat) : Int), .int .u8 ((x3.toNat : Nat) : Int)] 5))
        have c2v := (O3.cell (p := ⟨bb, 0, none⟩) n2).trans (c2a (.cells #[.int .u8 ((x0.toNat : Nat) : Int), .int .u8 ((x1.toNat : Nat) : Int), .int .u8 ((x2.toNat : Nat) : Int), .int .u8 ((x3.toNat : Nat) : Int)] 5))
        have fzv := (O3.frozen (p := ⟨lb, 0, none⟩) n1).trans (fza (.cells #[.int .u8 ((x0.toNat : Nat) : Int), .int .u8 ((x1.toNat : Nat) : Int), .int .u8 ((x2.toNat : Nat) : Int), .int .u8 ((x3.toNat : Nat) : Int)] 5))
        have FW := FIN v3 O3 R3
        clear FIN RL RA
        refine koH hK c2v fun hHeld => ?_
        clear hK K
        refine rnH 0 fun K hK => ?_
        go_simp
        refine koH hK (by assumption) fun hHeld => ?_
        clear hK K
        refine tkH 17 ?_
        refine rnH 18 fun K hK => ?_
        go_simp
        refine koH hK ((((Only.refl lb v3).setCell 0 _).cell (p := ⟨bb, 0, none⟩) n3.symm).trans c2v) fun hHeld => ?_
        clear hK K
        refine wpAnyH_done (by kernel_rfl) ?_ _
        try simp only [List.getElem_toArray, List.getElem_cons_succ, List.getElem_cons_zero, Act.put, List.setIfInBounds_toArray, List.set_cons_zero, List.set_cons_succ]
        clear c1v c2v fzv hHeld
        go_wp2
        go_end0
        exact ⟨rfl, FW.out⟩
  -- REGION END
end Go.Proofs.YtclieefpnbdbjaaGreat.Gf
