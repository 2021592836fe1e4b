/- TEXTS JOINED: SeCA, SeCB. -/
import Derived.Test.YtfdihdndldiafaaTome2
import Derived.Deep.RegionHeld3
import Derived.Test.YtfdihdndldiafaaTome1
import Derived.Lib.SliceRun
/-
  THE PROGRAM's SECTORS BY CONTRACT (package sector): numbers that may stand in one; a number that is read; the closure that lays one.
-/



namespace Go.Proofs.Ytfdihdndldiafaa.Gf
set_option linter.unusedVariables false
set_option linter.unusedSimpArgs false
open Go.RowKit

theorem smay_any {n : Int} {w : World} : Calls Try.prog 15 #[.int .i64 n] w fun e w' => e = .returned (.bool (decide (0 ≤ n ∧ n ≤ 2147483647))) ∧ w' = w := by
  by_cases h0 : 0 ≤ n
  · have h0' : n ≥ 0 := h0
    by_cases h1 : n ≤ 2147483647
    · have E : decide (0 ≤ n ∧ n ≤ 2147483647) = true := decide_eq_true ⟨h0, h1⟩
      rw [E]
      clear E
      go_enter Try.func15, Try.ntmps15
      go_wp2
      go_ret
      exact ⟨rfl, rfl⟩
    · have E : decide (0 ≤ n ∧ n ≤ 2147483647) = false := decide_eq_false (by omega)
      rw [E]
      clear E
      go_enter Try.func15, Try.ntmps15
      go_wp2
      go_ret
      exact ⟨rfl, rfl⟩
  · have h0' : ¬ n ≥ 0 := h0
    have E : decide (0 ≤ n ∧ n ≤ 2147483647) = false := decide_eq_false (by omega)
    rw [E]
    clear E
    go_enter Try.func15, Try.ntmps15
    go_wp2
    go_ret
    exact ⟨rfl, rfl⟩

theorem info1_u8s : (Try.prog.info? 5).map (·.size) = some 1 := by
  obtain ⟨i0, hi, hz0, hz1, hz2⟩ := info_parts info_u8
  rw [hi]
  simp [hz1]
theorem wrap_u8 (m : Nat) : IntKind.u8.wrap (m : Int) = (((UInt8.ofNat m).toNat : Nat) : Int) := by
  rw [IntKind.wrap_u8, UInt8.toNat_ofNat']
  omega
set_option maxRecDepth 100000 in
set_option maxHeartbeats 4000000 in
theorem slay_any {w : World} {lb bb g L k n base : Nat} {f : Nat → UInt8} {u : Int} (hu : u = (n : Int)) (c1 : w.cell? ⟨lb, 0, none⟩ = some (.int .i64 (k : Int))) (c2 : w.cell? ⟨bb, 0, none⟩ = some (.slice (some ⟨g, 0, none⟩) L L)) (fz : w.frozen? ⟨lb, 0, none⟩ = false) (hR : RowF w base 5 g L L f) (hk : k + 4 ≤ L) (hL : L ≤ 5000) (l1 : lb < w.heap.size) (l2 : bb < w.heap.size) (n1 : lb ≠ g) (n2 : bb ≠ g) (n3 : lb ≠ bb) :
    Calls Try.prog 16 #[.int .u32 u, .pointer (some ⟨lb, 0, none⟩), .pointer (some ⟨bb, 0, none⟩)] w fun e w' => e = .returned (.tuple #[]) ∧ w'.cell? ⟨lb, 0, none⟩ = some (.int .i64 ((k + 4 : Nat) : Int)) ∧ w'.cell? ⟨bb, 0, none⟩ = some (.slice (some ⟨g, 0, none⟩) L L) ∧ w'.frozen? ⟨lb, 0, none⟩ = false ∧ RowF w' base 5 g L L (putAt f k 4 (co (fo n))) ∧ TurnL [lb, g] w w' := by
  subst hu
  obtain ⟨x0, hx0⟩ : ∃ x, Hid (x = UInt8.ofNat (n / 16777216)) := ⟨_, rfl⟩
  obtain ⟨x1, hx1⟩ : ∃ x, Hid (x = UInt8.ofNat (n / 65536)) := ⟨_, rfl⟩
  obtain ⟨x2, hx2⟩ : ∃ x, Hid (x = UInt8.ofNat (n / 256)) := ⟨_, rfl⟩
  obtain ⟨x3, hx3⟩ : ∃ x, Hid (x = UInt8.ofNat n) := ⟨_, rfl⟩
  have q0 : IntKind.u8.wrap ((n : Int) / 16777216) = ((x0.toNat : Nat) : Int) := by rw [hx0.out]; exact wrap_u8 (n / 16777216)
  have q1 : IntKind.u8.wrap ((n : Int) / 65536) = ((x1.toNat : Nat) : Int) := by rw [hx1.out]; exact wrap_u8 (n / 65536)
  have q2 : IntKind.u8.wrap ((n : Int) / 256) = ((x2.toNat : Nat) : Int) := by rw [hx2.out]; exact wrap_u8 (n / 256)
  have q3 : IntKind.u8.wrap (n : Int) = ((x3.toNat : Nat) : Int) := by rw [hx3.out]; exact wrap_u8 n
  have hF : Hid (fo n = [x0, x1, x2, x3]) := by show _ = _; rw [hx0.out, hx1.out, hx2.out, hx3.out]; rfl
  rw [hF.out]
  clear hF hx0 hx1 hx2 hx3
  have RL : Rd (w.drew.alloc (.cells #[.int .u8 ((x0.toNat : Nat) : Int), .int .u8 ((x1.toNat : Nat) : Int), .int .u8 ((x2.toNat : Nat) : Int), .int .u8 ((x3.toNat : Nat) : Int)] 5)) (.slice (some ⟨w.heap.size, 0, none⟩) 4 4) [x0, x1, x2, x3] := rd_lit (w := w.drew) [x0, x1, x2, x3] rfl rfl (by decide)
  have hfl : [x0, x1, x2, x3].length = 4 := rfl
  have RA : RowF (w.drew.alloc (.cells #[.int .u8 ((x0.toNat : Nat) : Int), .int .u8 ((x1.toNat : Nat) : Int), .int .u8 ((x2.toNat : Nat) : Int), .int .u8 ((x3.toNat : Nat) : Int)] 5)) base 5 g L L f := hR.later (((Below.refl _ _).drew).alloc (Nat.le_refl _) _)
  have c1a : ∀ o, (w.drew.alloc o).cell? ⟨lb, 0, none⟩ = some (.int .i64 (k : Int)) := fun o => (World.cell?_alloc_past _ _ _ l1).trans c1
  have c2a : ∀ o, (w.drew.alloc o).cell? ⟨bb, 0, none⟩ = some (.slice (some ⟨g, 0, none⟩) L L) := fun o => (World.cell?_alloc_past _ _ _ l2).trans c2
  have fza : ∀ o, (w.drew.alloc o).frozen? ⟨lb, 0, none⟩ = false := fun o => (((Below.refl w.heap.size w).drew.alloc (Nat.le_refl _) o).frozen (p := ⟨lb, 0, none⟩) l1).trans fz
  have hdl : 4 ≤ L - k := by omega
  obtain ⟨m, hm⟩ : ∃ m, Hid (m = k + 4) := ⟨_, rfl⟩
  rw [← hm.out]
  have g0 : (k : Int) + 4 = (m : Int) := by have := hm.out; omega
  have gw : IntKind.i64.wrap (m : Int) = (m : Int) := by rw [IntKind.wrap_i64]; have := hm.out; omega
  clear hm
  have g1 : (k : Int) ≤ (L : Int) := by omega
  have g2 : ¬ L = k := by omega
  have g3 : k < L := by omega
  have FIN : ∀ v3, Only g (w.drew.alloc (.cells #[.int .u8 ((x0.toNat : Nat) : Int), .int .u8 ((x1.toNat : Nat) : Int), .int .u8 ((x2.toNat : Nat) : Int), .int .u8 ((x3.toNat : Nat) : Int)] 5)) v3 → RowF v3 base 5 g L L (putAt f k 4 (co [x0, x1, x2, x3])) → Hid ((v3.setCell ⟨lb, 0, none⟩ (.int .i64 (m : Int))).cell? ⟨lb, 0, none⟩ = some (.int .i64 (m : Int)) ∧ (v3.setCell ⟨lb, 0, none⟩ (.int .i64 (m : Int))).cell? ⟨bb, 0, none⟩ = some (.slice (some ⟨g, 0, none⟩) L L) ∧ (v3.setCell ⟨lb, 0, none⟩ (.int .i64 (m : Int))).frozen? ⟨lb, 0, none⟩ = false ∧ RowF (v3.setCell ⟨lb, 0, none⟩ (.int .i64 (m : Int))) base 5 g L L (putAt f k 4 (co [x0, x1, x2, x3])) ∧ TurnL [lb, g] w (v3.setCell ⟨lb, 0, none⟩ (.int .i64 (m : Int)))) := by
    intro v3 O3 R3
    have c1v := (O3.cell (p := ⟨lb, 0, none⟩) n1).trans (c1a _)
    have c2v := (O3.cell (p := ⟨bb, 0, none⟩) n2).trans (c2a _)
    have fzv := (O3.frozen (p := ⟨lb, 0, none⟩) n1).trans (fza _)
    have OO := (Only.refl lb v3).setCell 0 (.int .i64 (m : Int))
    have T1 : TurnL [lb, g] w (w.drew.alloc (.cells #[.int .u8 ((x0.toNat : Nat) : Int), .int .u8 ((x1.toNat : Nat) : Int), .int .u8 ((x2.toNat : Nat) : Int), .int .u8 ((x3.toNat : Nat) : Int)] 5)) := Below.turnL (((Below.refl _ _).drew).alloc (Nat.le_refl _) _) _
    refine ⟨by simp [go_sem, c1v], (OO.cell (p := ⟨bb, 0, none⟩) n3.symm).trans c2v, by simp [go_sem, fzv], R3.only n1.symm OO, (T1.trans (O3.turnL (by simp))).trans (OO.turnL (by simp))⟩
  clear hR
  go_enter Try.func16, Try.ntmps16
  go_wp2
  -- REGION
  refine wp_region_held_drew (S := (fun wx => wx.cell? ⟨bb, 0, none⟩ = some (.slice (some ⟨g, 0, none⟩) L L))) (by kernel_rfl) ?_ (fun hHeld => ?_)
  · exact c2
  refine wpAnyH_take (i := 1) (v := ?_) rfl (by kernel_rfl) (by kernel_rfl) (by kernel_rfl) (fun _ _ _ h => h) (Or.inl ⟨by rfl, ?_⟩) (by assumption) ?_
  rotate_left
  · intro w hSw; (try dsimp only at hSw); go_simp; try with_reducible rfl
  try simp only [List.getElem_toArray, List.getElem_cons_succ, List.getElem_cons_zero, Act.put, List.setIfInBounds_toArray, List.set_cons_zero, List.set_cons_succ]
  refine wpAnyH_take (i := 4) (v := ?_) rfl (by kernel_rfl) (by kernel_rfl) (by kernel_rfl) (fun _ _ _ h => h) (Or.inl ⟨by rfl, ?_⟩) (by assumption) ?_
  rotate_left
  · intro w hSw; (try dsimp only at hSw); go_simp; try with_reducible rfl
  try simp only [List.getElem_toArray, List.getElem_cons_succ, List.getElem_cons_zero, Act.put, List.setIfInBounds_toArray, List.set_cons_zero, List.set_cons_succ]
  refine wpAnyH_take (i := 5) (v := ?_) rfl (by kernel_rfl) (by kernel_rfl) (by kernel_rfl) (fun _ _ _ h => h) (Or.inl ⟨by rfl, ?_⟩) (by assumption) ?_
  rotate_left
  · intro w hSw; (try dsimp only at hSw); go_simp; try with_reducible rfl
  try simp only [List.getElem_toArray, List.getElem_cons_succ, List.getElem_cons_zero, Act.put, List.setIfInBounds_toArray, List.set_cons_zero, List.set_cons_succ]
  refine wpAnyH_take (i := 6) (v := ?_) rfl (by kernel_rfl) (by kernel_rfl) (by kernel_rfl) (fun _ _ _ h => h) (Or.inl ⟨by rfl, ?_⟩) (by assumption) ?_
  rotate_left
  · intro w hSw; (try dsimp only at hSw); go_simp; try with_reducible rfl
  try simp only [List.getElem_toArray, List.getElem_cons_succ, List.getElem_cons_zero, Act.put, List.setIfInBounds_toArray, List.set_cons_zero, List.set_cons_succ]
  refine wpAnyH_take (i := 7) (v := ?_) rfl (by kernel_rfl) (by kernel_rfl) (by kernel_rfl) (fun _ _ _ h => h) (Or.inl ⟨by rfl, ?_⟩) (by assumption) ?_
  rotate_left
  · intro w hSw; (try dsimp only at hSw); go_simp; try with_reducible rfl
  try simp only [List.getElem_toArray, List.getElem_cons_succ, List.getElem_cons_zero, Act.put, List.setIfInBounds_toArray, List.set_cons_zero, List.set_cons_succ]
  refine wpAnyH_take (i := 8) (v := ?_) rfl (by kernel_rfl) (by kernel_rfl) (by kernel_rfl) (fun _ _ _ h => h) (Or.inl ⟨by rfl, ?_⟩) (by assumption) ?_
  rotate_left
  · intro w hSw; (try dsimp only at hSw); go_simp; try with_reducible rfl
  try simp only [List.getElem_toArray, List.getElem_cons_succ, List.getElem_cons_zero, Act.put, List.setIfInBounds_toArray, List.set_cons_zero, List.set_cons_succ]
  refine wpAnyH_take (i := 9) (v := ?_) rfl (by kernel_rfl) (by kernel_rfl) (by kernel_rfl) (fun _ _ _ h => h) (Or.inl ⟨by rfl, ?_⟩) (by assumption) ?_
  rotate_left
  · intro w hSw; (try dsimp only at hSw); go_simp; try with_reducible rfl
  try simp only [List.getElem_toArray, List.getElem_cons_succ, List.getElem_cons_zero, Act.put, List.setIfInBounds_toArray, List.set_cons_zero, List.set_cons_succ]
  refine wpAnyH_take (i := 10) (v := ?_) rfl (by kernel_rfl) (by kernel_rfl) (by kernel_rfl) (fun _ _ _ h => h) (Or.inl ⟨by rfl, ?_⟩) (by assumption) ?_
  rotate_left
  · intro w hSw; (try dsimp only at hSw); go_simp; try with_reducible rfl
  try simp only [List.getElem_toArray, List.getElem_cons_succ, List.getElem_cons_zero, Act.put, List.setIfInBounds_toArray, List.set_cons_zero, List.set_cons_succ]
  refine wpAnyH_take (i := 11) (v := ?_) rfl (by kernel_rfl) (by kernel_rfl) (by kernel_rfl) (fun _ _ _ h => h) (Or.inl ⟨by rfl, ?_⟩) (by assumption) ?_
  rotate_left
  · intro w hSw; (try dsimp only at hSw); go_simp; try with_reducible rfl
  try simp only [List.getElem_toArray, List.getElem_cons_succ, List.getElem_cons_zero, Act.put, List.setIfInBounds_toArray, List.set_cons_zero, List.set_cons_succ]
  refine wpAnyH_take (i := 12) (v := ?_) rfl (by kernel_rfl) (by kernel_rfl) (by kernel_rfl) (fun _ _ _ h => h) (Or.inl ⟨by rfl, ?_⟩) (by assumption) ?_
  rotate_left
  · intro w hSw; (try dsimp only at hSw); go_simp; try with_reducible rfl
  try simp only [List.getElem_toArray, List.getElem_cons_succ, List.getElem_cons_zero, Act.put, List.setIfInBounds_toArray, List.set_cons_zero, List.set_cons_succ]
  refine wpAnyH_take (i := 13) (v := ?_) rfl (by kernel_rfl) (by kernel_rfl) (by kernel_rfl) (fun _ _ _ h => h) (Or.inl ⟨by rfl, ?_⟩) (by assumption) ?_
  rotate_left
  · intro w hSw; (try dsimp only at hSw); go_simp; try with_reducible rfl
  try simp only [List.getElem_toArray, List.getElem_cons_succ, List.getElem_cons_zero, Act.put, List.setIfInBounds_toArray, List.set_cons_zero, List.set_cons_succ]
  refine wpAnyH_take (i := 14) (v := ?_) rfl (by kernel_rfl) (by kernel_rfl) (by kernel_rfl) (fun _ _ _ h => h) (Or.inl ⟨by rfl, ?_⟩) (by assumption) ?_
  rotate_left
  · intro w hSw; (try dsimp only at hSw); go_simp; try with_reducible rfl
  try simp only [List.getElem_toArray, List.getElem_cons_succ, List.getElem_cons_zero, Act.put, List.setIfInBounds_toArray, List.set_cons_zero, List.set_cons_succ]
  refine wpAnyH_ready (rs := [0, 2, 15]) (by kernel_rfl) (by simp) ?_
  refine AllReadyH.cons rfl (fun K hK => ?_) (AllReadyH.cons rfl (fun K hK => ?_) (AllReadyH.cons rfl (fun K hK => ?_) AllReadyH.nil))
  · go_simp
    refine hK.out _ _ ?_ (fun hHeld => ?_)
    · assumption
    clear hK K
    try simp only [List.getElem_toArray, List.getElem_cons_succ, List.getElem_cons_zero, Act.put, List.setIfInBounds_toArray, List.set_cons_zero, List.set_cons_succ]
    refine wpAnyH_ready (rs := [2, 15]) (by kernel_rfl) (by simp) ?_
    refine AllReadyH.cons rfl (fun K hK => ?_) (AllReadyH.cons rfl (fun K hK => ?_) AllReadyH.nil)
    · go_simp
      refine hK.out _ _ ?_ (fun hHeld => ?_)
      · assumption
      clear hK K
      try simp only [List.getElem_toArray, List.getElem_cons_succ, List.getElem_cons_zero, Act.put, List.setIfInBounds_toArray, List.set_cons_zero, List.set_cons_succ]
      refine wpAnyH_take (i := 3) (v := ?_) rfl (by kernel_rfl) (by kernel_rfl) (by kernel_rfl) (fun _ _ _ h => h) (Or.inl ⟨by rfl, ?_⟩) (by assumption) ?_
      rotate_left
      · intro w hSw; (try dsimp only at hSw); go_simp; try with_reducible rfl
      try simp only [List.getElem_toArray, List.getElem_cons_succ, List.getElem_cons_zero, Act.put, List.setIfInBounds_toArray, List.set_cons_zero, List.set_cons_succ]
      refine wpAnyH_ready (rs := [15]) (by kernel_rfl) (by simp) ?_
      refine AllReadyH.cons rfl (fun K hK => ?_) AllReadyH.nil
      go_simp
      refine hK.out _ _ ?_ (fun hHeld => ?_)
      · exact c2a _
      clear hK K
      try simp only [List.getElem_toArray, List.getElem_cons_succ, List.getElem_cons_zero, Act.put, List.setIfInBounds_toArray, List.set_cons_zero, List.set_cons_succ]
      refine wpAnyH_ready (rs := [16]) (by kernel_rfl) (by simp) ?_
      refine AllReadyH.cons rfl (fun K hK => ?_) AllReadyH.nil
      refine step_copy_rd rfl (.tmp 7) (.tmp 19) 23 23 rfl 5 Try.underlying23 info1_u8s rfl rfl RL hfl hdl RA (by omega) ?_
      intro v3 O3 R3
      have c1v := (O3.cell (p := ⟨lb, 0, none⟩) n1).trans (c1a (.cells #[.int .u8 ((x0.toNat : Nat) : Int), .int .u8 ((x1.toNat : Nat) : Int), .int .u8 ((x2.toNat : Nat) : Int), .int .u8 ((x3.toNat : Nat) : Int)] 5))
      have c2v := (O3.cell (p := ⟨bb, 0, none⟩) n2).trans (c2a (.cells #[.int .u8 ((x0.toNat : Nat) : Int), .int .u8 ((x1.toNat : Nat) : Int), .int .u8 ((x2.toNat : Nat) : Int), .int .u8 ((x3.toNat : Nat) : Int)] 5))
      have fzv := (O3.frozen (p := ⟨lb, 0, none⟩) n1).trans (fza (.cells #[.int .u8 ((x0.toNat : Nat) : Int), .int .u8 ((x1.toNat : Nat) : Int), .int .u8 ((x2.toNat : Nat) : Int), .int .u8 ((x3.toNat : Nat) : Int)] 5))
      have FW := FIN v3 O3 R3
      clear FIN RL RA
      refine hK.out _ _ ?_ (fun hHeld => ?_)
      · exact c2v
      clear hK K
      try simp only [List.getElem_toArray, List.getElem_cons_succ, List.getElem_cons_zero, Act.put, List.setIfInBounds_toArray, List.set_cons_zero, List.set_cons_succ]
      refine wpAnyH_take (i := 17) (v := ?_) rfl (by kernel_rfl) (by kernel_rfl) (by kernel_rfl) (fun _ _ _ h => h) (Or.inl ⟨by rfl, ?_⟩) (by assumption) ?_
      rotate_left
      · intro w hSw; (try dsimp only at hSw); go_simp; try with_reducible rfl
      try simp only [List.getElem_toArray, List.getElem_cons_succ, List.getElem_cons_zero, Act.put, List.setIfInBounds_toArray, List.set_cons_zero, List.set_cons_succ]
      refine wpAnyH_ready (rs := [18]) (by kernel_rfl) (by simp) ?_
      refine AllReadyH.cons rfl (fun K hK => ?_) AllReadyH.nil
      go_simp
      refine hK.out _ _ ?_ (fun hHeld => ?_)
      · exact (((Only.refl lb v3).setCell 0 _).cell (p := ⟨bb, 0, none⟩) n3.symm).trans c2v
      clear hK K
      try simp only [List.getElem_toArray, List.getElem_cons_succ, List.getElem_cons_zero, Act.put, List.setIfInBounds_toArray, List.set_cons_zero, List.set_cons_succ]
      refine wpAnyH_done (by kernel_rfl) ?_ _
      try simp only [List.getElem_toArray, List.getElem_cons_succ, List.getElem_cons_zero, Act.put, List.setIfInBounds_toArray, List.set_cons_zero, List.set_cons_succ]
      clear c1v c2v fzv hHeld
      go_wp2
      go_end0
      exact ⟨rfl, FW.out⟩
    · go_simp
      refine hK.out _ _ ?_ (fun hHeld => ?_)
      · exact c2a _
      clear hK K
      try simp only [List.getElem_toArray, List.getElem_cons_succ, List.getElem_cons_zero, Act.put, List.setIfInBounds_toArray, List.set_cons_zero, List.set_cons_succ]
      refine wpAnyH_ready (rs := [2]) (by kernel_rfl) (by simp) ?_
      refine AllReadyH.cons rfl (fun K hK => ?_) AllReadyH.nil
      go_simp
      refine hK.out _ _ ?_ (fun hHeld => ?_)
      · assumption
      clear hK K
      try simp only [List.getElem_toArray, List.getElem_cons_succ, List.getElem_cons_zero, Act.put, List.setIfInBounds_toArray, List.set_cons_zero, List.set_cons_succ]
      refine wpAnyH_take (i := 3) (v := ?_) rfl (by kernel_rfl) (by kernel_rfl) (by kernel_rfl) (fun _ _ _ h => h) (Or.inl ⟨by rfl, ?_⟩) (by assumption) ?_
      rotate_left
      · intro w hSw; (try dsimp only at hSw); go_simp; try with_reducible rfl
      try simp only [List.getElem_toArray, List.getElem_cons_succ, List.getElem_cons_zero, Act.put, List.setIfInBounds_toArray, List.set_cons_zero, List.set_cons_succ]
      refine wpAnyH_ready (rs := [16]) (by kernel_rfl) (by simp) ?_
      refine AllReadyH.cons rfl (fun K hK => ?_) AllReadyH.nil
      refine step_copy_rd rfl (.tmp 7) (.tmp 19) 23 23 rfl 5 Try.underlying23 info1_u8s rfl rfl RL hfl hdl RA (by omega) ?_
      intro v3 O3 R3
      have c1v := (O3.cell (p := ⟨lb, 0, none⟩) n1).trans (c1a (.cells #[.int .u8 ((x0.toNat : Nat) : Int), .int .u8 ((x1.toNat : Nat) : Int), .int .u8 ((x2.toNat : Nat) : Int), .int .u8 ((x3.toNat : Nat) : Int)] 5))
      have c2v := (O3.cell (p := ⟨bb, 0, none⟩) n2).trans (c2a (.cells #[.int .u8 ((x0.toNat : Nat) : Int), .int .u8 ((x1.toNat : Nat) : Int), .int .u8 ((x2.toNat : Nat) : Int), .int .u8 ((x3.toNat : Nat) : Int)] 5))
      have fzv := (O3.frozen (p := ⟨lb, 0, none⟩) n1).trans (fza (.cells #[.int .u8 ((x0.toNat : Nat) : Int), .int .u8 ((x1.toNat : Nat) : Int), .int .u8 ((x2.toNat : Nat) : Int), .int .u8 ((x3.toNat : Nat) : Int)] 5))
      have FW := FIN v3 O3 R3
      clear FIN RL RA
      refine hK.out _ _ ?_ (fun hHeld => ?_)
      · exact c2v
      clear hK K
      try simp only [List.getElem_toArray, List.getElem_cons_succ, List.getElem_cons_zero, Act.put, List.setIfInBounds_toArray, List.set_cons_zero, List.set_cons_succ]
      refine wpAnyH_take (i := 17) (v := ?_) rfl (by kernel_rfl) (by kernel_rfl) (by kernel_rfl) (fun _ _ _ h => h) (Or.inl ⟨by rfl, ?_⟩) (by assumption) ?_
      rotate_left
      · intro w hSw; (try dsimp only at hSw); go_simp; try with_reducible rfl
      try simp only [List.getElem_toArray, List.getElem_cons_succ, List.getElem_cons_zero, Act.put, List.setIfInBounds_toArray, List.set_cons_zero, List.set_cons_succ]
      refine wpAnyH_ready (rs := [18]) (by kernel_rfl) (by simp) ?_
      refine AllReadyH.cons rfl (fun K hK => ?_) AllReadyH.nil
      go_simp
      refine hK.out _ _ ?_ (fun hHeld => ?_)
      · exact (((Only.refl lb v3).setCell 0 _).cell (p := ⟨bb, 0, none⟩) n3.symm).trans c2v
      clear hK K
      try simp only [List.getElem_toArray, List.getElem_cons_succ, List.getElem_cons_zero, Act.put, List.setIfInBounds_toArray, List.set_cons_zero, List.set_cons_succ]
      refine wpAnyH_done (by kernel_rfl) ?_ _
      try simp only [List.getElem_toArray, List.getElem_cons_succ, List.getElem_cons_zero, Act.put, List.setIfInBounds_toArray, List.set_cons_zero, List.set_cons_succ]
      clear c1v c2v fzv hHeld
      go_wp2
      go_end0
      exact ⟨rfl, FW.out⟩
  · go_simp
    refine hK.out _ _ ?_ (fun hHeld => ?_)
    · assumption
    clear hK K
    try simp only [List.getElem_toArray, List.getElem_cons_succ, List.getElem_cons_zero, Act.put, List.setIfInBounds_toArray, List.set_cons_zero, List.set_cons_succ]
    refine wpAnyH_take (i := 3) (v := ?_) rfl (by kernel_rfl) (by kernel_rfl) (by kernel_rfl) (fun _ _ _ h => h) (Or.inl ⟨by rfl, ?_⟩) (by assumption) ?_
    rotate_left
    · intro w hSw; (try dsimp only at hSw); go_simp; try with_reducible rfl
    try simp only [List.getElem_toArray, List.getElem_cons_succ, List.getElem_cons_zero, Act.put, List.setIfInBounds_toArray, List.set_cons_zero, List.set_cons_succ]
    refine wpAnyH_ready (rs := [0, 15]) (by kernel_rfl) (by simp) ?_
    refine AllReadyH.cons rfl (fun K hK => ?_) (AllReadyH.cons rfl (fun K hK => ?_) AllReadyH.nil)
    · go_simp
      refine hK.out _ _ ?_ (fun hHeld => ?_)
      · assumption
      clear hK K
      try simp only [List.getElem_toArray, List.getElem_cons_succ, List.getElem_cons_zero, Act.put, List.setIfInBounds_toArray, List.set_cons_zero, List.set_cons_succ]
      refine wpAnyH_ready (rs := [15]) (by kernel_rfl) (by simp) ?_
      refine AllReadyH.cons rfl (fun K hK => ?_) AllReadyH.nil
      go_simp
      refine hK.out _ _ ?_ (fun hHeld => ?_)
      · exact c2a _
      clear hK K
      try simp only [List.getElem_toArray, List.getElem_cons_succ, List.getElem_cons_zero, Act.put, List.setIfInBounds_toArray, List.set_cons_zero, List.set_cons_succ]
      refine wpAnyH_ready (rs := [16]) (by kernel_rfl) (by simp) ?_
      refine AllReadyH.cons rfl (fun K hK => ?_) AllReadyH.nil
      refine step_copy_rd rfl (.tmp 7) (.tmp 19) 23 23 rfl 5 Try.underlying23 info1_u8s rfl rfl RL hfl hdl RA (by omega) ?_
      intro v3 O3 R3
      have c1v := (O3.cell (p := ⟨lb, 0, none⟩) n1).trans (c1a (.cells #[.int .u8 ((x0.toNat : Nat) : Int), .int .u8 ((x1.toNat : Nat) : Int), .int .u8 ((x2.toNat : Nat) : Int), .int .u8 ((x3.toNat : Nat) : Int)] 5))
      have c2v := (O3.cell (p := ⟨bb, 0, none⟩) n2).trans (c2a (.cells #[.int .u8 ((x0.toNat : Nat) : Int), .int .u8 ((x1.toNat : Nat) : Int), .int .u8 ((x2.toNat : Nat) : Int), .int .u8 ((x3.toNat : Nat) : Int)] 5))
      have fzv := (O3.frozen (p := ⟨lb, 0, none⟩) n1).trans (fza (.cells #[.int .u8 ((x0.toNat : Nat) : Int), .int .u8 ((x1.toNat : Nat) : Int), .int .u8 ((x2.toNat : Nat) : Int), .int .u8 ((x3.toNat : Nat) : Int)] 5))
      have FW := FIN v3 O3 R3
      clear FIN RL RA
      refine hK.out _ _ ?_ (fun hHeld => ?_)
      · exact c2v
      clear hK K
      try simp only [List.getElem_toArray, List.getElem_cons_succ, List.getElem_cons_zero, Act.put, List.setIfInBounds_toArray, List.set_cons_zero, List.set_cons_succ]
      refine wpAnyH_take (i := 17) (v := ?_) rfl (by kernel_rfl) (by kernel_rfl) (by kernel_rfl) (fun _ _ _ h => h) (Or.inl ⟨by rfl, ?_⟩) (by assumption) ?_
      rotate_left
      · intro w hSw; (try dsimp only at hSw); go_simp; try with_reducible rfl
      try simp only [List.getElem_toArray, List.getElem_cons_succ, List.getElem_cons_zero, Act.put, List.setIfInBounds_toArray, List.set_cons_zero, List.set_cons_succ]
      refine wpAnyH_ready (rs := [18]) (by kernel_rfl) (by simp) ?_
      refine AllReadyH.cons rfl (fun K hK => ?_) AllReadyH.nil
      go_simp
      refine hK.out _ _ ?_ (fun hHeld => ?_)
      · exact (((Only.refl lb v3).setCell 0 _).cell (p := ⟨bb, 0, none⟩) n3.symm).trans c2v
      clear hK K
      try simp only [List.getElem_toArray, List.getElem_cons_succ, List.getElem_cons_zero, Act.put, List.setIfInBounds_toArray, List.set_cons_zero, List.set_cons_succ]
      refine wpAnyH_done (by kernel_rfl) ?_ _
      try simp only [List.getElem_toArray, List.getElem_cons_succ, List.getElem_cons_zero, Act.put, List.setIfInBounds_toArray, List.set_cons_zero, List.set_cons_succ]
      clear c1v c2v fzv hHeld
      go_wp2
      go_end0
      exact ⟨rfl, FW.out⟩
    · go_simp
      refine hK.out _ _ ?_ (fun hHeld => ?_)
      · exact c2a _
      clear hK K
      try simp only [List.getElem_toArray, List.getElem_cons_succ, List.getElem_cons_zero, Act.put, List.setIfInBounds_toArray, List.set_cons_zero, List.set_cons_succ]
      refine wpAnyH_ready (rs := [0, 16]) (by kernel_rfl) (by simp) ?_
      refine AllReadyH.cons rfl (fun K hK => ?_) (AllReadyH.cons rfl (fun K hK => ?_) AllReadyH.nil)
      · go_simp
        refine hK.out _ _ ?_ (fun hHeld => ?_)
        · assumption
        clear hK K
        try simp only [List.getElem_toArray, List.getElem_cons_succ, List.getElem_cons_zero, Act.put, List.setIfInBounds_toArray, List.set_cons_zero, List.set_cons_succ]
        refine wpAnyH_ready (rs := [16]) (by kernel_rfl) (by simp) ?_
        refine AllReadyH.cons rfl (fun K hK => ?_) AllReadyH.nil
        refine step_copy_rd rfl (.tmp 7) (.tmp 19) 23 23 rfl 5 Try.underlying23 info1_u8s rfl rfl RL hfl hdl RA (by omega) ?_
        intro v3 O3 R3
        have c1v := (O3.cell (p := ⟨lb, 0, none⟩) n1).trans (c1a (.cells #[.int .u8 ((x0.toNat : Nat) : Int), .int .u8 ((x1.toNat : Nat) : Int), .int .u8 ((x2.toNat : Nat) : Int), .int .u8 ((x3.toNat : Nat) : Int)] 5))
        have c2v := (O3.cell (p := ⟨bb, 0, none⟩) n2).trans (c2a (.cells #[.int .u8 ((x0.toNat : Nat) : Int), .int .u8 ((x1.toNat : Nat) : Int), .int .u8 ((x2.toNat : Nat) : Int), .int .u8 ((x3.toNat : Nat) : Int)] 5))
        have fzv := (O3.frozen (p := ⟨lb, 0, none⟩) n1).trans (fza (.cells #[.int .u8 ((x0.toNat : Nat) : Int), .int .u8 ((x1.toNat : Nat) : Int), .int .u8 ((x2.toNat : Nat) : Int), .int .u8 ((x3.toNat : Nat) : Int)] 5))
        have FW := FIN v3 O3 R3
        clear FIN RL RA
        refine hK.out _ _ ?_ (fun hHeld => ?_)
        · exact c2v
        clear hK K
        try simp only [List.getElem_toArray, List.getElem_cons_succ, List.getElem_cons_zero, Act.put, List.setIfInBounds_toArray, List.set_cons_zero, List.set_cons_succ]
        refine wpAnyH_take (i := 17) (v := ?_) rfl (by kernel_rfl) (by kernel_rfl) (by kernel_rfl) (fun _ _ _ h => h) (Or.inl ⟨by rfl, ?_⟩) (by assumption) ?_
        rotate_left
        · intro w hSw; (try dsimp only at hSw); go_simp; try with_reducible rfl
        try simp only [List.getElem_toArray, List.getElem_cons_succ, List.getElem_cons_zero, Act.put, List.setIfInBounds_toArray, List.set_cons_zero, List.set_cons_succ]
        refine wpAnyH_ready (rs := [18]) (by kernel_rfl) (by simp) ?_
        refine AllReadyH.cons rfl (fun K hK => ?_) AllReadyH.nil
        go_simp
        refine hK.out _ _ ?_ (fun hHeld => ?_)
        · exact (((Only.refl lb v3).setCell 0 _).cell (p := ⟨bb, 0, none⟩) n3.symm).trans c2v
        clear hK K
        try simp only [List.getElem_toArray, List.getElem_cons_succ, List.getElem_cons_zero, Act.put, List.setIfInBounds_toArray, List.set_cons_zero, List.set_cons_succ]
        refine wpAnyH_done (by kernel_rfl) ?_ _
        try simp only [List.getElem_toArray, List.getElem_cons_succ, List.getElem_cons_zero, Act.put, List.setIfInBounds_toArray, List.set_cons_zero, List.set_cons_succ]
        clear c1v c2v fzv hHeld
        go_wp2
        go_end0
        exact ⟨rfl, FW.out⟩
      · refine step_copy_rd rfl (.tmp 7) (.tmp 19) 23 23 rfl 5 Try.underlying23 info1_u8s rfl rfl RL hfl hdl RA (by omega) ?_
        intro v3 O3 R3
        have c1v := (O3.cell (p := ⟨lb, 0, none⟩) n1).trans (c1a (.cells #[.int .u8 ((x0.toNat : Nat) : Int), .int .u8 ((x1.toNat : Nat) : Int), .int .u8 ((x2.toNat : Nat) : Int), .int .u8 ((x3.toNat : Nat) : Int)] 5))
        have c2v := (O3.cell (p := ⟨bb, 0, none⟩) n2).trans (c2a (.cells #[.int .u8 ((x0.toNat : Nat) : Int), .int .u8 ((x1.toNat : Nat) : Int), .int .u8 ((x2.toNat : Nat) : Int), .int .u8 ((x3.toNat : Nat) : Int)] 5))
        have fzv := (O3.frozen (p := ⟨lb, 0, none⟩) n1).trans (fza (.cells #[.int .u8 ((x0.toNat : Nat) : Int), .int .u8 ((x1.toNat : Nat) : Int), .int .u8 ((x2.toNat : Nat) : Int), .int .u8 ((x3.toNat : Nat) : Int)] 5))
        have FW := FIN v3 O3 R3
        clear FIN RL RA
        refine hK.out _ _ ?_ (fun hHeld => ?_)
        · exact c2v
        clear hK K
        try simp only [List.getElem_toArray, List.getElem_cons_succ, List.getElem_cons_zero, Act.put, List.setIfInBounds_toArray, List.set_cons_zero, List.set_cons_succ]
        refine wpAnyH_ready (rs := [0]) (by kernel_rfl) (by simp) ?_
        refine AllReadyH.cons rfl (fun K hK => ?_) AllReadyH.nil
        go_simp
        refine hK.out _ _ ?_ (fun hHeld => ?_)
        · assumption
        clear hK K
        try simp only [List.getElem_toArray, List.getElem_cons_succ, List.getElem_cons_zero, Act.put, List.setIfInBounds_toArray, List.set_cons_zero, List.set_cons_succ]
        refine wpAnyH_take (i := 17) (v := ?_) rfl (by kernel_rfl) (by kernel_rfl) (by kernel_rfl) (fun _ _ _ h => h) (Or.inl ⟨by rfl, ?_⟩) (by assumption) ?_
        rotate_left
        · intro w hSw; (try dsimp only at hSw); go_simp; try with_reducible rfl
        try simp only [List.getElem_toArray, List.getElem_cons_succ, List.getElem_cons_zero, Act.put, List.setIfInBounds_toArray, List.set_cons_zero, List.set_cons_succ]
        refine wpAnyH_ready (rs := [18]) (by kernel_rfl) (by simp) ?_
        refine AllReadyH.cons rfl (fun K hK => ?_) AllReadyH.nil
        go_simp
        refine hK.out _ _ ?_ (fun hHeld => ?_)
        · exact (((Only.refl lb v3).setCell 0 _).cell (p := ⟨bb, 0, none⟩) n3.symm).trans c2v
        clear hK K
        try simp only [List.getElem_toArray, List.getElem_cons_succ, List.getElem_cons_zero, Act.put, List.setIfInBounds_toArray, List.set_cons_zero, List.set_cons_succ]
        refine wpAnyH_done (by kernel_rfl) ?_ _
        try simp only [List.getElem_toArray, List.getElem_cons_succ, List.getElem_cons_zero, Act.put, List.setIfInBounds_toArray, List.set_cons_zero, List.set_cons_succ]
        clear c1v c2v fzv hHeld
        go_wp2
        go_end0
        exact ⟨rfl, FW.out⟩
  · go_simp
    refine hK.out _ _ ?_ (fun hHeld => ?_)
    · exact c2a _
    clear hK K
    try simp only [List.getElem_toArray, List.getElem_cons_succ, List.getElem_cons_zero, Act.put, List.setIfInBounds_toArray, List.set_cons_zero, List.set_cons_succ]
    refine wpAnyH_ready (rs := [0, 2]) (by kernel_rfl) (by simp) ?_
    refine AllReadyH.cons rfl (fun K hK => ?_) (AllReadyH.cons rfl (fun K hK => ?_) AllReadyH.nil)
    · go_simp
      refine hK.out _ _ ?_ (fun hHeld => ?_)
      · assumption
      clear hK K
      try simp only [List.getElem_toArray, List.getElem_cons_succ, List.getElem_cons_zero, Act.put, List.setIfInBounds_toArray, List.set_cons_zero, List.set_cons_succ]
      refine wpAnyH_ready (rs := [2]) (by kernel_rfl) (by simp) ?_
      refine AllReadyH.cons rfl (fun K hK => ?_) AllReadyH.nil
      go_simp
      refine hK.out _ _ ?_ (fun hHeld => ?_)
      · assumption
      clear hK K
      try simp only [List.getElem_toArray, List.getElem_cons_succ, List.getElem_cons_zero, Act.put, List.setIfInBounds_toArray, List.set_cons_zero, List.set_cons_succ]
      refine wpAnyH_take (i := 3) (v := ?_) rfl (by kernel_rfl) (by kernel_rfl) (by kernel_rfl) (fun _ _ _ h => h) (Or.inl ⟨by rfl, ?_⟩) (by assumption) ?_
      rotate_left
      · intro w hSw; (try dsimp only at hSw); go_simp; try with_reducible rfl
      try simp only [List.getElem_toArray, List.getElem_cons_succ, List.getElem_cons_zero, Act.put, List.setIfInBounds_toArray, List.set_cons_zero, List.set_cons_succ]
      refine wpAnyH_ready (rs := [16]) (by kernel_rfl) (by simp) ?_
      refine AllReadyH.cons rfl (fun K hK => ?_) AllReadyH.nil
      refine step_copy_rd rfl (.tmp 7) (.tmp 19) 23 23 rfl 5 Try.underlying23 info1_u8s rfl rfl RL hfl hdl RA (by omega) ?_
      intro v3 O3 R3
      have c1v := (O3.cell (p := ⟨lb, 0, none⟩) n1).trans (c1a (.cells #[.int .u8 ((x0.toNat : Nat) : Int), .int .u8 ((x1.toNat : Nat) : Int), .int .u8 ((x2.toNat : Nat) : Int), .int .u8 ((x3.toNat : Nat) : Int)] 5))
      have c2v := (O3.cell (p := ⟨bb, 0, none⟩) n2).trans (c2a (.cells #[.int .u8 ((x0.toNat : Nat) : Int), .int .u8 ((x1.toNat : Nat) : Int), .int .u8 ((x2.toNat : Nat) : Int), .int .u8 ((x3.toNat : Nat) : Int)] 5))
      have fzv := (O3.frozen (p := ⟨lb, 0, none⟩) n1).trans (fza (.cells #[.int .u8 ((x0.toNat : Nat) : Int), .int .u8 ((x1.toNat : Nat) : Int), .int .u8 ((x2.toNat : Nat) : Int), .int .u8 ((x3.toNat : Nat) : Int)] 5))
      have FW := FIN v3 O3 R3
      clear FIN RL RA
      refine hK.out _ _ ?_ (fun hHeld => ?_)
      · exact c2v
      clear hK K
      try simp only [List.getElem_toArray, List.getElem_cons_succ, List.getElem_cons_zero, Act.put, List.setIfInBounds_toArray, List.set_cons_zero, List.set_cons_succ]
      refine wpAnyH_take (i := 17) (v := ?_) rfl (by kernel_rfl) (by kernel_rfl) (by kernel_rfl) (fun _ _ _ h => h) (Or.inl ⟨by rfl, ?_⟩) (by assumption) ?_
      rotate_left
      · intro w hSw; (try dsimp only at hSw); go_simp; try with_reducible rfl
      try simp only [List.getElem_toArray, List.getElem_cons_succ, List.getElem_cons_zero, Act.put, List.setIfInBounds_toArray, List.set_cons_zero, List.set_cons_succ]
      refine wpAnyH_ready (rs := [18]) (by kernel_rfl) (by simp) ?_
      refine AllReadyH.cons rfl (fun K hK => ?_) AllReadyH.nil
      go_simp
      refine hK.out _ _ ?_ (fun hHeld => ?_)
      · exact (((Only.refl lb v3).setCell 0 _).cell (p := ⟨bb, 0, none⟩) n3.symm).trans c2v
      clear hK K
      try simp only [List.getElem_toArray, List.getElem_cons_succ, List.getElem_cons_zero, Act.put, List.setIfInBounds_toArray, List.set_cons_zero, List.set_cons_succ]
      refine wpAnyH_done (by kernel_rfl) ?_ _
      try simp only [List.getElem_toArray, List.getElem_cons_succ, List.getElem_cons_zero, Act.put, List.setIfInBounds_toArray, List.set_cons_zero, List.set_cons_succ]
      clear c1v c2v fzv hHeld
      go_wp2
      go_end0
      exact ⟨rfl, FW.out⟩
    · go_simp
      refine hK.out _ _ ?_ (fun hHeld => ?_)
      · assumption
      clear hK K
      try simp only [List.getElem_toArray, List.getElem_cons_succ, List.getElem_cons_zero, Act.put, List.setIfInBounds_toArray, List.set_cons_zero, List.set_cons_succ]
      refine wpAnyH_take (i := 3) (v := ?_) rfl (by kernel_rfl) (by kernel_rfl) (by kernel_rfl) (fun _ _ _ h => h) (Or.inl ⟨by rfl, ?_⟩) (by assumption) ?_
      rotate_left
      · intro w hSw; (try dsimp only at hSw); go_simp; try with_reducible rfl
      try simp only [List.getElem_toArray, List.getElem_cons_succ, List.getElem_cons_zero, Act.put, List.setIfInBounds_toArray, List.set_cons_zero, List.set_cons_succ]
      refine wpAnyH_ready (rs := [0, 16]) (by kernel_rfl) (by simp) ?_
      refine AllReadyH.cons rfl (fun K hK => ?_) (AllReadyH.cons rfl (fun K hK => ?_) AllReadyH.nil)
      · go_simp
        refine hK.out _ _ ?_ (fun hHeld => ?_)
        · assumption
        clear hK K
        try simp only [List.getElem_toArray, List.getElem_cons_succ, List.getElem_cons_zero, Act.put, List.setIfInBounds_toArray, List.set_cons_zero, List.set_cons_succ]
        refine wpAnyH_ready (rs := [16]) (by kernel_rfl) (by simp) ?_
        refine AllReadyH.cons rfl (fun K hK => ?_) AllReadyH.nil
        refine step_copy_rd rfl (.tmp 7) (.tmp 19) 23 23 rfl 5 Try.underlying23 info1_u8s rfl rfl RL hfl hdl RA (by omega) ?_
        intro v3 O3 R3
        have c1v := (O3.cell (p := ⟨lb, 0, none⟩) n1).trans (c1a (.cells #[.int .u8 ((x0.toNat : Nat) : Int), .int .u8 ((x1.toNat : Nat) : Int), .int .u8 ((x2.toNat : Nat) : Int), .int .u8 ((x3.toNat : Nat) : Int)] 5))
        have c2v := (O3.cell (p := ⟨bb, 0, none⟩) n2).trans (c2a (.cells #[.int .u8 ((x0.toNat : Nat) : Int), .int .u8 ((x1.toNat : Nat) : Int), .int .u8 ((x2.toNat : Nat) : Int), .int .u8 ((x3.toNat : Nat) : Int)] 5))
        have fzv := (O3.frozen (p := ⟨lb, 0, none⟩) n1).trans (fza (.cells #[.int .u8 ((x0.toNat : Nat) : Int), .int .u8 ((x1.toNat : Nat) : Int), .int .u8 ((x2.toNat : Nat) : Int), .int .u8 ((x3.toNat : Nat) : Int)] 5))
        have FW := FIN v3 O3 R3
        clear FIN RL RA
        refine hK.out _ _ ?_ (fun hHeld => ?_)
        · exact c2v
        clear hK K
        try simp only [List.getElem_toArray, List.getElem_cons_succ, List.getElem_cons_zero, Act.put, List.setIfInBounds_toArray, List.set_cons_zero, List.set_cons_succ]
        refine wpAnyH_take (i := 17) (v := ?_) rfl (by kernel_rfl) (by kernel_rfl) (by kernel_rfl) (fun _ _ _ h => h) (Or.inl ⟨by rfl, ?_⟩) (by assumption) ?_
        rotate_left
        · intro w hSw; (try dsimp only at hSw); go_simp; try with_reducible rfl
        try simp only [List.getElem_toArray, List.getElem_cons_succ, List.getElem_cons_zero, Act.put, List.setIfInBounds_toArray, List.set_cons_zero, List.set_cons_succ]
        refine wpAnyH_ready (rs := [18]) (by kernel_rfl) (by simp) ?_
        refine AllReadyH.cons rfl (fun K hK => ?_) AllReadyH.nil
        go_simp
        refine hK.out _ _ ?_ (fun hHeld => ?_)
        · exact (((Only.refl lb v3).setCell 0 _).cell (p := ⟨bb, 0, none⟩) n3.symm).trans c2v
        clear hK K
        try simp only [List.getElem_toArray, List.getElem_cons_succ, List.getElem_cons_zero, Act.put, List.setIfInBounds_toArray, List.set_cons_zero, List.set_cons_succ]
        refine wpAnyH_done (by kernel_rfl) ?_ _
        try simp only [List.getElem_toArray, List.getElem_cons_succ, List.getElem_cons_zero, Act.put, List.setIfInBounds_toArray, List.set_cons_zero, List.set_cons_succ]
        clear c1v c2v fzv hHeld
        go_wp2
        go_end0
        exact ⟨rfl, FW.out⟩
      · refine step_copy_rd rfl (.tmp 7) (.tmp 19) 23 23 rfl 5 Try.underlying23 info1_u8s rfl rfl RL hfl hdl RA (by omega) ?_
        intro v3 O3 R3
        have c1v := (O3.cell (p := ⟨lb, 0, none⟩) n1).trans (c1a (.cells #[.int .u8 ((x0.toNat : Nat) : Int), .int .u8 ((x1.toNat : Nat) : Int), .int .u8 ((x2.toNat : Nat) : Int), .int .u8 ((x3.toNat : Nat) : Int)] 5))
        have c2v := (O3.cell (p := ⟨bb, 0, none⟩) n2).trans (c2a (.cells #[.int .u8 ((x0.toNat : Nat) : Int), .int .u8 ((x1.toNat : Nat) : Int), .int .u8 ((x2.toNat : Nat) : Int), .int .u8 ((x3.toNat : Nat) : Int)] 5))
        have fzv := (O3.frozen (p := ⟨lb, 0, none⟩) n1).trans (fza (.cells #[.int .u8 ((x0.toNat : Nat) : Int), .int .u8 ((x1.toNat : Nat) : Int), .int .u8 ((x2.toNat : Nat) : Int), .int .u8 ((x3.toNat : Nat) : Int)] 5))
        have FW := FIN v3 O3 R3
        clear FIN RL RA
        refine hK.out _ _ ?_ (fun hHeld => ?_)
        · exact c2v
        clear hK K
        try simp only [List.getElem_toArray, List.getElem_cons_succ, List.getElem_cons_zero, Act.put, List.setIfInBounds_toArray, List.set_cons_zero, List.set_cons_succ]
        refine wpAnyH_ready (rs := [0]) (by kernel_rfl) (by simp) ?_
        refine AllReadyH.cons rfl (fun K hK => ?_) AllReadyH.nil
        go_simp
        refine hK.out _ _ ?_ (fun hHeld => ?_)
        · assumption
        clear hK K
        try simp only [List.getElem_toArray, List.getElem_cons_succ, List.getElem_cons_zero, Act.put, List.setIfInBounds_toArray, List.set_cons_zero, List.set_cons_succ]
        refine wpAnyH_take (i := 17) (v := ?_) rfl (by kernel_rfl) (by kernel_rfl) (by kernel_rfl) (fun _ _ _ h => h) (Or.inl ⟨by rfl, ?_⟩) (by assumption) ?_
        rotate_left
        · intro w hSw; (try dsimp only at hSw); go_simp; try with_reducible rfl
        try simp only [List.getElem_toArray, List.getElem_cons_succ, List.getElem_cons_zero, Act.put, List.setIfInBounds_toArray, List.set_cons_zero, List.set_cons_succ]
        refine wpAnyH_ready (rs := [18]) (by kernel_rfl) (by simp) ?_
        refine AllReadyH.cons rfl (fun K hK => ?_) AllReadyH.nil
        go_simp
        refine hK.out _ _ ?_ (fun hHeld => ?_)
        · exact (((Only.refl lb v3).setCell 0 _).cell (p := ⟨bb, 0, none⟩) n3.symm).trans c2v
        clear hK K
        try simp only [List.getElem_toArray, List.getElem_cons_succ, List.getElem_cons_zero, Act.put, List.setIfInBounds_toArray, List.set_cons_zero, List.set_cons_succ]
        refine wpAnyH_done (by kernel_rfl) ?_ _
        try simp only [List.getElem_toArray, List.getElem_cons_succ, List.getElem_cons_zero, Act.put, List.setIfInBounds_toArray, List.set_cons_zero, List.set_cons_succ]
        clear c1v c2v fzv hHeld
        go_wp2
        go_end0
        exact ⟨rfl, FW.out⟩
  -- REGION END
end Go.Proofs.Ytfdihdndldiafaa.Gf

/-
  THE PROGRAM's SECTORS BY CONTRACT (package sector): a number that is read; 'bytes.Clone'.
-/


namespace Go.Proofs.Ytfdihdndldiafaa.Gf
set_option linter.unusedVariables false
set_option linter.unusedSimpArgs false
open Go.RowKit

theorem i64_or_nat {a b : Nat} (ha : a < 9223372036854775808) (hb : b < 9223372036854775808) : bits .or .i64 (a : Int) (b : Int) = ((a ||| b : Nat) : Int) := by
  have h : a ||| b < 9223372036854775808 := Nat.or_lt_two_pow (n := 63) ha hb
  show IntKind.i64.wrap ((BitVec.ofInt 64 (a : Int) ||| BitVec.ofInt 64 (b : Int)).toNat : Nat) = _
  rw [BitVec.toNat_or, BitVec.ofInt_natCast, BitVec.ofInt_natCast, BitVec.toNat_ofNat, BitVec.toNat_ofNat, Nat.mod_eq_of_lt (by omega), Nat.mod_eq_of_lt (by omega), IntKind.wrap_i64]
  omega
theorem or_byte {a : Nat} {x : UInt8} : a * 256 ||| x.toNat = a * 256 + x.toNat := by
  have := Nat.two_pow_add_eq_or_of_lt (i := 8) (b := x.toNat) x.toNat_lt a
  rw [Nat.mul_comm a 256]
  exact this.symm
/-- the number of the first k of some bytes -/
def nuK (q : List UInt8) : Nat → Nat
  | 0 => 0
  | k + 1 => nuK q k * 256 + (co q k).toNat
theorem nuK_four (q : List UInt8) : nuK q 4 = nu q := by
  show (((0 * 256 + (co q 0).toNat) * 256 + (co q 1).toNat) * 256 + (co q 2).toNat) * 256 + (co q 3).toNat = nu q
  unfold nu
  omega
theorem nuK_lt (q : List UInt8) : ∀ k, nuK q k < 256 ^ k
  | 0 => by simp [nuK]
  | k + 1 => by
    have := nuK_lt q k
    have h := (co q k).toNat_lt
    rw [Nat.pow_succ]
    show nuK q k * 256 + (co q k).toNat < _
    omega

set_option maxRecDepth 100000 in
set_option maxHeartbeats 1000000 in
theorem snum_any {p : List UInt8} {w : World} {a : Option Addr} {c : Nat} (hp : Rd w (.slice a p.length c) p) (hl : 12 ≤ p.length) : Calls Try.prog 20 #[.slice a p.length c, .int .i64 4] w fun e w' => e = .returned (.int .i64 ((epS p : Nat) : Int)) ∧ w' = w := by
  obtain ⟨q, hq⟩ : ∃ q, Hid (q = (p.drop 4).take 4) := ⟨_, rfl⟩
  have HE : Hid (nuK q 4 = epS p) := by show _ = _; rw [nuK_four, hq.out]; rfl
  rw [← HE.out]
  clear HE
  rcases hp with ⟨a', c', rfl, _⟩ | ⟨b, o, c', hp0, e0, h1, h2, h3, hpc⟩
  · simp at hl
  simp at e0
  obtain ⟨rfl, rfl⟩ := e0
  have g1 : (8 : Int) ≤ (p.length : Int) := by omega
  have g2 : (4 : Int) ≤ (p.length : Int) := by omega
  have g3 : 8 ≤ c := by omega
  have g4 : (8 : Int) ≤ (c : Int) := by omega
  have g5 : ¬ c = 4 := by omega
  have cells : ∀ k, k < 4 → w.cell? ⟨b, o + 4 + k, none⟩ = some (.int .u8 (((co q k).toNat : Nat) : Int)) := by
    intro k hk
    have e := hpc (4 + k) (by omega)
    rw [← Nat.add_assoc] at e
    rw [e, hq.out, co_take hk, co_drop0]
  clear hpc hq
  go_enter Try.func20, Try.ntmps20
  go_wp2
  clear g1 g2 g3 g4 g5
  go_loop [5, 14] (fun x i => ∃ k : Nat, k ≤ 4 ∧ i = .int .i64 (k : Int) ∧ x = .int .i64 ((nuK q k : Nat) : Int)) (fun _ i => 4 - (intOf i).toNat)
  case atStart => exact ⟨0, by omega, rfl, rfl⟩
  case round =>
    obtain ⟨k, hk, rfl, rfl⟩ := hrel
    by_cases hlt : k < 4
    · have hlt' : (k : Int) < 4 := by omega
      have c1 := cells k hlt
      have hz := nuK_lt q k
      have h4 : 256 ^ k ≤ 256 ^ 3 := Nat.pow_le_pow_right (by decide) (by omega)
      have hz3 : nuK q k < 16777216 := Nat.lt_of_lt_of_le hz h4
      have HS : Hid (nuK q (k + 1) = nuK q k * 256 + (co q k).toNat) := rfl
      clear cells hz h4
      obtain ⟨z, ez⟩ : ∃ z, Hid (z = nuK q k) := ⟨_, rfl⟩
      rw [← ez.out] at hz3 HS ⊢
      have hb := (co q k).toNat_lt
      have Z1 : IntKind.i64.wrap ((z : Int) * 256) = ((z * 256 : Nat) : Int) := by rw [IntKind.wrap_i64]; omega
      have Z2 : IntKind.i64.wrap (((co q k).toNat : Nat) : Int) = (((co q k).toNat : Nat) : Int) := by rw [IntKind.wrap_i64]; omega
      have Z3 : bits .or .i64 ((z * 256 : Nat) : Int) (((co q k).toNat : Nat) : Int) = ((nuK q (k + 1) : Nat) : Int) := by
        rw [i64_or_nat (by omega) (by omega), or_byte, HS.out]
      obtain ⟨y, ey⟩ : ∃ y, Hid (y = z * 256) := ⟨_, rfl⟩
      rw [← ey.out] at Z1 Z3
      clear HS ez ey
      go_wp2
      go_round
      case rel => exact ⟨k + 1, by omega, by go_num, rfl⟩
      case measure => simp [intOf]; omega
    · have e : k = 4 := by omega
      subst e
      clear cells
      go_wp2
      go_ret
      exact ⟨rfl, rfl⟩

set_option maxRecDepth 100000 in
set_option maxHeartbeats 2000000 in
theorem sclone_any {p : List UInt8} {w : World} {a : Addr} {c : Nat} (hp : Rd w (.slice (some a) p.length c) p) (hl : p.length ≤ 100000) : Calls Try.prog 22 #[.slice (some a) p.length c] w fun e w' => ∃ v, e = .returned v ∧ Rd w' v p ∧ Below w.heap.size w w' := by
  obtain ⟨i0, hi, hz0, hz1, hz2⟩ := info_parts info_u8
  have qT : ∀ (w : World) (a : Option Addr) (n c n' c' : Nat), (binOp .eql 23 (.slice a n c) (.slice none n' c')).run Try.prog w = .ok (.bool a.isNone) w := fun w a n c n' c' => Lib.run_eql_slice_nil w _ _ a n c n' c' Try.underlying23
  have B1 : Below w.heap.size w (w.alloc (.cells #[] 5)) := (Below.refl _ _).alloc (Nat.le_refl _) _
  have O1 : (w.alloc (.cells #[] 5)).ownsRow w.heap.size 5 1 (.slice (some ⟨w.heap.size, 0, none⟩) 0 0) 0 [] := own_new w _
  have hp1 := hp.below B1
  have hsz : w.heap.size ≤ (w.alloc (.cells #[] 5)).heap.size := B1.size
  go_enter Try.func22, Try.ntmps22
  go_wp2_with (at_builtin; go_loud (refine wpList_append_rd _ rfl (.tmp 5) (.tmp 6) 23 rfl w.heap.size 5 i0 Try.underlying23 hi hz0 hz1 hz2 (.slice (some ⟨w.heap.size, 0, none⟩) 0 0) 0 [] rfl O1 (.slice (some a) p.length c) p rfl hp1 (by omega) hsz ?_); intro v' w9 hv9 hg9)
  have HB : Hid (Below w.heap.size w w9) := B1.grown hg9 hsz (fun q hq => by cases hq; exact Nat.le_refl _)
  have HO : Hid (Rd w9 v' p) := rd_one hv9
  clear hv9 hg9 B1 O1 hp1 hp qT
  go_wp2
  go_ret
  exact ⟨v', rfl, HO.out, HB.out⟩
end Go.Proofs.Ytfdihdndldiafaa.Gf

