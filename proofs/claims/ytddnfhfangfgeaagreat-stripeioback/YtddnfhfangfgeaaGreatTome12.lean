/- TEXTS JOINED: SeCA, BcC, MpI, DkTurn, FarV, SeCB. -/
import Derived.Test.YtddnfhfangfgeaaGreatTome11
import Derived.Test.YtddnfhfangfgeaaGreatTome3
import Derived.Test.YtddnfhfangfgeaaGreatTome5
import Derived.Deep.RegionHeld3
import Derived.Test.YtddnfhfangfgeaaGreatTome2
import Derived.Lib.SliceRun
import Derived.Test.YtddnfhfangfgeaaGreatTome1
import Derived.Maps.OwnSet
import Derived.Maps.Ext
namespace Go.Proofs.YtddnfhfangfgeaaGreat.Gf
set_option linter.unusedVariables false
set_option linter.unusedSimpArgs false
open Go.RowKit
theorem smay_any {n : Int} {w : World} : Calls Tryz.prog 124 #[.int .i64 n] w fun e w' => e = .returned (.bool (decide (0 ≤ n ∧ n ≤ 2147483647))) ∧ w' = w := by
  by_cases h0 : 0 ≤ n
  · have h0' : n ≥ 0 := h0
    by_cases h1 : n ≤ 2147483647
    · have E : decide (0 ≤ n ∧ n ≤ 2147483647) = true := decide_eq_true ⟨h0, h1⟩
      rw [E]
      clear E
      go_enter Tryz.func124, Tryz.ntmps124
      go_wp2
      go_ret
      exact ⟨rfl, rfl⟩
    · have E : decide (0 ≤ n ∧ n ≤ 2147483647) = false := decide_eq_false (by omega)
      rw [E]
      clear E
      go_enter Tryz.func124, Tryz.ntmps124
      go_wp2
      go_ret
      exact ⟨rfl, rfl⟩
  · have h0' : ¬ n ≥ 0 := h0
    have E : decide (0 ≤ n ∧ n ≤ 2147483647) = false := decide_eq_false (by omega)
    rw [E]
    clear E
    go_enter Tryz.func124, Tryz.ntmps124
    go_wp2
    go_ret
    exact ⟨rfl, rfl⟩
theorem info1_u8s : (Tryz.prog.info? 5).map (·.size) = some 1 := by
  obtain ⟨i0, hi, hz0, hz1, hz2⟩ := info_parts info_u8
  rw [hi]
  simp [hz1]
theorem wrap_u8 (m : Nat) : IntKind.u8.wrap (m : Int) = (((UInt8.ofNat m).toNat : Nat) : Int) := by
  rw [IntKind.wrap_u8, UInt8.toNat_ofNat']
  omega
set_option maxRecDepth 100000 in
set_option maxHeartbeats 4000000 in
theorem slay_any {w : World} {lb bb g L k n base : Nat} {f : Nat → UInt8} {u : Int} (hu : u = (n : Int)) (c1 : w.cell? ⟨lb, 0, none⟩ = some (.int .i64 (k : Int))) (c2 : w.cell? ⟨bb, 0, none⟩ = some (.slice (some ⟨g, 0, none⟩) L L)) (fz : w.frozen? ⟨lb, 0, none⟩ = false) (hR : RowF w base 5 g L L f) (hk : k + 4 ≤ L) (hL : L ≤ 5000) (l1 : lb < w.heap.size) (l2 : bb < w.heap.size) (n1 : lb ≠ g) (n2 : bb ≠ g) (n3 : lb ≠ bb) :
    Calls Tryz.prog 125 #[.int .u32 u, .pointer (some ⟨lb, 0, none⟩), .pointer (some ⟨bb, 0, none⟩)] w fun e w' => e = .returned (.tuple #[]) ∧ w'.cell? ⟨lb, 0, none⟩ = some (.int .i64 ((k + 4 : Nat) : Int)) ∧ w'.cell? ⟨bb, 0, none⟩ = some (.slice (some ⟨g, 0, none⟩) L L) ∧ w'.frozen? ⟨lb, 0, none⟩ = false ∧ RowF w' base 5 g L L (putAt f k 4 (co (fo n))) ∧ TurnL [lb, g] w w' := by
  subst hu
  obtain ⟨x0, hx0⟩ : ∃ x, Hid (x = UInt8.ofNat (n / 16777216)) := ⟨_, rfl⟩
  obtain ⟨x1, hx1⟩ : ∃ x, Hid (x = UInt8.ofNat (n / 65536)) := ⟨_, rfl⟩
  obtain ⟨x2, hx2⟩ : ∃ x, Hid (x = UInt8.ofNat (n / 256)) := ⟨_, rfl⟩
  obtain ⟨x3, hx3⟩ : ∃ x, Hid (x = UInt8.ofNat n) := ⟨_, rfl⟩
  have q0 : IntKind.u8.wrap ((n : Int) / 16777216) = ((x0.toNat : Nat) : Int) := by rw [hx0.out]; exact wrap_u8 (n / 16777216)
  have q1 : IntKind.u8.wrap ((n : Int) / 65536) = ((x1.toNat : Nat) : Int) := by rw [hx1.out]; exact wrap_u8 (n / 65536)
  have q2 : IntKind.u8.wrap ((n : Int) / 256) = ((x2.toNat : Nat) : Int) := by rw [hx2.out]; exact wrap_u8 (n / 256)
  have q3 : IntKind.u8.wrap (n : Int) = ((x3.toNat : Nat) : Int) := by rw [hx3.out]; exact wrap_u8 n
  have hF : Hid (fo n = [x0, x1, x2, x3]) := by show _ = _; rw [hx0.out, hx1.out, hx2.out, hx3.out]; rfl
  rw [hF.out]
  clear hF hx0 hx1 hx2 hx3
  have RL : Rd (w.drew.alloc (.cells #[.int .u8 ((x0.toNat : Nat) : Int), .int .u8 ((x1.toNat : Nat) : Int), .int .u8 ((x2.toNat : Nat) : Int), .int .u8 ((x3.toNat : Nat) : Int)] 5)) (.slice (some ⟨w.heap.size, 0, none⟩) 4 4) [x0, x1, x2, x3] := rd_lit (w := w.drew) [x0, x1, x2, x3] rfl rfl (by decide)
  have hfl : [x0, x1, x2, x3].length = 4 := rfl
  have RA : RowF (w.drew.alloc (.cells #[.int .u8 ((x0.toNat : Nat) : Int), .int .u8 ((x1.toNat : Nat) : Int), .int .u8 ((x2.toNat : Nat) : Int), .int .u8 ((x3.toNat : Nat) : Int)] 5)) base 5 g L L f := hR.later (((Below.refl _ _).drew).alloc (Nat.le_refl _) _)
  have c1a : ∀ o, (w.drew.alloc o).cell? ⟨lb, 0, none⟩ = some (.int .i64 (k : Int)) := fun o => (World.cell?_alloc_past _ _ _ l1).trans c1
  have c2a : ∀ o, (w.drew.alloc o).cell? ⟨bb, 0, none⟩ = some (.slice (some ⟨g, 0, none⟩) L L) := fun o => (World.cell?_alloc_past _ _ _ l2).trans c2
  have fza : ∀ o, (w.drew.alloc o).frozen? ⟨lb, 0, none⟩ = false := fun o => (((Below.refl w.heap.size w).drew.alloc (Nat.le_refl _) o).frozen (p := ⟨lb, 0, none⟩) l1).trans fz
  have hdl : 4 ≤ L - k := by omega
  obtain ⟨m, hm⟩ : ∃ m, Hid (m = k + 4) := ⟨_, rfl⟩
  rw [← hm.out]
  have g0 : (k : Int) + 4 = (m : Int) := by have := hm.out; omega
  have gw : IntKind.i64.wrap (m : Int) = (m : Int) := by rw [IntKind.wrap_i64]; have := hm.out; omega
  clear hm
  have g1 : (k : Int) ≤ (L : Int) := by omega
  have g2 : ¬ L = k := by omega
  have g3 : k < L := by omega
  have FIN : ∀ v3, Only g (w.drew.alloc (.cells #[.int .u8 ((x0.toNat : Nat) : Int), .int .u8 ((x1.toNat : Nat) : Int), .int .u8 ((x2.toNat : Nat) : Int), .int .u8 ((x3.toNat : Nat) : Int)] 5)) v3 → RowF v3 base 5 g L L (putAt f k 4 (co [x0, x1, x2, x3])) → Hid ((v3.setCell ⟨lb, 0, none⟩ (.int .i64 (m : Int))).cell? ⟨lb, 0, none⟩ = some (.int .i64 (m : Int)) ∧ (v3.setCell ⟨lb, 0, none⟩ (.int .i64 (m : Int))).cell? ⟨bb, 0, none⟩ = some (.slice (some ⟨g, 0, none⟩) L L) ∧ (v3.setCell ⟨lb, 0, none⟩ (.int .i64 (m : Int))).frozen? ⟨lb, 0, none⟩ = false ∧ RowF (v3.setCell ⟨lb, 0, none⟩ (.int .i64 (m : Int))) base 5 g L L (putAt f k 4 (co [x0, x1, x2, x3])) ∧ TurnL [lb, g] w (v3.setCell ⟨lb, 0, none⟩ (.int .i64 (m : Int)))) := by
    intro v3 O3 R3
    have c1v := (O3.cell (p := ⟨lb, 0, none⟩) n1).trans (c1a _)
    have c2v := (O3.cell (p := ⟨bb, 0, none⟩) n2).trans (c2a _)
    have fzv := (O3.frozen (p := ⟨lb, 0, none⟩) n1).trans (fza _)
    have OO := (Only.refl lb v3).setCell 0 (.int .i64 (m : Int))
    have T1 : TurnL [lb, g] w (w.drew.alloc (.cells #[.int .u8 ((x0.toNat : Nat) : Int), .int .u8 ((x1.toNat : Nat) : Int), .int .u8 ((x2.toNat : Nat) : Int), .int .u8 ((x3.toNat : Nat) : Int)] 5)) := Below.turnL (((Below.refl _ _).drew).alloc (Nat.le_refl _) _) _
    refine ⟨by simp [go_sem, c1v], (OO.cell (p := ⟨bb, 0, none⟩) n3.symm).trans c2v, by simp [go_sem, fzv], R3.only n1.symm OO, (T1.trans (O3.turnL (by simp))).trans (OO.turnL (by simp))⟩
  clear hR
  go_enter Tryz.func125, Tryz.ntmps125
  go_wp2
  -- REGION
  refine wp_region_held_drew (S := (fun wx => wx.cell? ⟨bb, 0, none⟩ = some (.slice (some ⟨g, 0, none⟩) L L))) (by kernel_rfl) ?_ (fun hHeld => ?_)
  · exact c2
  refine wpAnyH_take (i := 1) (v := ?_) rfl (by kernel_rfl) (by kernel_rfl) (by kernel_rfl) (fun _ _ _ h => h) (Or.inl ⟨by rfl, ?_⟩) (by assumption) ?_
  rotate_left
  · intro w hSw; (try dsimp only at hSw); go_simp; try with_reducible rfl
  try simp only [List.getElem_toArray, List.getElem_cons_succ, List.getElem_cons_zero, Act.put, List.setIfInBounds_toArray, List.set_cons_zero, List.set_cons_succ]
  refine wpAnyH_take (i := 4) (v := ?_) rfl (by kernel_rfl) (by kernel_rfl) (by kernel_rfl) (fun _ _ _ h => h) (Or.inl ⟨by rfl, ?_⟩) (by assumption) ?_
  rotate_left
  · intro w hSw; (try dsimp only at hSw); go_simp; try with_reducible rfl
  try simp only [List.getElem_toArray, List.getElem_cons_succ, List.getElem_cons_zero, Act.put, List.setIfInBounds_toArray, List.set_cons_zero, List.set_cons_succ]
  refine wpAnyH_take (i := 5) (v := ?_) rfl (by kernel_rfl) (by kernel_rfl) (by kernel_rfl) (fun _ _ _ h => h) (Or.inl ⟨by rfl, ?_⟩) (by assumption) ?_
  rotate_left
  · intro w hSw; (try dsimp only at hSw); go_simp; try with_reducible rfl
  try simp only [List.getElem_toArray, List.getElem_cons_succ, List.getElem_cons_zero, Act.put, List.setIfInBounds_toArray, List.set_cons_zero, List.set_cons_succ]
  refine wpAnyH_take (i := 6) (v := ?_) rfl (by kernel_rfl) (by kernel_rfl) (by kernel_rfl) (fun _ _ _ h => h) (Or.inl ⟨by rfl, ?_⟩) (by assumption) ?_
  rotate_left
  · intro w hSw; (try dsimp only at hSw); go_simp; try with_reducible rfl
  try simp only [List.getElem_toArray, List.getElem_cons_succ, List.getElem_cons_zero, Act.put, List.setIfInBounds_toArray, List.set_cons_zero, List.set_cons_succ]
  refine wpAnyH_take (i := 7) (v := ?_) rfl (by kernel_rfl) (by kernel_rfl) (by kernel_rfl) (fun _ _ _ h => h) (Or.inl ⟨by rfl, ?_⟩) (by assumption) ?_
  rotate_left
  · intro w hSw; (try dsimp only at hSw); go_simp; try with_reducible rfl
  try simp only [List.getElem_toArray, List.getElem_cons_succ, List.getElem_cons_zero, Act.put, List.setIfInBounds_toArray, List.set_cons_zero, List.set_cons_succ]
  refine wpAnyH_take (i := 8) (v := ?_) rfl (by kernel_rfl) (by kernel_rfl) (by kernel_rfl) (fun _ _ _ h => h) (Or.inl ⟨by rfl, ?_⟩) (by assumption) ?_
  rotate_left
  · intro w hSw; (try dsimp only at hSw); go_simp; try with_reducible rfl
  try simp only [List.getElem_toArray, List.getElem_cons_succ, List.getElem_cons_zero, Act.put, List.setIfInBounds_toArray, List.set_cons_zero, List.set_cons_succ]
  refine wpAnyH_take (i := 9) (v := ?_) rfl (by kernel_rfl) (by kernel_rfl) (by kernel_rfl) (fun _ _ _ h => h) (Or.inl ⟨by rfl, ?_⟩) (by assumption) ?_
  rotate_left
  · intro w hSw; (try dsimp only at hSw); go_simp; try with_reducible rfl
  try simp only [List.getElem_toArray, List.getElem_cons_succ, List.getElem_cons_zero, Act.put, List.setIfInBounds_toArray, List.set_cons_zero, List.set_cons_succ]
  refine wpAnyH_take (i := 10) (v := ?_) rfl (by kernel_rfl) (by kernel_rfl) (by kernel_rfl) (fun _ _ _ h => h) (Or.inl ⟨by rfl, ?_⟩) (by assumption) ?_
  rotate_left
  · intro w hSw; (try dsimp only at hSw); go_simp; try with_reducible rfl
  try simp only [List.getElem_toArray, List.getElem_cons_succ, List.getElem_cons_zero, Act.put, List.setIfInBounds_toArray, List.set_cons_zero, List.set_cons_succ]
  refine wpAnyH_take (i := 11) (v := ?_) rfl (by kernel_rfl) (by kernel_rfl) (by kernel_rfl) (fun _ _ _ h => h) (Or.inl ⟨by rfl, ?_⟩) (by assumption) ?_
  rotate_left
  · intro w hSw; (try dsimp only at hSw); go_simp; try with_reducible rfl
  try simp only [List.getElem_toArray, List.getElem_cons_succ, List.getElem_cons_zero, Act.put, List.setIfInBounds_toArray, List.set_cons_zero, List.set_cons_succ]
  refine wpAnyH_take (i := 12) (v := ?_) rfl (by kernel_rfl) (by kernel_rfl) (by kernel_rfl) (fun _ _ _ h => h) (Or.inl ⟨by rfl, ?_⟩) (by assumption) ?_
  rotate_left
  · intro w hSw; (try dsimp only at hSw); go_simp; try with_reducible rfl
  try simp only [List.getElem_toArray, List.getElem_cons_succ, List.getElem_cons_zero, Act.put, List.setIfInBounds_toArray, List.set_cons_zero, List.set_cons_succ]
  refine wpAnyH_take (i := 13) (v := ?_) rfl (by kernel_rfl) (by kernel_rfl) (by kernel_rfl) (fun _ _ _ h => h) (Or.inl ⟨by rfl, ?_⟩) (by assumption) ?_
  rotate_left
  · intro w hSw; (try dsimp only at hSw); go_simp; try with_reducible rfl
  try simp only [List.getElem_toArray, List.getElem_cons_succ, List.getElem_cons_zero, Act.put, List.setIfInBounds_toArray, List.set_cons_zero, List.set_cons_succ]
  refine wpAnyH_take (i := 14) (v := ?_) rfl (by kernel_rfl) (by kernel_rfl) (by kernel_rfl) (fun _ _ _ h => h) (Or.inl ⟨by rfl, ?_⟩) (by assumption) ?_
  rotate_left
  · intro w hSw; (try dsimp only at hSw); go_simp; try with_reducible rfl
  try simp only [List.getElem_toArray, List.getElem_cons_succ, List.getElem_cons_zero, Act.put, List.setIfInBounds_toArray, List.set_cons_zero, List.set_cons_succ]
  refine wpAnyH_ready (rs := [0, 2, 15]) (by kernel_rfl) (by simp) ?_
  refine AllReadyH.cons rfl (fun K hK => ?_) (AllReadyH.cons rfl (fun K hK => ?_) (AllReadyH.cons rfl (fun K hK => ?_) AllReadyH.nil))
  · go_simp
    refine hK.out _ _ ?_ (fun hHeld => ?_)
    · assumption
    clear hK K
    try simp only [List.getElem_toArray, List.getElem_cons_succ, List.getElem_cons_zero, Act.put, List.setIfInBounds_toArray, List.set_cons_zero, List.set_cons_succ]
    refine wpAnyH_ready (rs := [2, 15]) (by kernel_rfl) (by simp) ?_
    refine AllReadyH.cons rfl (fun K hK => ?_) (AllReadyH.cons rfl (fun K hK => ?_) AllReadyH.nil)
    · go_simp
      refine hK.out _ _ ?_ (fun hHeld => ?_)
      · assumption
      clear hK K
      try simp only [List.getElem_toArray, List.getElem_cons_succ, List.getElem_cons_zero, Act.put, List.setIfInBounds_toArray, List.set_cons_zero, List.set_cons_succ]
      refine wpAnyH_take (i := 3) (v := ?_) rfl (by kernel_rfl) (by kernel_rfl) (by kernel_rfl) (fun _ _ _ h => h) (Or.inl ⟨by rfl, ?_⟩) (by assumption) ?_
      rotate_left
      · intro w hSw; (try dsimp only at hSw); go_simp; try with_reducible rfl
      try simp only [List.getElem_toArray, List.getElem_cons_succ, List.getElem_cons_zero, Act.put, List.setIfInBounds_toArray, List.set_cons_zero, List.set_cons_succ]
      refine wpAnyH_ready (rs := [15]) (by kernel_rfl) (by simp) ?_
      refine AllReadyH.cons rfl (fun K hK => ?_) AllReadyH.nil
      go_simp
      refine hK.out _ _ ?_ (fun hHeld => ?_)
      · exact c2a _
      clear hK K
      try simp only [List.getElem_toArray, List.getElem_cons_succ, List.getElem_cons_zero, Act.put, List.setIfInBounds_toArray, List.set_cons_zero, List.set_cons_succ]
      refine wpAnyH_ready (rs := [16]) (by kernel_rfl) (by simp) ?_
      refine AllReadyH.cons rfl (fun K hK => ?_) AllReadyH.nil
      refine step_copy_rd rfl (.tmp 7) (.tmp 19) 36 36 rfl 5 Tryz.underlying36 info1_u8s rfl rfl RL hfl hdl RA (by omega) ?_
      intro v3 O3 R3
      have c1v := (O3.cell (p := ⟨lb, 0, none⟩) n1).trans (c1a (.cells #[.int .u8 ((x0.toNat : Nat) : Int), .int .u8 ((x1.toNat : Nat) : Int), .int .u8 ((x2.toNat : Nat) : Int), .int .u8 ((x3.toNat : Nat) : Int)] 5))
      have c2v := (O3.cell (p := ⟨bb, 0, none⟩) n2).trans (c2a (.cells #[.int .u8 ((x0.toNat : Nat) : Int), .int .u8 ((x1.toNat : Nat) : Int), .int .u8 ((x2.toNat : Nat) : Int), .int .u8 ((x3.toNat : Nat) : Int)] 5))
      have fzv := (O3.frozen (p := ⟨lb, 0, none⟩) n1).trans (fza (.cells #[.int .u8 ((x0.toNat : Nat) : Int), .int .u8 ((x1.toNat : Nat) : Int), .int .u8 ((x2.toNat : Nat) : Int), .int .u8 ((x3.toNat : Nat) : Int)] 5))
      have FW := FIN v3 O3 R3
      clear FIN RL RA
      refine hK.out _ _ ?_ (fun hHeld => ?_)
      · exact c2v
      clear hK K
      try simp only [List.getElem_toArray, List.getElem_cons_succ, List.getElem_cons_zero, Act.put, List.setIfInBounds_toArray, List.set_cons_zero, List.set_cons_succ]
      refine wpAnyH_take (i := 17) (v := ?_) rfl (by kernel_rfl) (by kernel_rfl) (by kernel_rfl) (fun _ _ _ h => h) (Or.inl ⟨by rfl, ?_⟩) (by assumption) ?_
      rotate_left
      · intro w hSw; (try dsimp only at hSw); go_simp; try with_reducible rfl
      try simp only [List.getElem_toArray, List.getElem_cons_succ, List.getElem_cons_zero, Act.put, List.setIfInBounds_toArray, List.set_cons_zero, List.set_cons_succ]
      refine wpAnyH_ready (rs := [18]) (by kernel_rfl) (by simp) ?_
      refine AllReadyH.cons rfl (fun K hK => ?_) AllReadyH.nil
      go_simp
      refine hK.out _ _ ?_ (fun hHeld => ?_)
      · exact (((Only.refl lb v3).setCell 0 _).cell (p := ⟨bb, 0, none⟩) n3.symm).trans c2v
      clear hK K
      try simp only [List.getElem_toArray, List.getElem_cons_succ, List.getElem_cons_zero, Act.put, List.setIfInBounds_toArray, List.set_cons_zero, List.set_cons_succ]
      refine wpAnyH_done (by kernel_rfl) ?_ _
      try simp only [List.getElem_toArray, List.getElem_cons_succ, List.getElem_cons_zero, Act.put, List.setIfInBounds_toArray, List.set_cons_zero, List.set_cons_succ]
      clear c1v c2v fzv hHeld
      go_wp2
      go_end0
      exact ⟨rfl, FW.out⟩
    · go_simp
      refine hK.out _ _ ?_ (fun hHeld => ?_)
      · exact c2a _
      clear hK K
      try simp only [List.getElem_toArray, List.getElem_cons_succ, List.getElem_cons_zero, Act.put, List.setIfInBounds_toArray, List.set_cons_zero, List.set_cons_succ]
      refine wpAnyH_ready (rs := [2]) (by kernel_rfl) (by simp) ?_
      refine AllReadyH.cons rfl (fun K hK => ?_) AllReadyH.nil
      go_simp
      refine hK.out _ _ ?_ (fun hHeld => ?_)
      · assumption
      clear hK K
      try simp only [List.getElem_toArray, List.getElem_cons_succ, List.getElem_cons_zero, Act.put, List.setIfInBounds_toArray, List.set_cons_zero, List.set_cons_succ]
      refine wpAnyH_take (i := 3) (v := ?_) rfl (by kernel_rfl) (by kernel_rfl) (by kernel_rfl) (fun _ _ _ h => h) (Or.inl ⟨by rfl, ?_⟩) (by assumption) ?_
      rotate_left
      · intro w hSw; (try dsimp only at hSw); go_simp; try with_reducible rfl
      try simp only [List.getElem_toArray, List.getElem_cons_succ, List.getElem_cons_zero, Act.put, List.setIfInBounds_toArray, List.set_cons_zero, List.set_cons_succ]
      refine wpAnyH_ready (rs := [16]) (by kernel_rfl) (by simp) ?_
      refine AllReadyH.cons rfl (fun K hK => ?_) AllReadyH.nil
      refine step_copy_rd rfl (.tmp 7) (.tmp 19) 36 36 rfl 5 Tryz.underlying36 info1_u8s rfl rfl RL hfl hdl RA (by omega) ?_
      intro v3 O3 R3
      have c1v := (O3.cell (p := ⟨lb, 0, none⟩) n1).trans (c1a (.cells #[.int .u8 ((x0.toNat : Nat) : Int), .int .u8 ((x1.toNat : Nat) : Int), .int .u8 ((x2.toNat : Nat) : Int), .int .u8 ((x3.toNat : Nat) : Int)] 5))
      have c2v := (O3.cell (p := ⟨bb, 0, none⟩) n2).trans (c2a (.cells #[.int .u8 ((x0.toNat : Nat) : Int), .int .u8 ((x1.toNat : Nat) : Int), .int .u8 ((x2.toNat : Nat) : Int), .int .u8 ((x3.toNat : Nat) : Int)] 5))
      have fzv := (O3.frozen (p := ⟨lb, 0, none⟩) n1).trans (fza (.cells #[.int .u8 ((x0.toNat : Nat) : Int), .int .u8 ((x1.toNat : Nat) : Int), .int .u8 ((x2.toNat : Nat) : Int), .int .u8 ((x3.toNat : Nat) : Int)] 5))
      have FW := FIN v3 O3 R3
      clear FIN RL RA
      refine hK.out _ _ ?_ (fun hHeld => ?_)
      · exact c2v
      clear hK K
      try simp only [List.getElem_toArray, List.getElem_cons_succ, List.getElem_cons_zero, Act.put, List.setIfInBounds_toArray, List.set_cons_zero, List.set_cons_succ]
      refine wpAnyH_take (i := 17) (v := ?_) rfl (by kernel_rfl) (by kernel_rfl) (by kernel_rfl) (fun _ _ _ h => h) (Or.inl ⟨by rfl, ?_⟩) (by assumption) ?_
      rotate_left
      · intro w hSw; (try dsimp only at hSw); go_simp; try with_reducible rfl
      try simp only [List.getElem_toArray, List.getElem_cons_succ, List.getElem_cons_zero, Act.put, List.setIfInBounds_toArray, List.set_cons_zero, List.set_cons_succ]
      refine wpAnyH_ready (rs := [18]) (by kernel_rfl) (by simp) ?_
      refine AllReadyH.cons rfl (fun K hK => ?_) AllReadyH.nil
      go_simp
      refine hK.out _ _ ?_ (fun hHeld => ?_)
      · exact (((Only.refl lb v3).setCell 0 _).cell (p := ⟨bb, 0, none⟩) n3.symm).trans c2v
      clear hK K
      try simp only [List.getElem_toArray, List.getElem_cons_succ, List.getElem_cons_zero, Act.put, List.setIfInBounds_toArray, List.set_cons_zero, List.set_cons_succ]
      refine wpAnyH_done (by kernel_rfl) ?_ _
      try simp only [List.getElem_toArray, List.getElem_cons_succ, List.getElem_cons_zero, Act.put, List.setIfInBounds_toArray, List.set_cons_zero, List.set_cons_succ]
      clear c1v c2v fzv hHeld
      go_wp2
      go_end0
      exact ⟨rfl, FW.out⟩
  · go_simp
    refine hK.out _ _ ?_ (fun hHeld => ?_)
    · assumption
    clear hK K
    try simp only [List.getElem_toArray, List.getElem_cons_succ, List.getElem_cons_zero, Act.put, List.setIfInBounds_toArray, List.set_cons_zero, List.set_cons_succ]
    refine wpAnyH_take (i := 3) (v := ?_) rfl (by kernel_rfl) (by kernel_rfl) (by kernel_rfl) (fun _ _ _ h => h) (Or.inl ⟨by rfl, ?_⟩) (by assumption) ?_
    rotate_left
    · intro w hSw; (try dsimp only at hSw); go_simp; try with_reducible rfl
    try simp only [List.getElem_toArray, List.getElem_cons_succ, List.getElem_cons_zero, Act.put, List.setIfInBounds_toArray, List.set_cons_zero, List.set_cons_succ]
    refine wpAnyH_ready (rs := [0, 15]) (by kernel_rfl) (by simp) ?_
    refine AllReadyH.cons rfl (fun K hK => ?_) (AllReadyH.cons rfl (fun K hK => ?_) AllReadyH.nil)
    · go_simp
      refine hK.out _ _ ?_ (fun hHeld => ?_)
      · assumption
      clear hK K
      try simp only [List.getElem_toArray, List.getElem_cons_succ, List.getElem_cons_zero, Act.put, List.setIfInBounds_toArray, List.set_cons_zero, List.set_cons_succ]
      refine wpAnyH_ready (rs := [15]) (by kernel_rfl) (by simp) ?_
      refine AllReadyH.cons rfl (fun K hK => ?_) AllReadyH.nil
      go_simp
      refine hK.out _ _ ?_ (fun hHeld => ?_)
      · exact c2a _
      clear hK K
      try simp only [List.getElem_toArray, List.getElem_cons_succ, List.getElem_cons_zero, Act.put, List.setIfInBounds_toArray, List.set_cons_zero, List.set_cons_succ]
      refine wpAnyH_ready (rs := [16]) (by kernel_rfl) (by simp) ?_
      refine AllReadyH.cons rfl (fun K hK => ?_) AllReadyH.nil
      refine step_copy_rd rfl (.tmp 7) (.tmp 19) 36 36 rfl 5 Tryz.underlying36 info1_u8s rfl rfl RL hfl hdl RA (by omega) ?_
      intro v3 O3 R3
      have c1v := (O3.cell (p := ⟨lb, 0, none⟩) n1).trans (c1a (.cells #[.int .u8 ((x0.toNat : Nat) : Int), .int .u8 ((x1.toNat : Nat) : Int), .int .u8 ((x2.toNat : Nat) : Int), .int .u8 ((x3.toNat : Nat) : Int)] 5))
      have c2v := (O3.cell (p := ⟨bb, 0, none⟩) n2).trans (c2a (.cells #[.int .u8 ((x0.toNat : Nat) : Int), .int .u8 ((x1.toNat : Nat) : Int), .int .u8 ((x2.toNat : Nat) : Int), .int .u8 ((x3.toNat : Nat) : Int)] 5))
      have fzv := (O3.frozen (p := ⟨lb, 0, none⟩) n1).trans (fza (.cells #[.int .u8 ((x0.toNat : Nat) : Int), .int .u8 ((x1.toNat : Nat) : Int), .int .u8 ((x2.toNat : Nat) : Int), .int .u8 ((x3.toNat : Nat) : Int)] 5))
      have FW := FIN v3 O3 R3
      clear FIN RL RA
      refine hK.out _ _ ?_ (fun hHeld => ?_)
      · exact c2v
      clear hK K
      try simp only [List.getElem_toArray, List.getElem_cons_succ, List.getElem_cons_zero, Act.put, List.setIfInBounds_toArray, List.set_cons_zero, List.set_cons_succ]
      refine wpAnyH_take (i := 17) (v := ?_) rfl (by kernel_rfl) (by kernel_rfl) (by kernel_rfl) (fun _ _ _ h => h) (Or.inl ⟨by rfl, ?_⟩) (by assumption) ?_
      rotate_left
      · intro w hSw; (try dsimp only at hSw); go_simp; try with_reducible rfl
      try simp only [List.getElem_toArray, List.getElem_cons_succ, List.getElem_cons_zero, Act.put, List.setIfInBounds_toArray, List.set_cons_zero, List.set_cons_succ]
      refine wpAnyH_ready (rs := [18]) (by kernel_rfl) (by simp) ?_
      refine AllReadyH.cons rfl (fun K hK => ?_) AllReadyH.nil
      go_simp
      refine hK.out _ _ ?_ (fun hHeld => ?_)
      · exact (((Only.refl lb v3).setCell 0 _).cell (p := ⟨bb, 0, none⟩) n3.symm).trans c2v
      clear hK K
      try simp only [List.getElem_toArray, List.getElem_cons_succ, List.getElem_cons_zero, Act.put, List.setIfInBounds_toArray, List.set_cons_zero, List.set_cons_succ]
      refine wpAnyH_done (by kernel_rfl) ?_ _
      try simp only [List.getElem_toArray, List.getElem_cons_succ, List.getElem_cons_zero, Act.put, List.setIfInBounds_toArray, List.set_cons_zero, List.set_cons_succ]
      clear c1v c2v fzv hHeld
      go_wp2
      go_end0
      exact ⟨rfl, FW.out⟩
    · go_simp
      refine hK.out _ _ ?_ (fun hHeld => ?_)
      · exact c2a _
      clear hK K
      try simp only [List.getElem_toArray, List.getElem_cons_succ, List.getElem_cons_zero, Act.put, List.setIfInBounds_toArray, List.set_cons_zero, List.set_cons_succ]
      refine wpAnyH_ready (rs := [0, 16]) (by kernel_rfl) (by simp) ?_
      refine AllReadyH.cons rfl (fun K hK => ?_) (AllReadyH.cons rfl (fun K hK => ?_) AllReadyH.nil)
      · go_simp
        refine hK.out _ _ ?_ (fun hHeld => ?_)
        · assumption
        clear hK K
        try simp only [List.getElem_toArray, List.getElem_cons_succ, List.getElem_cons_zero, Act.put, List.setIfInBounds_toArray, List.set_cons_zero, List.set_cons_succ]
        refine wpAnyH_ready (rs := [16]) (by kernel_rfl) (by simp) ?_
        refine AllReadyH.cons rfl (fun K hK => ?_) AllReadyH.nil
        refine step_copy_rd rfl (.tmp 7) (.tmp 19) 36 36 rfl 5 Tryz.underlying36 info1_u8s rfl rfl RL hfl hdl RA (by omega) ?_
        intro v3 O3 R3
        have c1v := (O3.cell (p := ⟨lb, 0, none⟩) n1).trans (c1a (.cells #[.int .u8 ((x0.toNat : Nat) : Int), .int .u8 ((x1.toNat : Nat) : Int), .int .u8 ((x2.toNat : Nat) : Int), .int .u8 ((x3.toNat : Nat) : Int)] 5))
        have c2v := (O3.cell (p := ⟨bb, 0, none⟩) n2).trans (c2a (.cells #[.int .u8 ((x0.toNat : Nat) : Int), .int .u8 ((x1.toNat : Nat) : Int), .int .u8 ((x2.toNat : Nat) : Int), .int .u8 ((x3.toNat : Nat) : Int)] 5))
        have fzv := (O3.frozen (p := ⟨lb, 0, none⟩) n1).trans (fza (.cells #[.int .u8 ((x0.toNat : Nat) : Int), .int .u8 ((x1.toNat : Nat) : Int), .int .u8 ((x2.toNat : Nat) : Int), .int .u8 ((x3.toNat : Nat) : Int)] 5))
        have FW := FIN v3 O3 R3
        clear FIN RL RA
        refine hK.out _ _ ?_ (fun hHeld => ?_)
        · exact c2v
        clear hK K
        try simp only [List.getElem_toArray, List.getElem_cons_succ, List.getElem_cons_zero, Act.put, List.setIfInBounds_toArray, List.set_cons_zero, List.set_cons_succ]
        refine wpAnyH_take (i := 17) (v := ?_) rfl (by kernel_rfl) (by kernel_rfl) (by kernel_rfl) (fun _ _ _ h => h) (Or.inl ⟨by rfl, ?_⟩) (by assumption) ?_
        rotate_left
        · intro w hSw; (try dsimp only at hSw); go_simp; try with_reducible rfl
        try simp only [List.getElem_toArray, List.getElem_cons_succ, List.getElem_cons_zero, Act.put, List.setIfInBounds_toArray, List.set_cons_zero, List.set_cons_succ]
        refine wpAnyH_ready (rs := [18]) (by kernel_rfl) (by simp) ?_
        refine AllReadyH.cons rfl (fun K hK => ?_) AllReadyH.nil
        go_simp
        refine hK.out _ _ ?_ (fun hHeld => ?_)
        · exact (((Only.refl lb v3).setCell 0 _).cell (p := ⟨bb, 0, none⟩) n3.symm).trans c2v
        clear hK K
        try simp only [List.getElem_toArray, List.getElem_cons_succ, List.getElem_cons_zero, Act.put, List.setIfInBounds_toArray, List.set_cons_zero, List.set_cons_succ]
        refine wpAnyH_done (by kernel_rfl) ?_ _
        try simp only [List.getElem_toArray, List.getElem_cons_succ, List.getElem_cons_zero, Act.put, List.setIfInBounds_toArray, List.set_cons_zero, List.set_cons_succ]
        clear c1v c2v fzv hHeld
        go_wp2
        go_end0
        exact ⟨rfl, FW.out⟩
      · refine step_copy_rd rfl (.tmp 7) (.tmp 19) 36 36 rfl 5 Tryz.underlying36 info1_u8s rfl rfl RL hfl hdl RA (by omega) ?_
        intro v3 O3 R3
        have c1v := (O3.cell (p := ⟨lb, 0, none⟩) n1).trans (c1a (.cells #[.int .u8 ((x0.toNat : Nat) : Int), .int .u8 ((x1.toNat : Nat) : Int), .int .u8 ((x2.toNat : Nat) : Int), .int .u8 ((x3.toNat : Nat) : Int)] 5))
        have c2v := (O3.cell (p := ⟨bb, 0, none⟩) n2).trans (c2a (.cells #[.int .u8 ((x0.toNat : Nat) : Int), .int .u8 ((x1.toNat : Nat) : Int), .int .u8 ((x2.toNat : Nat) : Int), .int .u8 ((x3.toNat : Nat) : Int)] 5))
        have fzv := (O3.frozen (p := ⟨lb, 0, none⟩) n1).trans (fza (.cells #[.int .u8 ((x0.toNat : Nat) : Int), .int .u8 ((x1.toNat : Nat) : Int), .int .u8 ((x2.toNat : Nat) : Int), .int .u8 ((x3.toNat : Nat) : Int)] 5))
        have FW := FIN v3 O3 R3
        clear FIN RL RA
        refine hK.out _ _ ?_ (fun hHeld => ?_)
        · exact c2v
        clear hK K
        try simp only [List.getElem_toArray, List.getElem_cons_succ, List.getElem_cons_zero, Act.put, List.setIfInBounds_toArray, List.set_cons_zero, List.set_cons_succ]
        refine wpAnyH_ready (rs := [0]) (by kernel_rfl) (by simp) ?_
        refine AllReadyH.cons rfl (fun K hK => ?_) AllReadyH.nil
        go_simp
        refine hK.out _ _ ?_ (fun hHeld => ?_)
        · assumption
        clear hK K
        try simp only [List.getElem_toArray, List.getElem_cons_succ, List.getElem_cons_zero, Act.put, List.setIfInBounds_toArray, List.set_cons_zero, List.set_cons_succ]
        refine wpAnyH_take (i := 17) (v := ?_) rfl (by kernel_rfl) (by kernel_rfl) (by kernel_rfl) (fun _ _ _ h => h) (Or.inl ⟨by rfl, ?_⟩) (by assumption) ?_
        rotate_left
        · intro w hSw; (try dsimp only at hSw); go_simp; try with_reducible rfl
        try simp only [List.getElem_toArray, List.getElem_cons_succ, List.getElem_cons_zero, Act.put, List.setIfInBounds_toArray, List.set_cons_zero, List.set_cons_succ]
        refine wpAnyH_ready (rs := [18]) (by kernel_rfl) (by simp) ?_
        refine AllReadyH.cons rfl (fun K hK => ?_) AllReadyH.nil
        go_simp
        refine hK.out _ _ ?_ (fun hHeld => ?_)
        · exact (((Only.refl lb v3).setCell 0 _).cell (p := ⟨bb, 0, none⟩) n3.symm).trans c2v
        clear hK K
        try simp only [List.getElem_toArray, List.getElem_cons_succ, List.getElem_cons_zero, Act.put, List.setIfInBounds_toArray, List.set_cons_zero, List.set_cons_succ]
        refine wpAnyH_done (by kernel_rfl) ?_ _
        try simp only [List.getElem_toArray, List.getElem_cons_succ, List.getElem_cons_zero, Act.put, List.setIfInBounds_toArray, List.set_cons_zero, List.set_cons_succ]
        clear c1v c2v fzv hHeld
        go_wp2
        go_end0
        exact ⟨rfl, FW.out⟩
  · go_simp
    refine hK.out _ _ ?_ (fun hHeld => ?_)
    · exact c2a _
    clear hK K
    try simp only [List.getElem_toArray, List.getElem_cons_succ, List.getElem_cons_zero, Act.put, List.setIfInBounds_toArray, List.set_cons_zero, List.set_cons_succ]
    refine wpAnyH_ready (rs := [0, 2]) (by kernel_rfl) (by simp) ?_
    refine AllReadyH.cons rfl (fun K hK => ?_) (AllReadyH.cons rfl (fun K hK => ?_) AllReadyH.nil)
    · go_simp
      refine hK.out _ _ ?_ (fun hHeld => ?_)
      · assumption
      clear hK K
      try simp only [List.getElem_toArray, List.getElem_cons_succ, List.getElem_cons_zero, Act.put, List.setIfInBounds_toArray, List.set_cons_zero, List.set_cons_succ]
      refine wpAnyH_ready (rs := [2]) (by kernel_rfl) (by simp) ?_
      refine AllReadyH.cons rfl (fun K hK => ?_) AllReadyH.nil
      go_simp
      refine hK.out _ _ ?_ (fun hHeld => ?_)
      · assumption
      clear hK K
      try simp only [List.getElem_toArray, List.getElem_cons_succ, List.getElem_cons_zero, Act.put, List.setIfInBounds_toArray, List.set_cons_zero, List.set_cons_succ]
      refine wpAnyH_take (i := 3) (v := ?_) rfl (by kernel_rfl) (by kernel_rfl) (by kernel_rfl) (fun _ _ _ h => h) (Or.inl ⟨by rfl, ?_⟩) (by assumption) ?_
      rotate_left
      · intro w hSw; (try dsimp only at hSw); go_simp; try with_reducible rfl
      try simp only [List.getElem_toArray, List.getElem_cons_succ, List.getElem_cons_zero, Act.put, List.setIfInBounds_toArray, List.set_cons_zero, List.set_cons_succ]
      refine wpAnyH_ready (rs := [16]) (by kernel_rfl) (by simp) ?_
      refine AllReadyH.cons rfl (fun K hK => ?_) AllReadyH.nil
      refine step_copy_rd rfl (.tmp 7) (.tmp 19) 36 36 rfl 5 Tryz.underlying36 info1_u8s rfl rfl RL hfl hdl RA (by omega) ?_
      intro v3 O3 R3
      have c1v := (O3.cell (p := ⟨lb, 0, none⟩) n1).trans (c1a (.cells #[.int .u8 ((x0.toNat : Nat) : Int), .int .u8 ((x1.toNat : Nat) : Int), .int .u8 ((x2.toNat : Nat) : Int), .int .u8 ((x3.toNat : Nat) : Int)] 5))
      have c2v := (O3.cell (p := ⟨bb, 0, none⟩) n2).trans (c2a (.cells #[.int .u8 ((x0.toNat : Nat) : Int), .int .u8 ((x1.toNat : Nat) : Int), .int .u8 ((x2.toNat : Nat) : Int), .int .u8 ((x3.toNat : Nat) : Int)] 5))
      have fzv := (O3.frozen (p := ⟨lb, 0, none⟩) n1).trans (fza (.cells #[.int .u8 ((x0.toNat : Nat) : Int), .int .u8 ((x1.toNat : Nat) : Int), .int .u8 ((x2.toNat : Nat) : Int), .int .u8 ((x3.toNat : Nat) : Int)] 5))
      have FW := FIN v3 O3 R3
      clear FIN RL RA
      refine hK.out _ _ ?_ (fun hHeld => ?_)
      · exact c2v
      clear hK K
      try simp only [List.getElem_toArray, List.getElem_cons_succ, List.getElem_cons_zero, Act.put, List.setIfInBounds_toArray, List.set_cons_zero, List.set_cons_succ]
      refine wpAnyH_take (i := 17) (v := ?_) rfl (by kernel_rfl) (by kernel_rfl) (by kernel_rfl) (fun _ _ _ h => h) (Or.inl ⟨by rfl, ?_⟩) (by assumption) ?_
      rotate_left
      · intro w hSw; (try dsimp only at hSw); go_simp; try with_reducible rfl
      try simp only [List.getElem_toArray, List.getElem_cons_succ, List.getElem_cons_zero, Act.put, List.setIfInBounds_toArray, List.set_cons_zero, List.set_cons_succ]
      refine wpAnyH_ready (rs := [18]) (by kernel_rfl) (by simp) ?_
      refine AllReadyH.cons rfl (fun K hK => ?_) AllReadyH.nil
      go_simp
      refine hK.out _ _ ?_ (fun hHeld => ?_)
      · exact (((Only.refl lb v3).setCell 0 _).cell (p := ⟨bb, 0, none⟩) n3.symm).trans c2v
      clear hK K
      try simp only [List.getElem_toArray, List.getElem_cons_succ, List.getElem_cons_zero, Act.put, List.setIfInBounds_toArray, List.set_cons_zero, List.set_cons_succ]
      refine wpAnyH_done (by kernel_rfl) ?_ _
      try simp only [List.getElem_toArray, List.getElem_cons_succ, List.getElem_cons_zero, Act.put, List.setIfInBounds_toArray, List.set_cons_zero, List.set_cons_succ]
      clear c1v c2v fzv hHeld
      go_wp2
      go_end0
      exact ⟨rfl, FW.out⟩
    · go_simp
      refine hK.out _ _ ?_ (fun hHeld => ?_)
      · assumption
      clear hK K
      try simp only [List.getElem_toArray, List.getElem_cons_succ, List.getElem_cons_zero, Act.put, List.setIfInBounds_toArray, List.set_cons_zero, List.set_cons_succ]
      refine wpAnyH_take (i := 3) (v := ?_) rfl (by kernel_rfl) (by kernel_rfl) (by kernel_rfl) (fun _ _ _ h => h) (Or.inl ⟨by rfl, ?_⟩) (by assumption) ?_
      rotate_left
      · intro w hSw; (try dsimp only at hSw); go_simp; try with_reducible rfl
      try simp only [List.getElem_toArray, List.getElem_cons_succ, List.getElem_cons_zero, Act.put, List.setIfInBounds_toArray, List.set_cons_zero, List.set_cons_succ]
      refine wpAnyH_ready (rs := [0, 16]) (by kernel_rfl) (by simp) ?_
      refine AllReadyH.cons rfl (fun K hK => ?_) (AllReadyH.cons rfl (fun K hK => ?_) AllReadyH.nil)
      · go_simp
        refine hK.out _ _ ?_ (fun hHeld => ?_)
        · assumption
        clear hK K
        try simp only [List.getElem_toArray, List.getElem_cons_succ, List.getElem_cons_zero, Act.put, List.setIfInBounds_toArray, List.set_cons_zero, List.set_cons_succ]
        refine wpAnyH_ready (rs := [16]) (by kernel_rfl) (by simp) ?_
        refine AllReadyH.cons rfl (fun K hK => ?_) AllReadyH.nil
        refine step_copy_rd rfl (.tmp 7) (.tmp 19) 36 36 rfl 5 Tryz.underlying36 info1_u8s rfl rfl RL hfl hdl RA (by omega) ?_
        intro v3 O3 R3
        have c1v := (O3.cell (p := ⟨lb, 0, none⟩) n1).trans (c1a (.cells #[.int .u8 ((x0.toNat : Nat) : Int), .int .u8 ((x1.toNat : Nat) : Int), .int .u8 ((x2.toNat : Nat) : Int), .int .u8 ((x3.toNat : Nat) : Int)] 5))
        have c2v := (O3.cell (p := ⟨bb, 0, none⟩) n2).trans (c2a (.cells #[.int .u8 ((x0.toNat : Nat) : Int), .int .u8 ((x1.toNat : Nat) : Int), .int .u8 ((x2.toNat : Nat) : Int), .int .u8 ((x3.toNat : Nat) : Int)] 5))
        have fzv := (O3.frozen (p := ⟨lb, 0, none⟩) n1).trans (fza (.cells #[.int .u8 ((x0.toNat : Nat) : Int), .int .u8 ((x1.toNat : Nat) : Int), .int .u8 ((x2.toNat : Nat) : Int), .int .u8 ((x3.toNat : Nat) : Int)] 5))
        have FW := FIN v3 O3 R3
        clear FIN RL RA
        refine hK.out _ _ ?_ (fun hHeld => ?_)
        · exact c2v
        clear hK K
        try simp only [List.getElem_toArray, List.getElem_cons_succ, List.getElem_cons_zero, Act.put, List.setIfInBounds_toArray, List.set_cons_zero, List.set_cons_succ]
        refine wpAnyH_take (i := 17) (v := ?_) rfl (by kernel_rfl) (by kernel_rfl) (by kernel_rfl) (fun _ _ _ h => h) (Or.inl ⟨by rfl, ?_⟩) (by assumption) ?_
        rotate_left
        · intro w hSw; (try dsimp only at hSw); go_simp; try with_reducible rfl
        try simp only [List.getElem_toArray, List.getElem_cons_succ, List.getElem_cons_zero, Act.put, List.setIfInBounds_toArray, List.set_cons_zero, List.set_cons_succ]
        refine wpAnyH_ready (rs := [18]) (by kernel_rfl) (by simp) ?_
        refine AllReadyH.cons rfl (fun K hK => ?_) AllReadyH.nil
        go_simp
        refine hK.out _ _ ?_ (fun hHeld => ?_)
        · exact (((Only.refl lb v3).setCell 0 _).cell (p := ⟨bb, 0, none⟩) n3.symm).trans c2v
        clear hK K
        try simp only [List.getElem_toArray, List.getElem_cons_succ, List.getElem_cons_zero, Act.put, List.setIfInBounds_toArray, List.set_cons_zero, List.set_cons_succ]
        refine wpAnyH_done (by kernel_rfl) ?_ _
        try simp only [List.getElem_toArray, List.getElem_cons_succ, List.getElem_cons_zero, Act.put, List.setIfInBounds_toArray, List.set_cons_zero, List.set_cons_succ]
        clear c1v c2v fzv hHeld
        go_wp2
        go_end0
        exact ⟨rfl, FW.out⟩
      · refine step_copy_rd rfl (.tmp 7) (.tmp 19) 36 36 rfl 5 Tryz.underlying36 info1_u8s rfl rfl RL hfl hdl RA (by omega) ?_
        intro v3 O3 R3
        have c1v := (O3.cell (p := ⟨lb, 0, none⟩) n1).trans (c1a (.cells #[.int .u8 ((x0.toNat : Nat) : Int), .int .u8 ((x1.toNat : Nat) : Int), .int .u8 ((x2.toNat : Nat) : Int), .int .u8 ((x3.toNat : Nat) : Int)] 5))
        have c2v := (O3.cell (p := ⟨bb, 0, none⟩) n2).trans (c2a (.cells #[.int .u8 ((x0.toNat : Nat) : Int), .int .u8 ((x1.toNat : Nat) : Int), .int .u8 ((x2.toNat : Nat) : Int), .int .u8 ((x3.toNat : Nat) : Int)] 5))
        have fzv := (O3.frozen (p := ⟨lb, 0, none⟩) n1).trans (fza (.cells #[.int .u8 ((x0.toNat : Nat) : Int), .int .u8 ((x1.toNat : Nat) : Int), .int .u8 ((x2.toNat : Nat) : Int), .int .u8 ((x3.toNat : Nat) : Int)] 5))
        have FW := FIN v3 O3 R3
        clear FIN RL RA
        refine hK.out _ _ ?_ (fun hHeld => ?_)
        · exact c2v
        clear hK K
        try simp only [List.getElem_toArray, List.getElem_cons_succ, List.getElem_cons_zero, Act.put, List.setIfInBounds_toArray, List.set_cons_zero, List.set_cons_succ]
        refine wpAnyH_ready (rs := [0]) (by kernel_rfl) (by simp) ?_
        refine AllReadyH.cons rfl (fun K hK => ?_) AllReadyH.nil
        go_simp
        refine hK.out _ _ ?_ (fun hHeld => ?_)
        · assumption
        clear hK K
        try simp only [List.getElem_toArray, List.getElem_cons_succ, List.getElem_cons_zero, Act.put, List.setIfInBounds_toArray, List.set_cons_zero, List.set_cons_succ]
        refine wpAnyH_take (i := 17) (v := ?_) rfl (by kernel_rfl) (by kernel_rfl) (by kernel_rfl) (fun _ _ _ h => h) (Or.inl ⟨by rfl, ?_⟩) (by assumption) ?_
        rotate_left
        · intro w hSw; (try dsimp only at hSw); go_simp; try with_reducible rfl
        try simp only [List.getElem_toArray, List.getElem_cons_succ, List.getElem_cons_zero, Act.put, List.setIfInBounds_toArray, List.set_cons_zero, List.set_cons_succ]
        refine wpAnyH_ready (rs := [18]) (by kernel_rfl) (by simp) ?_
        refine AllReadyH.cons rfl (fun K hK => ?_) AllReadyH.nil
        go_simp
        refine hK.out _ _ ?_ (fun hHeld => ?_)
        · exact (((Only.refl lb v3).setCell 0 _).cell (p := ⟨bb, 0, none⟩) n3.symm).trans c2v
        clear hK K
        try simp only [List.getElem_toArray, List.getElem_cons_succ, List.getElem_cons_zero, Act.put, List.setIfInBounds_toArray, List.set_cons_zero, List.set_cons_succ]
        refine wpAnyH_done (by kernel_rfl) ?_ _
        try simp only [List.getElem_toArray, List.getElem_cons_succ, List.getElem_cons_zero, Act.put, List.setIfInBounds_toArray, List.set_cons_zero, List.set_cons_succ]
        clear c1v c2v fzv hHeld
        go_wp2
        go_end0
        exact ⟨rfl, FW.out⟩
  -- REGION END
end Go.Proofs.YtddnfhfangfgeaaGreat.Gf

namespace Go.Proofs.YtddnfhfangfgeaaGreat.Gf
set_option linter.unusedVariables false
set_option linter.unusedSimpArgs false
open Go.RowKit
theorem own_new12 (w : World) (e : TypeId) : (w.alloc (.cells #[] e)).ownsRow w.heap.size e 1 (.slice (some ⟨w.heap.size, 0, none⟩) 0 0) 0 [] := World.ownsRow_made w #[] 0 (Nat.le_refl _) (Nat.zero_le _) rfl
set_option maxRecDepth 100000 in
theorem bclone_own {p : List UInt8} {w : World} {a : Addr} {c : Nat} (hp : Rd w (.slice (some a) p.length c) p) (hl : p.length ≤ 100000) : Calls Tryz.prog 143 #[.slice (some a) p.length c] w fun e w' => ∃ v, e = .returned v ∧ w'.ownsRow w.heap.size 5 1 v p.length (p.map vb) ∧ Below w.heap.size w w' := by
  obtain ⟨i0, hi, hz0, hz1, hz2⟩ := info_parts info_u8
  have qT : ∀ (w : World) (a : Option Addr) (n c n' c' : Nat), (binOp .eql 36 (.slice a n c) (.slice none n' c')).run Tryz.prog w = .ok (.bool a.isNone) w := fun w a n c n' c' => Lib.run_eql_slice_nil w _ _ a n c n' c' Tryz.underlying36
  have B1 : Below w.heap.size w (w.alloc (.cells #[] 5)) := (Below.refl _ _).alloc (Nat.le_refl _) _
  have O1 : (w.alloc (.cells #[] 5)).ownsRow w.heap.size 5 1 (.slice (some ⟨w.heap.size, 0, none⟩) 0 0) 0 [] := own_new12 w _
  have hp1 := hp.below B1
  have hsz : w.heap.size ≤ (w.alloc (.cells #[] 5)).heap.size := B1.size
  go_enter Tryz.func143, Tryz.ntmps143
  go_wp2_with (at_builtin; go_loud (refine wpList_append_rd _ rfl (.tmp 5) (.tmp 6) 36 rfl w.heap.size 5 i0 Tryz.underlying36 hi hz0 hz1 hz2 (.slice (some ⟨w.heap.size, 0, none⟩) 0 0) 0 [] rfl O1 (.slice (some a) p.length c) p rfl hp1 (by omega) hsz ?_); intro v' w9 hv9 hg9)
  have HB : Hid (Below w.heap.size w w9) := B1.grown hg9 hsz (fun q hq => by cases hq; exact Nat.le_refl _)
  have HO : Hid (w9.ownsRow w.heap.size 5 1 v' p.length (p.map vb)) := by
    show w9.ownsRow _ _ _ _ _ _
    rw [Nat.zero_add, List.nil_append] at hv9
    exact hv9
  clear hv9 hg9 B1 O1 hp1 hp qT
  go_wp2
  go_ret
  exact ⟨v', rfl, HO.out, HB.out⟩
theorem bclone_nil {w : World} : Calls Tryz.prog 143 #[.slice none 0 0] w fun e w' => e = .returned (.slice none 0 0) ∧ w' = w := by
  have qT : ∀ (w : World) (a : Option Addr) (n c n' c' : Nat), (binOp .eql 36 (.slice a n c) (.slice none n' c')).run Tryz.prog w = .ok (.bool a.isNone) w := fun w a n c n' c' => Lib.run_eql_slice_nil w _ _ a n c n' c' Tryz.underlying36
  go_enter Tryz.func143, Tryz.ntmps143
  go_wp2
  go_ret
  exact ⟨rfl, rfl⟩
end Go.Proofs.YtddnfhfangfgeaaGreat.Gf

namespace Go.Proofs.YtddnfhfangfgeaaGreat.Gf
set_option linter.unusedVariables false
set_option linter.unusedSimpArgs false
open Go.RowKit
open Go.Maps (Keyed)
open Go.ChangeMaps Go.MapKept
/-- an element reads as itself -/
def RV (v : Value) : Option (DataW Value × List MemPlace) := some (.held v, [])
theorem RV_inv {v : Value} {d : DataW Value} {ps : List MemPlace} (h : RV v = some (d, ps)) : d = .held v := by
  unfold RV at h
  simp at h
  exact h.1.symm
def MapI (P : Program) (K : TypeId) (w : World) (b S : Nat) (f : Int → Option Value) : Prop :=
  ∃ D, w.ownsMap P K RV b S D ∧ (∀ kl, Maps.has D kl = true → ∃ x : Int, kl = .int .i64 x ∧ 0 ≤ x ∧ x < (S : Int)) ∧
    (∀ x : Int, (Maps.has D (.int .i64 x) = false ∧ f x = none) ∨ ∃ v, f x = some v ∧ Maps.has D (.int .i64 x) = true ∧ ∀ z, D.atKey (.int .i64 x) z = .held v)
/-- no more numbers than there are -/
theorem pigeon : ∀ (S : Nat) (l : List Nat), l.Nodup → (∀ x ∈ l, x < S) → l.length ≤ S
  | 0, l, _, h => by
    cases l with
    | nil => exact Nat.le_refl _
    | cons a l => have := h a (by simp); omega
  | S + 1, l, hn, h => by
    have h1 := pigeon S (l.erase S) (hn.erase S) (fun x hx => by
      have hx1 := h x (List.mem_of_mem_erase hx)
      have hx2 : x ≠ S := fun e => by
        subst e
        exact (List.Nodup.not_mem_erase hn) hx
      omega)
    have h2 := List.length_erase (l := l) (a := S)
    split at h2 <;> omega
theorem own_tight {P : Program} {K b n : Nat} {w : World} {R : Value → Option (DataW Value × List MemPlace)} {D : DataW Value} (h : w.ownsMap P K R b n D) : w.ownsMap P K R b (Maps.size D) D := by
  obtain ⟨es, clock, hb, F, hs, rfl⟩ := h
  refine ⟨es, clock, hb, F, ?_, rfl⟩
  simp [Maps.size, length_sorted]
theorem tight_S {P : Program} {K b n S : Nat} {w : World} {D : DataW Value} (law : Keyed P K) (h : w.ownsMap P K RV b n D) (hk : ∀ kl, Maps.has D kl = true → ∃ x : Int, kl = .int .i64 x ∧ 0 ≤ x ∧ x < (S : Int)) : w.ownsMap P K RV b S D := by
  refine (own_tight h).mono ?_
  obtain ⟨es, rfl, hp⟩ := h.tidy law
  have hin : ∀ p ∈ es, ∃ x : Int, p.1 = .int .i64 x ∧ 0 ≤ x ∧ x < (S : Int) := by
    intro p hp1
    refine hk p.1 ?_
    rw [Maps.has_eq, List.any_eq_true]
    refine ⟨p, hp1, WideAt.sameKey_self ?_⟩
    obtain ⟨es', hD, _, hl⟩ := h.canon law
    simp at hD
    subst hD
    exact hl p hp1
  let g : Lit × DataW Value → Nat := fun p => match p.1 with | .int _ x => x.toNat | _ => 0
  have h1 : (es.map g).Nodup := by
    rw [List.Nodup, List.pairwise_map]
    refine hp.imp_of_mem ?_
    intro a b ha hb hne e
    obtain ⟨x, hx, hx0, _⟩ := hin a ha
    obtain ⟨y, hy, hy0, _⟩ := hin b hb
    apply hne
    have e' : x.toNat = y.toNat := by simpa [g, hx, hy] using e
    rw [hx, hy]
    congr 1
    omega
  have h2 := pigeon S (es.map g) h1 (by
    intro n hn
    obtain ⟨p, hp1, rfl⟩ := List.mem_map.1 hn
    obtain ⟨x, hx, hx0, hxS⟩ := hin p hp1
    simp only [g, hx]
    omega)
  rw [List.length_map] at h2
  exact h2
theorem MapI.made (P : Program) (K : TypeId) (w : World) (S : Nat) : MapI P K (w.alloc (.map #[] 0)) w.heap.size S (fun _ => none) :=
  ⟨.map [], (World.ownsMap_made w P K RV).mono (Nat.zero_le _), fun kl h => by simp [Maps.has] at h, fun x => Or.inl ⟨rfl, rfl⟩⟩
theorem MapI.lt {P : Program} {K b S : Nat} {w : World} {f : Int → Option Value} (h : MapI P K w b S f) : b < w.heap.size := by
  obtain ⟨D, h, _⟩ := h
  exact h.lt
theorem MapI.of_block {P : Program} {K b S : Nat} {w w' : World} {f : Int → Option Value} (h : MapI P K w b S f) (he : w'.heap[b]? = w.heap[b]?) : MapI P K w' b S f := by
  obtain ⟨D, ⟨es, clock, hb, r⟩, r2⟩ := h
  exact ⟨D, ⟨es, clock, he.trans hb, r⟩, r2⟩
theorem MapI.below {P : Program} {K b S : Nat} {w w' : World} {f : Int → Option Value} (h : MapI P K w b S f) (hb : Below w.heap.size w w') : MapI P K w' b S f := h.of_block (hb.block b h.lt)
theorem MapI.congr {P : Program} {K b S : Nat} {w : World} {f g : Int → Option Value} (h : MapI P K w b S f) (e : ∀ x, f x = g x) : MapI P K w b S g := by
  have : f = g := funext e
  subst this
  exact h
/-- what is not there -/
theorem MapI.out {P : Program} {K b S : Nat} {w : World} {f : Int → Option Value} (h : MapI P K w b S f) {x : Int} (hx : ¬ (0 ≤ x ∧ x < (S : Int))) : f x = none := by
  obtain ⟨D, _, h2, h3⟩ := h
  rcases h3 x with ⟨_, e⟩ | ⟨v, _, hh, _⟩
  · exact e
  · obtain ⟨y, e, h4⟩ := h2 _ hh
    simp at e
    subst e
    exact absurd h4 hx
/-- 'v, ok := m[k]' -/
theorem MapI.look_ok {P : Program} {K b S t e : Nat} {w : World} {f : Int → Option Value} (h : MapI P K w b S f) (law : Keyed P K) (ht : P.underlying t = some (.map K e)) {z : Value} (hz : (zeroValue e).run P w = .ok z w) {x : Int} (hk : keyOf P K (.int .i64 x) = some (.int .i64 x)) :
    (Instr.lookup t (.map (some b)) (.int .i64 x) true).run P w = .ok (.tuple #[(f x).getD z, .bool (f x).isSome]) w := by
  obtain ⟨D, h1, h2, h3⟩ := h
  obtain ⟨v, ps, hr, hv⟩ := h1.look_ok law ht hz (zd := .held z) (zp := []) rfl hk
  rw [hr]
  have hv' := RV_inv hv
  rcases h3 x with ⟨hh, e⟩ | ⟨u, e, hh, ha⟩
  · rw [Maps.atKey_of_not_has hh] at hv'
    simp at hv'
    rw [e, hh, hv']
    rfl
  · rw [ha] at hv'
    simp at hv'
    rw [e, hh, hv']
    rfl
/-- 'm[k]' -/
theorem MapI.look {P : Program} {K b S t e : Nat} {w : World} {f : Int → Option Value} (h : MapI P K w b S f) (law : Keyed P K) (ht : P.underlying t = some (.map K e)) {z : Value} (hz : (zeroValue e).run P w = .ok z w) {x : Int} (hk : keyOf P K (.int .i64 x) = some (.int .i64 x)) :
    (Instr.lookup t (.map (some b)) (.int .i64 x) false).run P w = .ok ((f x).getD z) w := by
  obtain ⟨D, h1, h2, h3⟩ := h
  obtain ⟨v, ps, hr, hv⟩ := h1.lookup law ht hz (zd := .held z) (zp := []) rfl hk
  rw [hr]
  have hv' := RV_inv hv
  rcases h3 x with ⟨hh, e⟩ | ⟨u, e, hh, ha⟩
  · rw [Maps.atKey_of_not_has hh] at hv'
    simp at hv'
    rw [e, hv']
    rfl
  · rw [ha] at hv'
    simp at hv'
    rw [e, hv']
    rfl
def putI (f : Int → Option Value) (x : Int) (v : Value) (y : Int) : Option Value := if y = x then some v else f y
def delI (f : Int → Option Value) (x : Int) (y : Int) : Option Value := if y = x then none else f y
/-- 'm[k] = v' -/
theorem MapI.store {P : Program} {K b S t e : Nat} {w : World} {f : Int → Option Value} (h : MapI P K w b S f) (law : Keyed P K) (ht : P.underlying t = some (.map K e)) (hS : S < maxLen) {x : Int} (hk : keyOf P K (.int .i64 x) = some (.int .i64 x)) (h0 : 0 ≤ x) (hx : x < (S : Int)) (v : Value) :
    ∃ w', (Instr.mapUpdate t (.map (some b)) (.int .i64 x) v).run P w = .ok () w' ∧ MapI P K w' b S (putI f x v) ∧ w.mapTurned w' b := by
  obtain ⟨D, h1, h2, h3⟩ := h
  obtain ⟨w', hr, ho, hm⟩ := h1.store law ht hS (val := v) (d := .held v) (ps := []) hk rfl
  have hk2 : ∀ kl, Maps.has (D.put (.int .i64 x) (.held v)) kl = true → ∃ y : Int, kl = .int .i64 y ∧ 0 ≤ y ∧ y < (S : Int) := by
    intro kl hh
    by_cases e : kl = .int .i64 x
    · exact ⟨x, e, h0, hx⟩
    · rw [Maps.has_put_other e] at hh
      exact h2 kl hh
  refine ⟨w', hr, ⟨_, tight_S law ho hk2, hk2, fun y => ?_⟩, hm⟩
  unfold putI
  by_cases e : y = x
  · subst e
    exact Or.inr ⟨v, if_pos rfl, Maps.has_put_same h1.isMap (show WideAt.IsKeyLit (.int .i64 y) from trivial) _, fun z => Maps.atKey_put_same h1.isMap (show WideAt.IsKeyLit (.int .i64 y) from trivial) _ z⟩
  · have hne : Lit.int .i64 y ≠ .int .i64 x := fun h => e (by simpa using h)
    rw [if_neg e, Maps.has_put_other hne]
    rcases h3 y with h | ⟨u, a1, a2, a3⟩
    · exact Or.inl h
    · exact Or.inr ⟨u, a1, a2, fun z => by rw [Maps.atKey_put_other hne]; exact a3 z⟩
/-- 'delete(m, k)' -/
theorem MapI.drop {P : Program} {K b S t e : Nat} {w : World} {f : Int → Option Value} (h : MapI P K w b S f) (law : Keyed P K) (ht : P.underlying t = some (.map K e)) {x : Int} (hk : keyOf P K (.int .i64 x) = some (.int .i64 x)) (ty : TypeId) :
    ∃ w', (Builtin.delete_ #[t, K] ty #[.map (some b), .int .i64 x]).run P w = .ok (.tuple #[]) w' ∧ MapI P K w' b S (delI f x) ∧ w.mapTurned w' b := by
  obtain ⟨D, h1, h2, h3⟩ := h
  obtain ⟨w', hr, ho, hm⟩ := h1.drop law ht hk ty
  refine ⟨w', hr, ⟨_, ho, fun kl hh => ?_, fun y => ?_⟩, hm⟩
  · by_cases e : kl = .int .i64 x
    · subst e
      rw [Maps.has_del_same] at hh
      cases hh
    · rw [Maps.has_del_other e] at hh
      exact h2 kl hh
  · unfold delI
    by_cases e : y = x
    · subst e
      exact Or.inl ⟨Maps.has_del_same, if_pos rfl⟩
    · have hne : Lit.int .i64 y ≠ .int .i64 x := fun h => e (by simpa using h)
      rw [if_neg e, Maps.has_del_other hne]
      rcases h3 y with h | ⟨u, a1, a2, a3⟩
      · exact Or.inl h
      · exact Or.inr ⟨u, a1, a2, fun z => by rw [Maps.atKey_del_other hne]; exact a3 z⟩
/-- 'clear(m)' -/
theorem MapI.clear {P : Program} {K b S t e : Nat} {w : World} {f : Int → Option Value} (h : MapI P K w b S f) (ht : P.underlying t = some (.map K e)) (ty : TypeId) :
    ∃ w', (Builtin.clear_ #[t] ty #[.map (some b)]).run P w = .ok (.tuple #[]) w' ∧ MapI P K w' b S (fun _ => none) ∧ w.mapTurned w' b := by
  obtain ⟨D, ⟨es, clock, hb, F, hs, rfl⟩, h2, h3⟩ := h
  refine ⟨setBlock w b (.map #[] clock), ?_, ⟨.map [], ⟨#[], clock, heap_setBlock_same hb _, ⟨by simp, stamped_empty _, by simp⟩, Nat.zero_le _, rfl⟩, fun kl h => by simp [Maps.has] at h, fun x => Or.inl ⟨rfl, rfl⟩⟩, ⟨es, clock, #[], clock, hb, rfl⟩⟩
  simp [Builtin.clear_, run_underlying ht, MapKept.run_getObj_map hb, MapKept.run_setObj_map _ hb, Result.andThen, setBlock]
theorem mapTurned_block {w w' : World} {b c : Nat} (h : w.mapTurned w' b) (hc : c ≠ b) : w'.heap[c]? = w.heap[c]? := by
  obtain ⟨es, clock, es', clock', hb, rfl⟩ := h
  exact heap_setBlock_other hb _ hc
end Go.Proofs.YtddnfhfangfgeaaGreat.Gf

namespace Go.Proofs.YtddnfhfangfgeaaGreat.Gf
set_option linter.unusedVariables false
set_option linter.unusedSimpArgs false
open Go.RowKit
structure TurnG (G : Nat → Prop) (w w' : World) : Prop where
  os : w'.os = w.os
  tape : w'.tape = w.tape
  output : w'.output = w.output
  size : w.heap.size ≤ w'.heap.size
  block : ∀ k, k < w.heap.size → ¬ G k → w'.heap[k]? = w.heap[k]?
theorem TurnG.refl (G : Nat → Prop) (w : World) : TurnG G w w := ⟨rfl, rfl, rfl, Nat.le_refl _, fun _ _ _ => rfl⟩
theorem TurnG.trans {G : Nat → Prop} {a b c : World} (h : TurnG G a b) (k : TurnG G b c) : TurnG G a c :=
  ⟨k.os.trans h.os, k.tape.trans h.tape, k.output.trans h.output, Nat.le_trans h.size k.size, fun i hi hg => (k.block i (Nat.lt_of_lt_of_le hi h.size) hg).trans (h.block i hi hg)⟩
theorem Below.turnG {w w' : World} (h : Below w.heap.size w w') (G : Nat → Prop) : TurnG G w w' := ⟨h.os, h.tape, h.output, h.size, fun k hk _ => h.block k hk⟩
theorem Only.turnG {g : Nat} {G : Nat → Prop} {w w' : World} (h : Only g w w') (hg : G g) : TurnG G w w' :=
  ⟨h.os, h.tape, h.output, by rw [h.size]; exact Nat.le_refl _, fun k _ hk => h.block k (fun e => hk (by rw [e]; exact hg))⟩
theorem TurnG.drewN {G : Nat → Prop} {a w : World} (h : TurnG G a w) (n : Nat) : TurnG G a (w.drewN n) := ⟨h.os, h.tape, h.output, h.size, h.block⟩
theorem TurnG.drew {G : Nat → Prop} {a w : World} (h : TurnG G a w) : TurnG G a w.drew := ⟨h.os, h.tape, h.output, h.size, h.block⟩
theorem TurnG.below {G : Nat → Prop} {B : Nat} {w w' : World} (h : TurnG G w w') (hg : ∀ g, G g → B ≤ g) (hB : B ≤ w.heap.size) : Below B w w' :=
  ⟨h.os, h.tape, h.output, h.size, fun k hk => h.block k (by omega) (fun e => by have := hg k e; omega)⟩
theorem TurnG.cell {G : Nat → Prop} {w w' : World} (h : TurnG G w w') {p : Addr} (hs : p.block < w.heap.size) (hp : ¬ G p.block) : w'.cell? p = w.cell? p := World.cell?_of_block (w := w) (h.block p.block hs hp)
theorem TurnG.frozen {G : Nat → Prop} {w w' : World} (h : TurnG G w w') {p : Addr} (hs : p.block < w.heap.size) (hp : ¬ G p.block) : w'.frozen? p = w.frozen? p := World.frozen?_of_block (w := w) (h.block p.block hs hp)
/-- one disk's blocks: only they have turned, and those that came to them are new -/
structure Grew (G : Nat → Prop) (w : World) (G' : Nat → Prop) (w' : World) : Prop where
  turn : TurnG G w w'
  grow : ∀ k, G' k → G k ∨ w.heap.size ≤ k
theorem Grew.refl (G : Nat → Prop) (w : World) : Grew G w G w := ⟨TurnG.refl G w, fun _ h => Or.inl h⟩
theorem Grew.trans {G G' G'' : Nat → Prop} {a b c : World} (h : Grew G a G' b) (k : Grew G' b G'' c) : Grew G a G'' c :=
  ⟨⟨k.turn.os.trans h.turn.os, k.turn.tape.trans h.turn.tape, k.turn.output.trans h.turn.output, Nat.le_trans h.turn.size k.turn.size, fun i hi hg =>
    (k.turn.block i (Nat.lt_of_lt_of_le hi h.turn.size) (fun e => (h.grow i e).elim hg (fun h1 => by omega))).trans (h.turn.block i hi hg)⟩,
   fun i hi => by
    rcases k.grow i hi with h1 | h1
    · exact h.grow i h1
    · exact Or.inr (Nat.le_trans h.turn.size h1)⟩
theorem Grew.of_turn {G : Nat → Prop} {w w' : World} (h : TurnG G w w') : Grew G w G w' := ⟨h, fun _ h => Or.inl h⟩
theorem Grew.of_below {G : Nat → Prop} {w w' : World} (h : Below w.heap.size w w') : Grew G w G w' := Grew.of_turn (Below.turnG h G)
theorem Grew.base {G G' : Nat → Prop} {w w' : World} {B : Nat} (h : Grew G w G' w') (hg : ∀ k, G k → B ≤ k) (hB : B ≤ w.heap.size) : ∀ k, G' k → B ≤ k := fun k hk => by
  rcases h.grow k hk with h1 | h1
  · exact hg k h1
  · omega
theorem Grew.below {G G' : Nat → Prop} {w w' : World} {B : Nat} (h : Grew G w G' w') (hg : ∀ k, G k → B ≤ k) (hB : B ≤ w.heap.size) : Below B w w' := h.turn.below hg hB
theorem Grew.off {G G' : Nat → Prop} {w w' : World} (h : Grew G w G' w') {k : Nat} (hk : k < w.heap.size) (hg : ¬ G k) : ¬ G' k := fun e => by
  rcases h.grow k e with h1 | h1
  · exact hg h1
  · omega
/-- a slice that lies in none of the blocks -/
def ApartG (G : Nat → Prop) (v : Value) : Prop := ∀ x n c, v = .slice (some x) n c → n = 0 ∨ ¬ G x.block
theorem Rd.turnG {G : Nat → Prop} {w w' : World} {v : Value} {p : List UInt8} (h : Rd w v p) (ha : ApartG G v) (ho : TurnG G w w') : Rd w' v p := by
  rcases h with h | ⟨b, off, cap, h1, h2, h3, h4, h5, h6⟩
  · exact Or.inl h
  · have hb : ¬ G b := by
      rcases ha _ _ _ h2 with e | e
      · exact absurd (List.length_eq_zero_iff.1 e) h1
      · exact e
    exact Or.inr ⟨b, off, cap, h1, h2, h3, h4, Nat.lt_of_lt_of_le h5 ho.size, fun i hi => (ho.cell (p := ⟨b, off + i, none⟩) h5 hb).trans (h6 i hi)⟩
theorem Rd.lay {w : World} {v : Value} {p : List UInt8} (h : Rd w v p) {x : Addr} {n c : Nat} (e : v = .slice (some x) n c) : n = 0 ∨ x.block < w.heap.size := by
  rcases h with ⟨a, c', _, e2, _⟩ | ⟨b, off, cap, h1, h2, h3, h4, h5, h6⟩
  · subst e2; simp at e; exact Or.inl e.2.1.symm
  · subst h2; simp at e; obtain ⟨rfl, rfl, rfl⟩ := e; exact Or.inr h5
/-- it stays apart -/
theorem ApartG.grew {G G' : Nat → Prop} {w w' : World} {v : Value} {p : List UInt8} (ha : ApartG G v) (h : Rd w v p) (g : Grew G w G' w') : ApartG G' v := by
  intro x n c e
  rcases ha x n c e with h1 | h1
  · exact Or.inl h1
  · rcases h.lay e with h2 | h2
    · exact Or.inl h2
    · exact Or.inr (g.off h2 h1)
theorem Rd.grew {G G' : Nat → Prop} {w w' : World} {v : Value} {p : List UInt8} (h : Rd w v p) (ha : ApartG G v) (g : Grew G w G' w') : Rd w' v p := h.turnG ha g.turn
/-- one that was there before the blocks were laid -/
theorem Rd.apartG {w : World} {v : Value} {p : List UInt8} {G : Nat → Prop} (h : Rd w v p) (hg : ∀ g, G g → w.heap.size ≤ g) : ApartG G v := by
  intro x n c e
  rcases h.lay e with h2 | h2
  · exact Or.inl h2
  · exact Or.inr (fun h => by have := hg _ h; omega)
/-- one that was laid behind them -/
theorem ApartG.own {w : World} {base e n : Nat} {v : Value} {xs : List Value} {G : Nat → Prop} (h : w.ownsRow base e 1 v n xs) (hg : ∀ g, G g → g < base) : ApartG G v := by
  intro x m c ev
  obtain ⟨_, ⟨hv, hn⟩ | ⟨g, cap, cur, hv, hgb, _⟩⟩ := h
  · rw [hv] at ev; simp at ev
  · rw [hv] at ev
    simp at ev
    obtain ⟨rfl, _, _⟩ := ev
    exact Or.inr (fun h => by have := hg g h; omega)
theorem ApartG.nil (G : Nat → Prop) (c : Nat) (a : Option Addr) : ApartG G (.slice a 0 c) := fun x n c' e => by simp at e; exact Or.inl e.2.1.symm
theorem owns_block {w w' : World} {base e size n : Nat} {v : Value} {xs : List Value} (h : w.ownsRow base e size v n xs) (hb : ∀ g, v.ownBlock = some g → w'.heap[g]? = w.heap[g]?) : w'.ownsRow base e size v n xs := by
  obtain ⟨h0, h | ⟨g, cap, cur, hv, hg, hh, r⟩⟩ := h
  · exact ⟨h0, Or.inl h⟩
  · refine ⟨h0, Or.inr ⟨g, cap, cur, hv, hg, ?_, r⟩⟩
    rw [hb g (by rw [hv]; rfl)]
    exact hh
theorem owns_at {w : World} {base e size n b o c : Nat} {xs : List Value} (h : w.ownsRow base e size (.slice (some ⟨b, o, none⟩) n c) n xs) : base ≤ b ∧ b < w.heap.size := by
  obtain ⟨h0, h | ⟨g, cap, cur, hv, hg, hh, r⟩⟩ := h
  · simp at h
  · simp at hv
    obtain ⟨⟨rfl, _⟩, _⟩ := hv
    exact ⟨hg, (Array.getElem?_eq_some_iff.1 hh).1⟩
end Go.Proofs.YtddnfhfangfgeaaGreat.Gf

namespace Go.Proofs.YtddnfhfangfgeaaGreat.Gf
set_option linter.unusedVariables false
set_option linter.unusedSimpArgs false
open Go.RowKit
def FarV (w : World) (v : Value) : Prop := ∀ x n c, v = .slice (some x) n c → n = 0 ∨ w.heap.size ≤ x.block
theorem FarV.own {w w' : World} {e n : Nat} {v : Value} {xs : List Value} (h : w'.ownsRow w.heap.size e 1 v n xs) : FarV w v := fun x n' c e2 => by
  obtain ⟨_, ⟨hv, hn⟩ | ⟨g, cap, cur, hv, hg, _⟩⟩ := h
  · rw [hv] at e2; cases e2
  · rw [hv] at e2
    simp at e2
    obtain ⟨rfl, _⟩ := e2
    exact Or.inr hg
theorem FarV.nil (w : World) (a : Option Addr) (c : Nat) : FarV w (.slice a 0 c) := fun x n c' e => by simp at e; exact Or.inl e.2.1.symm
theorem FarV.apart {w : World} {v : Value} {G : Nat → Prop} (h : FarV w v) (hG : ∀ k, G k → k < w.heap.size) : ApartG G v := fun x n c e => (h x n c e).imp id fun q hg => by have := hG _ hg; omega
end Go.Proofs.YtddnfhfangfgeaaGreat.Gf

namespace Go.Proofs.YtddnfhfangfgeaaGreat.Gf
set_option linter.unusedVariables false
set_option linter.unusedSimpArgs false
open Go.RowKit
theorem i64_or_nat {a b : Nat} (ha : a < 9223372036854775808) (hb : b < 9223372036854775808) : bits .or .i64 (a : Int) (b : Int) = ((a ||| b : Nat) : Int) := by
  have h : a ||| b < 9223372036854775808 := Nat.or_lt_two_pow (n := 63) ha hb
  show IntKind.i64.wrap ((BitVec.ofInt 64 (a : Int) ||| BitVec.ofInt 64 (b : Int)).toNat : Nat) = _
  rw [BitVec.toNat_or, BitVec.ofInt_natCast, BitVec.ofInt_natCast, BitVec.toNat_ofNat, BitVec.toNat_ofNat, Nat.mod_eq_of_lt (by omega), Nat.mod_eq_of_lt (by omega), IntKind.wrap_i64]
  omega
theorem or_byte {a : Nat} {x : UInt8} : a * 256 ||| x.toNat = a * 256 + x.toNat := by
  have := Nat.two_pow_add_eq_or_of_lt (i := 8) (b := x.toNat) x.toNat_lt a
  rw [Nat.mul_comm a 256]
  exact this.symm
/-- the number of the first k of some bytes -/
def nuK (q : List UInt8) : Nat → Nat
  | 0 => 0
  | k + 1 => nuK q k * 256 + (co q k).toNat
theorem nuK_four (q : List UInt8) : nuK q 4 = nu q := by
  show (((0 * 256 + (co q 0).toNat) * 256 + (co q 1).toNat) * 256 + (co q 2).toNat) * 256 + (co q 3).toNat = nu q
  unfold nu
  omega
theorem nuK_lt (q : List UInt8) : ∀ k, nuK q k < 256 ^ k
  | 0 => by simp [nuK]
  | k + 1 => by
    have := nuK_lt q k
    have h := (co q k).toNat_lt
    rw [Nat.pow_succ]
    show nuK q k * 256 + (co q k).toNat < _
    omega
set_option maxRecDepth 100000 in
set_option maxHeartbeats 1000000 in
theorem snum_any {p : List UInt8} {w : World} {a : Option Addr} {c : Nat} (hp : Rd w (.slice a p.length c) p) (hl : 12 ≤ p.length) : Calls Tryz.prog 189 #[.slice a p.length c, .int .i64 4] w fun e w' => e = .returned (.int .i64 ((epS p : Nat) : Int)) ∧ w' = w := by
  obtain ⟨q, hq⟩ : ∃ q, Hid (q = (p.drop 4).take 4) := ⟨_, rfl⟩
  have HE : Hid (nuK q 4 = epS p) := by show _ = _; rw [nuK_four, hq.out]; rfl
  rw [← HE.out]
  clear HE
  rcases hp with ⟨a', c', rfl, _⟩ | ⟨b, o, c', hp0, e0, h1, h2, h3, hpc⟩
  · simp at hl
  simp at e0
  obtain ⟨rfl, rfl⟩ := e0
  have g1 : (8 : Int) ≤ (p.length : Int) := by omega
  have g2 : (4 : Int) ≤ (p.length : Int) := by omega
  have g3 : 8 ≤ c := by omega
  have g4 : (8 : Int) ≤ (c : Int) := by omega
  have g5 : ¬ c = 4 := by omega
  have cells : ∀ k, k < 4 → w.cell? ⟨b, o + 4 + k, none⟩ = some (.int .u8 (((co q k).toNat : Nat) : Int)) := by
    intro k hk
    have e := hpc (4 + k) (by omega)
    rw [← Nat.add_assoc] at e
    rw [e, hq.out, co_take hk, co_drop0]
  clear hpc hq
  go_enter Tryz.func189, Tryz.ntmps189
  go_wp2
  clear g1 g2 g3 g4 g5
  go_loop [5, 14] (fun x i => ∃ k : Nat, k ≤ 4 ∧ i = .int .i64 (k : Int) ∧ x = .int .i64 ((nuK q k : Nat) : Int)) (fun _ i => 4 - (intOf i).toNat)
  case atStart => exact ⟨0, by omega, rfl, rfl⟩
  case round =>
    obtain ⟨k, hk, rfl, rfl⟩ := hrel
    by_cases hlt : k < 4
    · have hlt' : (k : Int) < 4 := by omega
      have c1 := cells k hlt
      have hz := nuK_lt q k
      have h4 : 256 ^ k ≤ 256 ^ 3 := Nat.pow_le_pow_right (by decide) (by omega)
      have hz3 : nuK q k < 16777216 := Nat.lt_of_lt_of_le hz h4
      have HS : Hid (nuK q (k + 1) = nuK q k * 256 + (co q k).toNat) := rfl
      clear cells hz h4
      obtain ⟨z, ez⟩ : ∃ z, Hid (z = nuK q k) := ⟨_, rfl⟩
      rw [← ez.out] at hz3 HS ⊢
      have hb := (co q k).toNat_lt
      have Z1 : IntKind.i64.wrap ((z : Int) * 256) = ((z * 256 : Nat) : Int) := by rw [IntKind.wrap_i64]; omega
      have Z2 : IntKind.i64.wrap (((co q k).toNat : Nat) : Int) = (((co q k).toNat : Nat) : Int) := by rw [IntKind.wrap_i64]; omega
      have Z3 : bits .or .i64 ((z * 256 : Nat) : Int) (((co q k).toNat : Nat) : Int) = ((nuK q (k + 1) : Nat) : Int) := by
        rw [i64_or_nat (by omega) (by omega), or_byte, HS.out]
      obtain ⟨y, ey⟩ : ∃ y, Hid (y = z * 256) := ⟨_, rfl⟩
      rw [← ey.out] at Z1 Z3
      clear HS ez ey
      go_wp2
      go_round
      case rel => exact ⟨k + 1, by omega, by go_num, rfl⟩
      case measure => simp [intOf]; omega
    · have e : k = 4 := by omega
      subst e
      clear cells
      go_wp2
      go_ret
      exact ⟨rfl, rfl⟩
set_option maxRecDepth 100000 in
set_option maxHeartbeats 2000000 in
theorem sclone_any {p : List UInt8} {w : World} {a : Addr} {c : Nat} (hp : Rd w (.slice (some a) p.length c) p) (hl : p.length ≤ 100000) : Calls Tryz.prog 143 #[.slice (some a) p.length c] w fun e w' => ∃ v, e = .returned v ∧ Rd w' v p ∧ FarV w v ∧ Below w.heap.size w w' := by
  obtain ⟨i0, hi, hz0, hz1, hz2⟩ := info_parts info_u8
  have qT : ∀ (w : World) (a : Option Addr) (n c n' c' : Nat), (binOp .eql 36 (.slice a n c) (.slice none n' c')).run Tryz.prog w = .ok (.bool a.isNone) w := fun w a n c n' c' => Lib.run_eql_slice_nil w _ _ a n c n' c' Tryz.underlying36
  have B1 : Below w.heap.size w (w.alloc (.cells #[] 5)) := (Below.refl _ _).alloc (Nat.le_refl _) _
  have O1 : (w.alloc (.cells #[] 5)).ownsRow w.heap.size 5 1 (.slice (some ⟨w.heap.size, 0, none⟩) 0 0) 0 [] := own_new w _
  have hp1 := hp.below B1
  have hsz : w.heap.size ≤ (w.alloc (.cells #[] 5)).heap.size := B1.size
  go_enter Tryz.func143, Tryz.ntmps143
  go_wp2_with (at_builtin; go_loud (refine wpList_append_rd _ rfl (.tmp 5) (.tmp 6) 36 rfl w.heap.size 5 i0 Tryz.underlying36 hi hz0 hz1 hz2 (.slice (some ⟨w.heap.size, 0, none⟩) 0 0) 0 [] rfl O1 (.slice (some a) p.length c) p rfl hp1 (by omega) hsz ?_); intro v' w9 hv9 hg9)
  have HB : Hid (Below w.heap.size w w9) := B1.grown hg9 hsz (fun q hq => by cases hq; exact Nat.le_refl _)
  have HO : Hid (Rd w9 v' p ∧ FarV w v') := ⟨rd_one hv9, FarV.own hv9⟩
  clear hv9 hg9 B1 O1 hp1 hp qT
  go_wp2
  go_ret
  exact ⟨v', rfl, HO.out.1, HO.out.2, HB.out⟩
end Go.Proofs.YtddnfhfangfgeaaGreat.Gf

