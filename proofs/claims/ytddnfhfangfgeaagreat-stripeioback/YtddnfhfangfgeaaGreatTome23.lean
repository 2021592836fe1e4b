/- TEXTS JOINED: WdCD. -/
import Derived.Test.YtddnfhfangfgeaaGreatChecked
import GoSem.Claim
import GoSem.ClaimJoined
import GoSem.ClaimMapViews
import Derived.JoinedTies
import Derived.KernelRfl
import Derived.WalkKit
import Derived.Deep.QuietTactic
import Derived.BigQuiet
import Derived.WalkLawsBesides
import Derived.WalkSpells
import Derived.OpenShut
import Derived.Deep.AppendLies
import Derived.Laws.CopyOwn
import Derived.Laws.AppendOwnNone
import Derived.Deep.RegionHeld3
import Derived.WalkMore
import Derived.Lib.SliceRun
import Derived.Deep.RegionWith
import Derived.Laws.EntriesVeiled
import Derived.Test.YtddnfhfangfgeaaGreatRows
import Derived.Test.YtddnfhfangfgeaaGreatTome2
import Derived.Test.YtddnfhfangfgeaaGreatTome3
import Derived.Test.YtddnfhfangfgeaaGreatTome6
import Derived.Test.YtddnfhfangfgeaaGreatTome1
import Derived.Test.YtddnfhfangfgeaaGreatTome10
import Derived.Test.YtddnfhfangfgeaaGreatTome13
import Derived.Test.YtddnfhfangfgeaaGreatTome20
import Derived.Test.YtddnfhfangfgeaaGreatTome15
import Derived.Test.YtddnfhfangfgeaaGreatTome21
import Derived.Test.YtddnfhfangfgeaaGreatTome16
namespace Go.Proofs.YtddnfhfangfgeaaGreat.Gf
set_option linter.unusedVariables false
set_option linter.unusedSimpArgs false
open Go.RowKit
/-- what 'righting' lays: its seven variables -/
structure Rt10 (w : World) (b gb mb fb kb nb sb wb : Nat) (k m : Int) (vg vn vm vw : Value) : Prop where
  cg : w.cell? ⟨gb, 0, none⟩ = some vg
  cm : w.cell? ⟨mb, 0, none⟩ = some (.int .i64 m)
  cf : w.cell? ⟨fb, 0, none⟩ = some (.pointer (some ⟨b, 0, none⟩))
  ck : w.cell? ⟨kb, 0, none⟩ = some (.int .i64 k)
  cn : w.cell? ⟨nb, 0, none⟩ = some vn
  cs : w.cell? ⟨sb, 0, none⟩ = some vm
  cw : w.cell? ⟨wb, 0, none⟩ = some vw
  lt : gb < w.heap.size ∧ mb < w.heap.size ∧ fb < w.heap.size ∧ kb < w.heap.size ∧ nb < w.heap.size ∧ sb < w.heap.size ∧ wb < w.heap.size
theorem Rt10.below {w w' : World} {b gb mb fb kb nb sb wb : Nat} {k m : Int} {vg vn vm vw : Value} (h : Rt10 w b gb mb fb kb nb sb wb k m vg vn vm vw) (hb : Below w.heap.size w w') : Rt10 w' b gb mb fb kb nb sb wb k m vg vn vm vw := by
  obtain ⟨l1, l2, l3, l4, l5, l6, l7⟩ := h.lt
  have hs := hb.size
  exact ⟨(hb.cell (p := ⟨gb, 0, none⟩) l1).trans h.cg, (hb.cell (p := ⟨mb, 0, none⟩) l2).trans h.cm, (hb.cell (p := ⟨fb, 0, none⟩) l3).trans h.cf, (hb.cell (p := ⟨kb, 0, none⟩) l4).trans h.ck, (hb.cell (p := ⟨nb, 0, none⟩) l5).trans h.cn, (hb.cell (p := ⟨sb, 0, none⟩) l6).trans h.cs, (hb.cell (p := ⟨wb, 0, none⟩) l7).trans h.cw, by omega, by omega, by omega, by omega, by omega, by omega, by omega⟩
/-- bytes do not lie where none can -/
theorem rd_not {W : World} {v : Value} {p : List UInt8} {q : Nat} (h : Rd W v p) (hq : ∀ i x, W.cell? ⟨q, i, none⟩ ≠ some (.int .u8 x)) : Apart q v := by
  intro a m c e
  subst e
  by_cases hm : m = 0
  · exact Or.inl hm
  · right
    obtain ⟨_, _, e2⟩ := h.form
    simp at e2
    obtain ⟨b, off, e3, _, e4⟩ := h.byte (i := 0) (by omega)
    simp at e3
    subst e3
    intro e5
    subst e5
    exact hq _ _ e4
set_option maxRecDepth 100000 in
set_option maxHeartbeats 2000000 in
theorem erig_any {b : Nat} {k m : Int} {vw vm : Value} {ws : List UInt8} {ms : List Bool} {w : World} (hF : FieldAt w b) (hw : Rd w vw ws) (hm : RdB w vm ms) (hl : ms.length ≤ 256) :
    Calls Tryz.prog 135 #[.pointer (some ⟨b, 0, none⟩), .int .i64 k, .int .i64 m, vw, vm] w fun e w' => ∃ gb mb fb kb nb sb wb vg vn, e = .returned (.func (.func 167) #[] #[.pointer (some ⟨gb, 0, none⟩), .pointer (some ⟨mb, 0, none⟩), .pointer (some ⟨fb, 0, none⟩), .pointer (some ⟨kb, 0, none⟩), .pointer (some ⟨nb, 0, none⟩), .pointer (some ⟨sb, 0, none⟩), .pointer (some ⟨wb, 0, none⟩)]) ∧
      Rt10 w' b gb mb fb kb nb sb wb k m vg vn vm vw ∧ OwnI w' w.heap.size 3 vg (plc (hb ms) ms.length) ∧ Rd w' vn (locL (ptsL (plc (hb ms) ms.length))) ∧ Below w.heap.size w w' := by
  obtain ⟨a1, c1, rfl⟩ := hw.form
  obtain ⟨a2, c2, rfl⟩ := hm.form
  go_enter Tryz.func135, Tryz.ntmps135
  go_wp2_with fail
  obtain ⟨u0, hu0⟩ : ∃ u0, u0 = (((((w.alloc (.cells #[.pointer (some ⟨b, 0, none⟩)] 26)).alloc (.cells #[.int .i64 k] 3)).alloc (.cells #[.int .i64 m] 3)).alloc (.cells #[.slice a1 ws.length c1] 36)).alloc (.cells #[.slice a2 ms.length c2] 96)) := ⟨_, rfl⟩
  rw [← hu0]
  obtain ⟨x0, hx0⟩ : ∃ x0, Hid (x0 = w.heap.size) := ⟨_, rfl⟩
  have B0 : Below w.heap.size w u0 := by rw [hu0]; repeat (first | exact Below.refl _ _ | apply below_lit)
  have cf : u0.cell? ⟨x0, 0, none⟩ = some (.pointer (some ⟨b, 0, none⟩)) := by rw [hu0, hx0.out]; go_simp
  have ck : u0.cell? ⟨x0 + 1, 0, none⟩ = some (.int .i64 k) := by rw [hu0, hx0.out]; go_simp
  have cm : u0.cell? ⟨x0 + 1 + 1, 0, none⟩ = some (.int .i64 m) := by rw [hu0, hx0.out]; go_simp
  have cw : u0.cell? ⟨x0 + 1 + 1 + 1, 0, none⟩ = some (.slice a1 ws.length c1) := by rw [hu0, hx0.out]; go_simp
  have cs : u0.cell? ⟨x0 + 1 + 1 + 1 + 1, 0, none⟩ = some (.slice a2 ms.length c2) := by rw [hu0, hx0.out]; go_simp
  have hsz0 : u0.heap.size = x0 + 5 := by rw [hu0, hx0.out]; simp
  have hm0 := hm.below B0
  have hF0 := hF.below B0
  rw [← hx0.out]
  clear hu0 hm hF hw
  refine (epl_any hm0 (by omega)).mono ?_
  rintro e u1 ⟨vg, rfl, O1, B1⟩
  obtain ⟨ga, gc, rfl⟩ := O1.form
  have hl1 : Hid ((plc (hb ms) ms.length).length ≤ 300) := by show _ ≤ _; rw [plc_length]; have := cnt_le (hb ms) ms.length; omega
  have hl2 : Hid (∀ i, i < (plc (hb ms) ms.length).length → (plc (hb ms) ms.length).getD i 0 < 256) := fun i hi => by have := (plc_mem.1 (getD_mem hi)).1; omega
  obtain ⟨Z, hZ⟩ : ∃ Z, Z = plc (hb ms) ms.length := ⟨_, rfl⟩
  rw [← hZ] at O1 hl1 hl2 ⊢
  have HZ : Hid _ := hZ
  clear hZ
  have s1 := B1.size
  have R1 := (O1.rd (by have := hl1.out; omega))
  have A1 : Below u1.heap.size u1 (u1.alloc (.cells #[.slice ga Z.length gc] 45)) := (Below.refl _ _).alloc (Nat.le_refl _) _
  have cf1 := (A1.cell (p := ⟨x0, 0, none⟩) (show x0 < u1.heap.size by omega)).trans ((B1.cell (p := ⟨x0, 0, none⟩) (show x0 < u0.heap.size by omega)).trans cf)
  obtain ⟨G, hG⟩ : ∃ G, Hid (G = u1.heap.size) := ⟨_, rfl⟩
  obtain ⟨u2, hu2⟩ : ∃ u2, u2 = u1.alloc (.cells #[.slice ga Z.length gc] 45) := ⟨_, rfl⟩
  have cg2 : u2.cell? ⟨G, 0, none⟩ = some (.slice ga Z.length gc) := by rw [hu2, hG.out]; go_simp
  have s2 : u2.heap.size = G + 1 := by rw [hu2, hG.out]; simp
  rw [← hu2] at A1 cf1
  have B2 : Below u0.heap.size u0 u2 := Below.next B1 A1
  have s3 : x0 + 5 ≤ G := by have := hG.out; omega
  have P1 := And.intro cf1 cg2
  have Q1 : Hid (∀ W, Below u2.heap.size u2 W → W.cell? ⟨x0, 0, none⟩ = some (.pointer (some ⟨b, 0, none⟩)) ∧ W.cell? ⟨G, 0, none⟩ = some (.slice ga Z.length gc)) := fun W h => ⟨(h.cell (p := ⟨x0, 0, none⟩) (show x0 < u2.heap.size by omega)).trans cf1, (h.cell (p := ⟨G, 0, none⟩) (show G < u2.heap.size by omega)).trans cg2⟩
  have R2 := R1.below A1
  have F2 := hF0.below B2
  have HC1 : ∀ W, Below u2.heap.size u2 W → Calls Tryz.prog 166 #[.slice ga Z.length gc] W fun e w' => ∃ v, e = .returned v ∧ Rd w' v (ptsL Z) ∧ Below W.heap.size W w' := fun W h => ept_any (R2.below h) hl1.out hl2.out
  have HC2 : ∀ W v, Below u2.heap.size u2 W → Rd W v (ptsL Z) → Calls Tryz.prog 165 #[.pointer (some ⟨b, 0, none⟩), v] W fun e w' => ∃ v', e = .returned v' ∧ Rd w' v' (locL (ptsL Z)) ∧ Below W.heap.size W w' := fun W v h r => kloc_any (F2.below h) r (by rw [ptsL_length]; exact hl1.out)
  have FIN : ∀ W0 W q a8 c8, Below u2.heap.size u2 W0 → Below u2.heap.size u2 W → q < W.heap.size → u2.heap.size ≤ q → W.cell? ⟨q, 0, none⟩ = some (.slice none 0 0) → (∀ i x, W.cell? ⟨q, i, none⟩ ≠ some (.int .u8 x)) → Rd W (.slice a8 (locL (ptsL Z)).length c8) (locL (ptsL Z)) →
      ((W.setCell ⟨q, 0, none⟩ (.slice a8 (locL (ptsL Z)).length c8)).cell? ⟨x0, 0, none⟩ = some (.pointer (some ⟨b, 0, none⟩)) ∧ (W.setCell ⟨q, 0, none⟩ (.slice a8 (locL (ptsL Z)).length c8)).cell? ⟨G, 0, none⟩ = some (.slice ga Z.length gc)) ∧
      ∃ gb mb fb kb nb sb wb vg vn, Ending.returned (.func (.func 167) #[] #[.pointer (some ⟨G, 0, none⟩), .pointer (some ⟨x0 + 1 + 1, 0, none⟩), .pointer (some ⟨x0, 0, none⟩), .pointer (some ⟨x0 + 1, 0, none⟩), .pointer (some ⟨q, 0, none⟩), .pointer (some ⟨x0 + 1 + 1 + 1 + 1, 0, none⟩), .pointer (some ⟨x0 + 1 + 1 + 1, 0, none⟩)]) = .returned (.func (.func 167) #[] #[.pointer (some ⟨gb, 0, none⟩), .pointer (some ⟨mb, 0, none⟩), .pointer (some ⟨fb, 0, none⟩), .pointer (some ⟨kb, 0, none⟩), .pointer (some ⟨nb, 0, none⟩), .pointer (some ⟨sb, 0, none⟩), .pointer (some ⟨wb, 0, none⟩)]) ∧
      Rt10 (W.setCell ⟨q, 0, none⟩ (.slice a8 (locL (ptsL Z)).length c8)) b gb mb fb kb nb sb wb k m vg vn (.slice a2 ms.length c2) (.slice a1 ws.length c1) ∧ OwnI (W.setCell ⟨q, 0, none⟩ (.slice a8 (locL (ptsL Z)).length c8)) w.heap.size 3 vg Z ∧ Rd (W.setCell ⟨q, 0, none⟩ (.slice a8 (locL (ptsL Z)).length c8)) vn (locL (ptsL Z)) ∧ Below w.heap.size w (W.setCell ⟨q, 0, none⟩ (.slice a8 (locL (ptsL Z)).length c8)) := by
    intro W0 W q a8 c8 h0 h hq hqu kq kn hR
    have hb : Below u2.heap.size u2 (W.setCell ⟨q, 0, none⟩ (.slice a8 (locL (ptsL Z)).length c8)) := h.setCell (p := ⟨q, 0, none⟩) hqu _
    have hb0 : Below u0.heap.size u0 (W.setCell ⟨q, 0, none⟩ (.slice a8 (locL (ptsL Z)).length c8)) := Below.next B2 hb
    have hap : Apart q (.slice a8 (locL (ptsL Z)).length c8) := rd_not hR kn
    have hR2 := hR.only hap ((Only.refl q W).setCell 0 (.slice a8 (locL (ptsL Z)).length c8))
    have hl := hb.size
    obtain ⟨t1, t2⟩ := Q1.out _ hb
    refine ⟨⟨t1, t2⟩, G, x0 + 1 + 1, x0, x0 + 1, q, x0 + 1 + 1 + 1 + 1, x0 + 1 + 1 + 1, _, _, rfl, ⟨t2, (hb0.cell (p := ⟨x0 + 1 + 1, 0, none⟩) (show x0 + 1 + 1 < u0.heap.size by omega)).trans cm, t1, (hb0.cell (p := ⟨x0 + 1, 0, none⟩) (show x0 + 1 < u0.heap.size by omega)).trans ck, World.cell?_setCell_same W ⟨q, 0, none⟩ _ kq, (hb0.cell (p := ⟨x0 + 1 + 1 + 1 + 1, 0, none⟩) (show x0 + 1 + 1 + 1 + 1 < u0.heap.size by omega)).trans cs, (hb0.cell (p := ⟨x0 + 1 + 1 + 1, 0, none⟩) (show x0 + 1 + 1 + 1 < u0.heap.size by omega)).trans cw, by omega, by omega, by omega, by omega, ?_, by omega, by omega⟩, ?_, hR2, B0.trans (hb0.mono B0.size)⟩
    · simpa using hq
    · exact ownsRow_base (owns_later O1 (Below.next A1 hb)) (by have := B0.size; omega)
  have D0 : Below u2.heap.size u2 u2.drew := (Below.refl _ _).drew
  have D1 : Below u2.heap.size u2 (u2.drew.alloc (.cells #[.slice none 0 0] 36)) := below_lit D0 _
  clear R2 F2 R1 cf1 hF0 hm0 cg2 A1 O1 B2 B1 B0 cf ck cm cw cs s2
  go_wp2_with fail
  rw [← hu2, ← hG.out]
  clear hu2
  -- REGION
  refine wp_region_held_drew (S := (fun wx => wx.cell? ⟨x0, 0, none⟩ = some (.pointer (some ⟨b, 0, none⟩)) ∧ wx.cell? ⟨G, 0, none⟩ = some (.slice ga Z.length gc))) (by kernel_rfl) ?_ (fun hHeld => ?_)
  · exact P1
  refine wpAnyH_take (i := 0) (v := ?_) rfl (by kernel_rfl) (by kernel_rfl) (by kernel_rfl) (fun _ _ _ h => h) (Or.inl ⟨by rfl, ?_⟩) (by assumption) ?_
  rotate_left
  · intro w hSw; (try dsimp only at hSw); go_simp; try with_reducible rfl
  try simp only [Act.put, List.setIfInBounds_toArray, List.set_cons_zero, List.set_cons_succ]
  refine wpAnyH_take (i := 1) (v := ?_) rfl (by kernel_rfl) (by kernel_rfl) (by kernel_rfl) (fun _ _ _ h => h) (Or.inl ⟨by rfl, ?_⟩) (by assumption) ?_
  rotate_left
  · intro w hSw; (try dsimp only at hSw); go_simp; try with_reducible rfl
  try simp only [Act.put, List.setIfInBounds_toArray, List.set_cons_zero, List.set_cons_succ]
  refine wpAnyH_ready (rs := [2, 4]) (by kernel_rfl) (by simp) ?_
  refine AllReadyH.cons rfl (fun K hK => ?_) (AllReadyH.cons rfl (fun K hK => ?_) AllReadyH.nil)
  · go_simp
    refine (HC1 _ (by first | assumption | exact D0 | exact D1 | exact below_lit C9 _ | exact below_lit C8 _)).mono ?_
    rintro e w9 ⟨v9, rfl, R9, B9⟩
    obtain ⟨a9, c9, rfl⟩ := R9.form
    have C9 : Below u2.heap.size u2 w9 := by first | exact Below.next D0 B9 | exact Below.next D1 B9
    have R9a := R9.below ((Below.refl _ _).alloc (Nat.le_refl _) (.cells #[.slice none 0 0] 36))
    try go_simp
    refine hK.out _ _ ?_ (fun hHeld => ?_)
    · exact Q1.out _ C9
    clear hK K
    try simp only [Act.put, List.setIfInBounds_toArray, List.set_cons_zero, List.set_cons_succ]
    refine wpAnyH_ready (rs := [3, 4]) (by kernel_rfl) (by simp) ?_
    refine AllReadyH.cons rfl (fun K hK => ?_) (AllReadyH.cons rfl (fun K hK => ?_) AllReadyH.nil)
    · go_simp
      refine (HC2 _ _ (by first | assumption | exact D0 | exact D1 | exact below_lit C9 _ | exact below_lit C8 _) (by assumption)).mono ?_
      rintro e w8 ⟨v8, rfl, R8, B8⟩
      obtain ⟨a8, c8, rfl⟩ := R8.form
      have C8 : Below u2.heap.size u2 w8 := by first | exact Below.next C9 B8 | exact Below.next (below_lit C9 _) B8
      try go_simp
      refine hK.out _ _ ?_ (fun hHeld => ?_)
      · exact Q1.out _ C8
      clear hK K
      try simp only [Act.put, List.setIfInBounds_toArray, List.set_cons_zero, List.set_cons_succ]
      refine wpAnyH_ready (rs := [4]) (by kernel_rfl) (by simp) ?_
      refine AllReadyH.cons rfl (fun K hK => ?_) AllReadyH.nil
      go_simp
      refine hK.out _ _ ?_ (fun hHeld => ?_)
      · exact Q1.out _ (by first | assumption | exact D0 | exact D1 | exact below_lit C9 _ | exact below_lit C8 _)
      clear hK K
      try simp only [Act.put, List.setIfInBounds_toArray, List.set_cons_zero, List.set_cons_succ]
      have kq : (w8.alloc (.cells #[.slice none 0 0] 36)).cell? ⟨w8.heap.size, 0, none⟩ = some (.slice none 0 0) := by go_simp
      have kf : (w8.alloc (.cells #[.slice none 0 0] 36)).frozen? ⟨w8.heap.size, 0, none⟩ = false := by go_simp
      have FW := FIN w8 (w8.alloc (.cells #[.slice none 0 0] 36)) w8.heap.size a8 c8 C8 (below_lit C8 _) (by simp) (by have := C8.size; omega) kq (fun i x => by rw [World.cell?_alloc_new]; rcases i with _ | i <;> simp) (R8.below ((Below.refl _ _).alloc (Nat.le_refl _) _))
      rw [World.setCell_alloc_new] at FW
      simp only [List.setIfInBounds_toArray, List.set_cons_zero] at FW
      clear HC1 HC2 FIN
      refine wpAnyH_ready (rs := [5]) (by kernel_rfl) (by simp) ?_
      refine AllReadyH.cons rfl (fun K hK => ?_) AllReadyH.nil
      go_simp
      refine hK.out _ _ ?_ (fun hHeld => ?_)
      · exact FW.1
      clear hK K
      refine wpAnyH_done (by kernel_rfl) ?_ _
      have FW2 : Hid _ := FW.2
      clear FW
      try simp only [Act.put, List.setIfInBounds_toArray, List.set_cons_zero, List.set_cons_succ]
      go_wp2
      go_ret
      rw [← HZ.out]
      exact FW2.out
    · go_simp
      refine hK.out _ _ ?_ (fun hHeld => ?_)
      · exact Q1.out _ (by first | assumption | exact D0 | exact D1 | exact below_lit C9 _ | exact below_lit C8 _)
      clear hK K
      try simp only [Act.put, List.setIfInBounds_toArray, List.set_cons_zero, List.set_cons_succ]
      refine wpAnyH_ready (rs := [3]) (by kernel_rfl) (by simp) ?_
      refine AllReadyH.cons rfl (fun K hK => ?_) AllReadyH.nil
      go_simp
      refine (HC2 _ _ (by first | assumption | exact D0 | exact D1 | exact below_lit C9 _ | exact below_lit C8 _) (by assumption)).mono ?_
      rintro e w8 ⟨v8, rfl, R8, B8⟩
      obtain ⟨a8, c8, rfl⟩ := R8.form
      have C8 : Below u2.heap.size u2 w8 := by first | exact Below.next C9 B8 | exact Below.next (below_lit C9 _) B8
      try go_simp
      refine hK.out _ _ ?_ (fun hHeld => ?_)
      · exact Q1.out _ C8
      clear hK K
      try simp only [Act.put, List.setIfInBounds_toArray, List.set_cons_zero, List.set_cons_succ]
      have lq : w9.heap.size < (w9.alloc (.cells #[.slice none 0 0] 36)).heap.size := by simp
      have kq := (B8.cell (p := ⟨w9.heap.size, 0, none⟩) lq).trans (show (w9.alloc (.cells #[.slice none 0 0] 36)).cell? ⟨w9.heap.size, 0, none⟩ = some (.slice none 0 0) by go_simp)
      have kf := (B8.frozen (p := ⟨w9.heap.size, 0, none⟩) lq).trans (show (w9.alloc (.cells #[.slice none 0 0] 36)).frozen? ⟨w9.heap.size, 0, none⟩ = false by go_simp)
      have FW := FIN w8 w8 w9.heap.size a8 c8 C8 C8 (Nat.lt_of_lt_of_le lq B8.size) (by have := C9.size; omega) kq (fun i x => by rw [B8.cell (p := ⟨w9.heap.size, i, none⟩) lq, World.cell?_alloc_new]; rcases i with _ | i <;> simp) R8
      clear HC1 HC2 FIN
      refine wpAnyH_ready (rs := [5]) (by kernel_rfl) (by simp) ?_
      refine AllReadyH.cons rfl (fun K hK => ?_) AllReadyH.nil
      go_simp
      refine hK.out _ _ ?_ (fun hHeld => ?_)
      · exact FW.1
      clear hK K
      refine wpAnyH_done (by kernel_rfl) ?_ _
      have FW2 : Hid _ := FW.2
      clear FW
      try simp only [Act.put, List.setIfInBounds_toArray, List.set_cons_zero, List.set_cons_succ]
      go_wp2
      go_ret
      rw [← HZ.out]
      exact FW2.out
  · go_simp
    refine hK.out _ _ ?_ (fun hHeld => ?_)
    · exact Q1.out _ (by first | assumption | exact D0 | exact D1 | exact below_lit C9 _ | exact below_lit C8 _)
    clear hK K
    try simp only [Act.put, List.setIfInBounds_toArray, List.set_cons_zero, List.set_cons_succ]
    refine wpAnyH_ready (rs := [2]) (by kernel_rfl) (by simp) ?_
    refine AllReadyH.cons rfl (fun K hK => ?_) AllReadyH.nil
    go_simp
    refine (HC1 _ (by first | assumption | exact D0 | exact D1 | exact below_lit C9 _ | exact below_lit C8 _)).mono ?_
    rintro e w9 ⟨v9, rfl, R9, B9⟩
    obtain ⟨a9, c9, rfl⟩ := R9.form
    have C9 : Below u2.heap.size u2 w9 := by first | exact Below.next D0 B9 | exact Below.next D1 B9
    have R9a := R9.below ((Below.refl _ _).alloc (Nat.le_refl _) (.cells #[.slice none 0 0] 36))
    try go_simp
    refine hK.out _ _ ?_ (fun hHeld => ?_)
    · exact Q1.out _ C9
    clear hK K
    try simp only [Act.put, List.setIfInBounds_toArray, List.set_cons_zero, List.set_cons_succ]
    refine wpAnyH_ready (rs := [3]) (by kernel_rfl) (by simp) ?_
    refine AllReadyH.cons rfl (fun K hK => ?_) AllReadyH.nil
    go_simp
    refine (HC2 _ _ (by first | assumption | exact D0 | exact D1 | exact below_lit C9 _ | exact below_lit C8 _) (by assumption)).mono ?_
    rintro e w8 ⟨v8, rfl, R8, B8⟩
    obtain ⟨a8, c8, rfl⟩ := R8.form
    have C8 : Below u2.heap.size u2 w8 := by first | exact Below.next C9 B8 | exact Below.next (below_lit C9 _) B8
    try go_simp
    refine hK.out _ _ ?_ (fun hHeld => ?_)
    · exact Q1.out _ C8
    clear hK K
    try simp only [Act.put, List.setIfInBounds_toArray, List.set_cons_zero, List.set_cons_succ]
    have lq : u2.heap.size < (u2.drew.alloc (.cells #[.slice none 0 0] 36)).heap.size := by simp
    have lq9 : u2.heap.size < w9.heap.size := Nat.lt_of_lt_of_le lq B9.size
    have kq := (B8.cell (p := ⟨u2.heap.size, 0, none⟩) lq9).trans ((B9.cell (p := ⟨u2.heap.size, 0, none⟩) lq).trans (show (u2.drew.alloc (.cells #[.slice none 0 0] 36)).cell? ⟨u2.heap.size, 0, none⟩ = some (.slice none 0 0) by go_simp))
    have kf := (B8.frozen (p := ⟨u2.heap.size, 0, none⟩) lq9).trans ((B9.frozen (p := ⟨u2.heap.size, 0, none⟩) lq).trans (show (u2.drew.alloc (.cells #[.slice none 0 0] 36)).frozen? ⟨u2.heap.size, 0, none⟩ = false by go_simp))
    have FW := FIN w8 w8 u2.heap.size a8 c8 C8 C8 (Nat.lt_of_lt_of_le lq9 B8.size) (Nat.le_refl _) kq (fun i x => by rw [B8.cell (p := ⟨u2.heap.size, i, none⟩) lq9, B9.cell (p := ⟨u2.heap.size, i, none⟩) lq]; show (u2.alloc (.cells #[.slice none 0 0] 36)).cell? ⟨u2.heap.size, i, none⟩ ≠ _; rw [World.cell?_alloc_new]; rcases i with _ | i <;> simp) R8
    clear HC1 HC2 FIN
    refine wpAnyH_ready (rs := [5]) (by kernel_rfl) (by simp) ?_
    refine AllReadyH.cons rfl (fun K hK => ?_) AllReadyH.nil
    go_simp
    refine hK.out _ _ ?_ (fun hHeld => ?_)
    · exact FW.1
    clear hK K
    refine wpAnyH_done (by kernel_rfl) ?_ _
    have FW2 : Hid _ := FW.2
    clear FW
    try simp only [Act.put, List.setIfInBounds_toArray, List.set_cons_zero, List.set_cons_succ]
    go_wp2
    go_ret
    rw [← HZ.out]
    exact FW2.out
  -- REGION END
end Go.Proofs.YtddnfhfangfgeaaGreat.Gf
