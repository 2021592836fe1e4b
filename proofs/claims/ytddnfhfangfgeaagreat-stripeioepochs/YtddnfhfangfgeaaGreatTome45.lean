/- TEXTS JOINED: StCU. -/
import Derived.Below
import Derived.OpenShut
import Derived.Lib.SmallJoins
import Derived.Test.YtddnfhfangfgeaaGreatChecked
import GoSem.Claim
import GoSem.ClaimJoined
import GoSem.ClaimMapViews
import Derived.JoinedTies
import Derived.KernelRfl
import Derived.WalkKit
import Derived.Deep.QuietTactic
import Derived.BigQuiet
import Derived.WalkLawsBesides
import Derived.WalkSpells
import Derived.Laws.CopyOwn
import Derived.Deep.AppendLies
import Derived.Deep.OwnRows
import Derived.Laws.AppendOwnNone
import Derived.Deep.RegionHeld3
import Derived.WalkMore
import Derived.Deep.RegionLaw
import Derived.Deep.RegionWith
import Derived.Deep.CutRange
import Derived.Deep.Slices
import Derived.Maps.OwnSet
import Derived.Maps.Ext
import Derived.Lib.SliceRun
import Derived.Maps.RangeWalk
import Derived.Shelf.SlIterI.Nil
import Derived.Shelf.SortM.Plain
import Derived.Shelf.SortM.SortNone
import Derived.Ground.GgzProg
import Derived.Ground.SlgmProg
import Derived.Laws.BytesArg
import Derived.RangeFuncBox
import Derived.RangeFuncLeaves
import Derived.RangeFuncNested
import Derived.RangeFuncBound
import Derived.RangeFuncCalls
import Derived.Shelf.Abstract
import Derived.Shelf.RegionOpen
import Derived.OwnWalkIn
import Derived.TacticsInMore
import Derived.LoopNIn
import Derived.LoopIn
import Derived.Maps.AppendAt
import Derived.Laws.EntriesVeiled
import Derived.Test.YtddnfhfangfgeaaGreatRows
import Derived.Test.YtddnfhfangfgeaaGreatTome36
import Derived.Test.YtddnfhfangfgeaaGreatTome2
import Derived.Test.YtddnfhfangfgeaaGreatTome1
import Derived.Test.YtddnfhfangfgeaaGreatTome37
import Derived.Test.YtddnfhfangfgeaaGreatTome6
import Derived.Test.YtddnfhfangfgeaaGreatTome10
import Derived.Test.YtddnfhfangfgeaaGreatTome13
import Derived.Test.YtddnfhfangfgeaaGreatTome20
import Derived.Test.YtddnfhfangfgeaaGreatTome11
import Derived.Test.YtddnfhfangfgeaaGreatTome34
import Derived.Test.YtddnfhfangfgeaaGreatTome39
import Derived.Test.YtddnfhfangfgeaaGreatTome42
import Derived.Test.YtddnfhfangfgeaaGreatTome44
namespace Go.Proofs.YtddnfhfangfgeaaGreat.Gf
set_option linter.unusedVariables false
set_option linter.unusedSimpArgs false
open Go.RowKit
set_option maxRecDepth 100000 in
set_option maxHeartbeats 4000000 in
theorem sread_any {w : World} {ab fb : Nat} {GA : Nat → Prop} {a : ArS} (h : ArAt w ab GA a) (hF : FieldAt w fb) {g : GeoS} (hg : g.Wf) {st ep : Int} (hst : (Lit.int .i64 st).wf = true) (hz : okG g → g.z ≤ 300) :
    Calls Tryz.prog 24 #[.pointer (some ⟨ab, 0, none⟩), .pointer (some ⟨fb, 0, none⟩), aggG g, .int .i64 st, .int .i64 ep] w (MakesL15 w (rtX a g st ep) (rtD a g st ep) (rtB a g st ep)) := by
  have KS := fun W => @piss_any W (some ⟨ab, 0, none⟩) (some ⟨fb, 0, none⟩) g st ep _ rfl
  have KE := fun W => @pise_any W (some ⟨ab, 0, none⟩) (some ⟨fb, 0, none⟩) g st ep _ rfl
  obtain ⟨x, hx⟩ : ∃ x, Hid (ckT g st ep = x) := ⟨_, rfl⟩
  have KF := fun W (vv : Value) (hr : RdB W vv [decide (0 ≤ st ∧ st < g.s), decide (0 ≤ ep ∧ ep ≤ 2147483647)]) => @pref_any W g st ep ab fb hg vv _ hr (by simp) _ (rf_two.trans hx.out)
  obtain ⟨b1, hb1⟩ : ∃ b, Hid (b = decide (0 ≤ st ∧ st < g.s)) := ⟨_, rfl⟩
  obtain ⟨b2, hb2⟩ : ∃ b, Hid (b = decide (0 ≤ ep ∧ ep ≤ 2147483647)) := ⟨_, rfl⟩
  rw [← hb1.out] at KS KF
  rw [← hb2.out] at KE KF
  clear hb1 hb2
  have KP := fun (hT : OkT g st ep) W (hA : ArAt W ab GA a) (hf : FieldAt W fb) => pput_any hA hf hg hst hT (hz hT.1)
  by_cases hT : OkT g st ep
  rotate_left
  · have c0 : ¬ x = 0 := by rw [← hx.out]; exact ckT_not hT
    have e1 : rtX a g st ep = x := by unfold rtX; rw [if_neg hT]; exact hx.out
    have e2 : rtD a g st ep = [] := by unfold rtD; rw [e1, if_neg c0]
    have e3 : rtB a g st ep = [] := by unfold rtB; rw [e1, if_neg c0]
    rw [e1, e2, e3]
    clear e1 e2 e3 KP hx
    obtain ⟨k, m, z, s, t, o⟩ := g
    have LB := two_laid w (some ⟨ab, 0, none⟩) (some ⟨fb, 0, none⟩) ⟨k, m, z, s, t, o⟩ st ep 24 103
    rw [show aggG ⟨k, m, z, s, t, o⟩ = .agg #[.int .i64 k, .int .i64 m, .int .i64 z, .int .i64 s, .int .i64 t, .int .i64 o] from rfl]
    unfold aggP at KS KE KF
    simp only [cellsP, cellsG] at KS KE KF LB
    have LG := geo_laid w ⟨k, m, z, s, t, o⟩ 24
    obtain ⟨⟨y0, y1, y2, y3, y4, y5⟩, _⟩ := LG _ (Below.refl _ _)
    simp only [cellsG] at y0 y1 y2 y3 y4 y5
    have KF1 := KF
    obtain ⟨W1, hW1⟩ : ∃ W1, W1 = ((w.alloc (.cells #[.int .i64 k, .int .i64 m, .int .i64 z, .int .i64 s, .int .i64 t, .int .i64 o] 24)).alloc (.cells #[.pointer (some ⟨ab, 0, none⟩), .pointer (some ⟨fb, 0, none⟩), .int .i64 k, .int .i64 m, .int .i64 z, .int .i64 s, .int .i64 t, .int .i64 o, .int .i64 st, .int .i64 ep] 103)) := ⟨_, rfl⟩
    rw [← hW1] at LB
    have SE : Hid (∀ W, Below W1.heap.size W1 W → (W.cell? ⟨w.heap.size + 1, 0, none⟩ = some (.pointer (some ⟨ab, 0, none⟩)) ∧ W.cell? ⟨w.heap.size + 1, 1, none⟩ = some (.pointer (some ⟨fb, 0, none⟩)) ∧ W.cell? ⟨w.heap.size + 1, 2, none⟩ = some (.int .i64 k) ∧ W.cell? ⟨w.heap.size + 1, 3, none⟩ = some (.int .i64 m) ∧ W.cell? ⟨w.heap.size + 1, 4, none⟩ = some (.int .i64 z) ∧ W.cell? ⟨w.heap.size + 1, 5, none⟩ = some (.int .i64 s) ∧ W.cell? ⟨w.heap.size + 1, 6, none⟩ = some (.int .i64 t) ∧ W.cell? ⟨w.heap.size + 1, 7, none⟩ = some (.int .i64 o) ∧ W.cell? ⟨w.heap.size + 1, 8, none⟩ = some (.int .i64 st) ∧ W.cell? ⟨w.heap.size + 1, 9, none⟩ = some (.int .i64 ep)) ∧ (W.cell? ⟨w.heap.size, 0, none⟩ = some (.int .i64 k) ∧ W.cell? ⟨w.heap.size, 1, none⟩ = some (.int .i64 m) ∧ W.cell? ⟨w.heap.size, 2, none⟩ = some (.int .i64 z) ∧ W.cell? ⟨w.heap.size, 3, none⟩ = some (.int .i64 s) ∧ W.cell? ⟨w.heap.size, 4, none⟩ = some (.int .i64 t) ∧ W.cell? ⟨w.heap.size, 5, none⟩ = some (.int .i64 o))) := fun W b => ⟨(LB W b).1.all, (LB W b).2.1⟩
    have FE : Hid (∀ W, Below W1.heap.size W1 W → Below w.heap.size w W) := fun W b => (LB W b).2.2
    have LBS : Hid (∀ W, Below W1.heap.size W1 W → SpotAt W (w.heap.size + 1) (some ⟨ab, 0, none⟩) (some ⟨fb, 0, none⟩) ⟨k, m, z, s, t, o⟩ st ep) := fun W b => (LB W b).1
    clear LB LG KF
    go_enter Tryz.func24, Tryz.ntmps24
    go_upto_region 2 with fail
    rw [← hW1]
    clear hW1 y0 y1 y2 y3 y4 y5
    have s0 := (SE.out W1 (Below.refl _ _)).1
    have BD : Below W1.heap.size W1 W1.drew := (Below.refl _ _).drew
    have sD := (SE.out _ BD).1
    go_region_held3 (fun wx => wx.cell? ⟨w.heap.size + 1, 0, none⟩ = some (.pointer (some ⟨ab, 0, none⟩)) ∧ wx.cell? ⟨w.heap.size + 1, 1, none⟩ = some (.pointer (some ⟨fb, 0, none⟩)) ∧ wx.cell? ⟨w.heap.size + 1, 2, none⟩ = some (.int .i64 k) ∧ wx.cell? ⟨w.heap.size + 1, 3, none⟩ = some (.int .i64 m) ∧ wx.cell? ⟨w.heap.size + 1, 4, none⟩ = some (.int .i64 z) ∧ wx.cell? ⟨w.heap.size + 1, 5, none⟩ = some (.int .i64 s) ∧ wx.cell? ⟨w.heap.size + 1, 6, none⟩ = some (.int .i64 t) ∧ wx.cell? ⟨w.heap.size + 1, 7, none⟩ = some (.int .i64 o) ∧ wx.cell? ⟨w.heap.size + 1, 8, none⟩ = some (.int .i64 st) ∧ wx.cell? ⟨w.heap.size + 1, 9, none⟩ = some (.int .i64 ep)) (first | exact s0 | exact sD | exact s1 | exact s2 | exact s3 _ _ | exact s4) (first
      | (go_at_call 50; go_loud (refine (KS _).mono ?_); rintro _ v1 ⟨rfl, c1⟩; have B1 : Below W1.heap.size W1 v1 := BD.stepL c1 BD.size; have s1 := (SE.out _ B1).1)
      | (go_at_call 51; go_loud (refine (KE _).mono ?_); rintro _ v2 ⟨rfl, c2⟩; have B2 : Below W1.heap.size W1 v2 := B1.stepL c2 B1.size; have s2 := (SE.out _ B2).1; have s3 := fun q e => (SE.out (v2.alloc (.cells q e)) (B2.stepL (belL _ _) B2.size)).1; have B3 := fun q e => B2.stepL (belL v2 (.cells q e)) B2.size)
      | (go_at_call 49; go_loud (refine (KF1 _ _ (rdB_lit [b1, b2] rfl rfl rfl (by simp))).mono ?_); rintro _ v4 ⟨rfl, c4⟩; have B4 : Below W1.heap.size W1 v4 := (B3 _ _).stepL c4 (B3 _ _).size; have s4 := (SE.out _ B4).1))
    have FB : Hid (Below w.heap.size w v4) := FE.out _ B4
    clear s0 sD s1 s2 s3 s4 c1 c2 c4 B1 B2 B3 B4 BD KS KE KF1
    go_wp2
    refine bodyPost_ret (v := .tuple #[.slice none 0 0, .slice none 0 0, .int .i64 x]) (by simp [results, Tryz.results24, go_sem]) rfl ?_
    exact ⟨_, _, rfl, World.ownsRow_nil _ _ _ _, OwnI.nil _ _ _, FB.out⟩
  have c0 : x = 0 := by rw [← hx.out]; exact ckT_ok hT
  subst c0
  replace KP := KP hT
  have zz := okG_nat hT.1
  obtain ⟨X, hX⟩ : ∃ X, Hid (X = rtX a g st ep) := ⟨_, rfl⟩
  obtain ⟨RR, hRR⟩ : ∃ RR, Hid (RR = rtR a g st ep) := ⟨_, rfl⟩
  obtain ⟨BB, hBB⟩ : ∃ BB, Hid (BB = rtB a g st ep) := ⟨_, rfl⟩
  rw [← hX.out, ← hRR.out, ← hBB.out] at KP
  rw [← hX.out, ← hBB.out]
  have HA : Hid (ArAt w ab GA a) := h
  have HFd : Hid (FieldAt w fb) := hF
  clear h hF
  by_cases hX0 : X = 0
  rotate_left
  · have e2 : rtD a g st ep = [] := by unfold rtD; rw [if_neg (by rw [← hX.out]; exact hX0)]
    have e3 : Hid (BB = []) := by show _ = _; rw [hBB.out]; unfold rtB; rw [if_neg (by rw [← hX.out]; exact hX0)]
    rw [e2]
    clear e2 zz hX hRR hBB hx
    obtain ⟨k, m, z, s, t, o⟩ := g
    have LB := two_laid w (some ⟨ab, 0, none⟩) (some ⟨fb, 0, none⟩) ⟨k, m, z, s, t, o⟩ st ep 24 103
    rw [show aggG ⟨k, m, z, s, t, o⟩ = .agg #[.int .i64 k, .int .i64 m, .int .i64 z, .int .i64 s, .int .i64 t, .int .i64 o] from rfl]
    unfold aggP at KS KE KF
    simp only [cellsP, cellsG] at KS KE KF LB
    have LG := geo_laid w ⟨k, m, z, s, t, o⟩ 24
    obtain ⟨⟨y0, y1, y2, y3, y4, y5⟩, _⟩ := LG _ (Below.refl _ _)
    simp only [cellsG] at y0 y1 y2 y3 y4 y5
    have KF1 := KF
    obtain ⟨W1, hW1⟩ : ∃ W1, W1 = ((w.alloc (.cells #[.int .i64 k, .int .i64 m, .int .i64 z, .int .i64 s, .int .i64 t, .int .i64 o] 24)).alloc (.cells #[.pointer (some ⟨ab, 0, none⟩), .pointer (some ⟨fb, 0, none⟩), .int .i64 k, .int .i64 m, .int .i64 z, .int .i64 s, .int .i64 t, .int .i64 o, .int .i64 st, .int .i64 ep] 103)) := ⟨_, rfl⟩
    rw [← hW1] at LB
    have SE : Hid (∀ W, Below W1.heap.size W1 W → (W.cell? ⟨w.heap.size + 1, 0, none⟩ = some (.pointer (some ⟨ab, 0, none⟩)) ∧ W.cell? ⟨w.heap.size + 1, 1, none⟩ = some (.pointer (some ⟨fb, 0, none⟩)) ∧ W.cell? ⟨w.heap.size + 1, 2, none⟩ = some (.int .i64 k) ∧ W.cell? ⟨w.heap.size + 1, 3, none⟩ = some (.int .i64 m) ∧ W.cell? ⟨w.heap.size + 1, 4, none⟩ = some (.int .i64 z) ∧ W.cell? ⟨w.heap.size + 1, 5, none⟩ = some (.int .i64 s) ∧ W.cell? ⟨w.heap.size + 1, 6, none⟩ = some (.int .i64 t) ∧ W.cell? ⟨w.heap.size + 1, 7, none⟩ = some (.int .i64 o) ∧ W.cell? ⟨w.heap.size + 1, 8, none⟩ = some (.int .i64 st) ∧ W.cell? ⟨w.heap.size + 1, 9, none⟩ = some (.int .i64 ep)) ∧ (W.cell? ⟨w.heap.size, 0, none⟩ = some (.int .i64 k) ∧ W.cell? ⟨w.heap.size, 1, none⟩ = some (.int .i64 m) ∧ W.cell? ⟨w.heap.size, 2, none⟩ = some (.int .i64 z) ∧ W.cell? ⟨w.heap.size, 3, none⟩ = some (.int .i64 s) ∧ W.cell? ⟨w.heap.size, 4, none⟩ = some (.int .i64 t) ∧ W.cell? ⟨w.heap.size, 5, none⟩ = some (.int .i64 o))) := fun W b => ⟨(LB W b).1.all, (LB W b).2.1⟩
    have FE : Hid (∀ W, Below W1.heap.size W1 W → Below w.heap.size w W) := fun W b => (LB W b).2.2
    have LBS : Hid (∀ W, Below W1.heap.size W1 W → SpotAt W (w.heap.size + 1) (some ⟨ab, 0, none⟩) (some ⟨fb, 0, none⟩) ⟨k, m, z, s, t, o⟩ st ep) := fun W b => (LB W b).1
    clear LB LG KF
    unfold aggP at KP
    simp only [cellsP] at KP
    go_enter Tryz.func24, Tryz.ntmps24
    go_upto_region 2 with fail
    rw [← hW1]
    clear hW1 y0 y1 y2 y3 y4 y5
    have s0 := (SE.out W1 (Below.refl _ _)).1
    have BD : Below W1.heap.size W1 W1.drew := (Below.refl _ _).drew
    have sD := (SE.out _ BD).1
    go_region_held3 (fun wx => wx.cell? ⟨w.heap.size + 1, 0, none⟩ = some (.pointer (some ⟨ab, 0, none⟩)) ∧ wx.cell? ⟨w.heap.size + 1, 1, none⟩ = some (.pointer (some ⟨fb, 0, none⟩)) ∧ wx.cell? ⟨w.heap.size + 1, 2, none⟩ = some (.int .i64 k) ∧ wx.cell? ⟨w.heap.size + 1, 3, none⟩ = some (.int .i64 m) ∧ wx.cell? ⟨w.heap.size + 1, 4, none⟩ = some (.int .i64 z) ∧ wx.cell? ⟨w.heap.size + 1, 5, none⟩ = some (.int .i64 s) ∧ wx.cell? ⟨w.heap.size + 1, 6, none⟩ = some (.int .i64 t) ∧ wx.cell? ⟨w.heap.size + 1, 7, none⟩ = some (.int .i64 o) ∧ wx.cell? ⟨w.heap.size + 1, 8, none⟩ = some (.int .i64 st) ∧ wx.cell? ⟨w.heap.size + 1, 9, none⟩ = some (.int .i64 ep)) (first | exact s0 | exact sD | exact s1 | exact s2 | exact s3 _ _ | exact s4) (first
      | (go_at_call 50; go_loud (refine (KS _).mono ?_); rintro _ v1 ⟨rfl, c1⟩; have B1 : Below W1.heap.size W1 v1 := BD.stepL c1 BD.size; have s1 := (SE.out _ B1).1)
      | (go_at_call 51; go_loud (refine (KE _).mono ?_); rintro _ v2 ⟨rfl, c2⟩; have B2 : Below W1.heap.size W1 v2 := B1.stepL c2 B1.size; have s2 := (SE.out _ B2).1; have s3 := fun q e => (SE.out (v2.alloc (.cells q e)) (B2.stepL (belL _ _) B2.size)).1; have B3 := fun q e => B2.stepL (belL v2 (.cells q e)) B2.size)
      | (go_at_call 49; go_loud (refine (KF1 _ _ (rdB_lit [b1, b2] rfl rfl rfl (by simp))).mono ?_); rintro _ v4 ⟨rfl, c4⟩; have B4 : Below W1.heap.size W1 v4 := (B3 _ _).stepL c4 (B3 _ _).size; have s4 := (SE.out _ B4).1))
    have F4 := FE.out _ B4
    have K5 := KP _ (HA.out.below F4) (HFd.out.belowF F4)
    obtain ⟨x0, x1, x2, x3, x4, x5, x6, x7, x8, x9⟩ := s4
    clear s0 sD s1 s2 s3 c1 c2 c4 B1 B2 B3 B4 BD KS KE KF1 KP
    go_wp2_with fail
    refine K5.mono ?_
    rintro _ v5 ⟨va, vb, rfl, R5, O5, b5⟩
    have F5 : Hid (Below w.heap.size w v5) := F4.stepL b5 F4.size
    obtain ⟨aa, ac, rfl⟩ := R5.form
    obtain ⟨oa, oc, rfl⟩ := O5.form
    clear x0 x1 x2 x3 x4 x5 x6 x7 x8 x9 K5 R5 O5 b5 F4
    go_wp2
    refine bodyPost_ret (v := .tuple #[.slice none 0 0, .slice none 0 0, .int .i64 X]) (by simp [results, Tryz.results24, go_sem]) rfl ?_
    exact ⟨_, _, rfl, World.ownsRow_nil _ _ _ _, by rw [e3.out]; exact OwnI.nil _ _ _, F5.out⟩
  subst hX0
  obtain ⟨rl1, rl2⟩ := rtR_row hT hX.out.symm
  have eD : Hid (rtD a g st ep = (RR.take g.k.toNat).flatten) := by
    show _ = _
    unfold rtD
    rw [if_pos hX.out.symm, hRR.out]
    unfold rtR
    rw [if_pos hX.out.symm]
  rw [eD.out]
  rw [← hRR.out] at rl1 rl2
  obtain ⟨K, hK⟩ : ∃ K, Hid (K = g.k.toNat) := ⟨_, rfl⟩
  have ek : g.k = (K : Int) := by rw [hK.out]; exact zz.1.symm
  rw [← hK.out]
  have hKR : Hid (K ≤ RR.length ∧ 1 ≤ K ∧ RR.length ≤ 32) := by
    have := zz.2.2.2.2.1
    refine ⟨?_, ?_, ?_⟩
    · rw [hK.out, rl1]; unfold nT; omega
    · rw [hK.out]; exact zz.2.2.2.1
    · rw [rl1]; exact this
  have hfl : Hid ((RR.take K).flatten.length ≤ 1000000) := by
    show _ ≤ _
    have hle : ∀ r, r ≤ K → (RR.take r).flatten.length ≤ r * 300 := fun r => by
      induction r with
      | zero => intro _; simp
      | succ r ih =>
        intro hr
        rw [flat_take15 (by have := hKR.out; omega), List.length_append, Nat.add_mul, Nat.one_mul]
        have := ih (by omega)
        have h2 := rl2 r (by rw [← rl1]; have := hKR.out; omega)
        have := hz hT.1
        have := zz.2.2.1
        omega
    have := hle K (Nat.le_refl _)
    have := hKR.out
    have : K * 300 ≤ 32 * 300 := Nat.mul_le_mul_right _ (by omega)
    omega
  obtain ⟨FD, hFD⟩ : ∃ FD, Hid (FD = (RR.take K).flatten) := ⟨_, rfl⟩
  rw [← hFD.out]
  have KC := fun W (vv : Value) (hr : Rs W vv (RR.take K)) => ccatb_any hr hfl.out (by rw [List.length_take]; have := hKR.out; omega)
  rw [← hFD.out] at KC
  clear zz rl1 rl2 eD hX hRR hBB hT hx hK
  obtain ⟨k, m, z, s, t, o⟩ := g
  simp only at ek
  subst ek
  have LB := two_laid w (some ⟨ab, 0, none⟩) (some ⟨fb, 0, none⟩) ⟨(K : Int), m, z, s, t, o⟩ st ep 24 103
  rw [show aggG ⟨(K : Int), m, z, s, t, o⟩ = .agg #[.int .i64 (K : Int), .int .i64 m, .int .i64 z, .int .i64 s, .int .i64 t, .int .i64 o] from rfl]
  unfold aggP at KS KE KF
  simp only [cellsP, cellsG] at KS KE KF LB
  have LG := geo_laid w ⟨(K : Int), m, z, s, t, o⟩ 24
  obtain ⟨⟨y0, y1, y2, y3, y4, y5⟩, _⟩ := LG _ (Below.refl _ _)
  simp only [cellsG] at y0 y1 y2 y3 y4 y5
  have KF1 := KF
  obtain ⟨W1, hW1⟩ : ∃ W1, W1 = ((w.alloc (.cells #[.int .i64 (K : Int), .int .i64 m, .int .i64 z, .int .i64 s, .int .i64 t, .int .i64 o] 24)).alloc (.cells #[.pointer (some ⟨ab, 0, none⟩), .pointer (some ⟨fb, 0, none⟩), .int .i64 (K : Int), .int .i64 m, .int .i64 z, .int .i64 s, .int .i64 t, .int .i64 o, .int .i64 st, .int .i64 ep] 103)) := ⟨_, rfl⟩
  rw [← hW1] at LB
  have SE : Hid (∀ W, Below W1.heap.size W1 W → (W.cell? ⟨w.heap.size + 1, 0, none⟩ = some (.pointer (some ⟨ab, 0, none⟩)) ∧ W.cell? ⟨w.heap.size + 1, 1, none⟩ = some (.pointer (some ⟨fb, 0, none⟩)) ∧ W.cell? ⟨w.heap.size + 1, 2, none⟩ = some (.int .i64 (K : Int)) ∧ W.cell? ⟨w.heap.size + 1, 3, none⟩ = some (.int .i64 m) ∧ W.cell? ⟨w.heap.size + 1, 4, none⟩ = some (.int .i64 z) ∧ W.cell? ⟨w.heap.size + 1, 5, none⟩ = some (.int .i64 s) ∧ W.cell? ⟨w.heap.size + 1, 6, none⟩ = some (.int .i64 t) ∧ W.cell? ⟨w.heap.size + 1, 7, none⟩ = some (.int .i64 o) ∧ W.cell? ⟨w.heap.size + 1, 8, none⟩ = some (.int .i64 st) ∧ W.cell? ⟨w.heap.size + 1, 9, none⟩ = some (.int .i64 ep)) ∧ (W.cell? ⟨w.heap.size, 0, none⟩ = some (.int .i64 (K : Int)) ∧ W.cell? ⟨w.heap.size, 1, none⟩ = some (.int .i64 m) ∧ W.cell? ⟨w.heap.size, 2, none⟩ = some (.int .i64 z) ∧ W.cell? ⟨w.heap.size, 3, none⟩ = some (.int .i64 s) ∧ W.cell? ⟨w.heap.size, 4, none⟩ = some (.int .i64 t) ∧ W.cell? ⟨w.heap.size, 5, none⟩ = some (.int .i64 o))) := fun W b => ⟨(LB W b).1.all, (LB W b).2.1⟩
  have FE : Hid (∀ W, Below W1.heap.size W1 W → Below w.heap.size w W) := fun W b => (LB W b).2.2
  have LBS : Hid (∀ W, Below W1.heap.size W1 W → SpotAt W (w.heap.size + 1) (some ⟨ab, 0, none⟩) (some ⟨fb, 0, none⟩) ⟨(K : Int), m, z, s, t, o⟩ st ep) := fun W b => (LB W b).1
  clear LB LG KF
  unfold aggP at KP
  simp only [cellsP] at KP
  go_enter Tryz.func24, Tryz.ntmps24
  go_upto_region 2 with fail
  rw [← hW1]
  clear hW1 y0 y1 y2 y3 y4 y5
  have s0 := (SE.out W1 (Below.refl _ _)).1
  have BD : Below W1.heap.size W1 W1.drew := (Below.refl _ _).drew
  have sD := (SE.out _ BD).1
  go_region_held3 (fun wx => wx.cell? ⟨w.heap.size + 1, 0, none⟩ = some (.pointer (some ⟨ab, 0, none⟩)) ∧ wx.cell? ⟨w.heap.size + 1, 1, none⟩ = some (.pointer (some ⟨fb, 0, none⟩)) ∧ wx.cell? ⟨w.heap.size + 1, 2, none⟩ = some (.int .i64 (K : Int)) ∧ wx.cell? ⟨w.heap.size + 1, 3, none⟩ = some (.int .i64 m) ∧ wx.cell? ⟨w.heap.size + 1, 4, none⟩ = some (.int .i64 z) ∧ wx.cell? ⟨w.heap.size + 1, 5, none⟩ = some (.int .i64 s) ∧ wx.cell? ⟨w.heap.size + 1, 6, none⟩ = some (.int .i64 t) ∧ wx.cell? ⟨w.heap.size + 1, 7, none⟩ = some (.int .i64 o) ∧ wx.cell? ⟨w.heap.size + 1, 8, none⟩ = some (.int .i64 st) ∧ wx.cell? ⟨w.heap.size + 1, 9, none⟩ = some (.int .i64 ep)) (first | exact s0 | exact sD | exact s1 | exact s2 | exact s3 _ _ | exact s4) (first
    | (go_at_call 50; go_loud (refine (KS _).mono ?_); rintro _ v1 ⟨rfl, c1⟩; have B1 : Below W1.heap.size W1 v1 := BD.stepL c1 BD.size; have s1 := (SE.out _ B1).1)
    | (go_at_call 51; go_loud (refine (KE _).mono ?_); rintro _ v2 ⟨rfl, c2⟩; have B2 : Below W1.heap.size W1 v2 := B1.stepL c2 B1.size; have s2 := (SE.out _ B2).1; have s3 := fun q e => (SE.out (v2.alloc (.cells q e)) (B2.stepL (belL _ _) B2.size)).1; have B3 := fun q e => B2.stepL (belL v2 (.cells q e)) B2.size)
    | (go_at_call 49; go_loud (refine (KF1 _ _ (rdB_lit [b1, b2] rfl rfl rfl (by simp))).mono ?_); rintro _ v4 ⟨rfl, c4⟩; have B4 : Below W1.heap.size W1 v4 := (B3 _ _).stepL c4 (B3 _ _).size; have s4 := (SE.out _ B4).1))
  have F4 := FE.out _ B4
  have HB4 : Hid (Below W1.heap.size W1 v4) := B4
  have K5 := KP _ (HA.out.below F4) (HFd.out.belowF F4)
  obtain ⟨x0, x1, x2, x3, x4, x5, x6, x7, x8, x9⟩ := s4
  clear s0 sD s1 s2 s3 c1 c2 c4 B1 B2 B3 B4 BD KS KE KF1 KP
  go_wp2_with fail
  refine K5.mono ?_
  rintro _ v5 ⟨va, vb, rfl, R5, O5, b5⟩
  have F5 := F4.stepL b5 F4.size
  have S5 := SE.out _ (HB4.out.stepL b5 HB4.out.size)
  have HO5 : Hid (OwnI v5 v4.heap.size 3 vb BB) := O5
  have HR5 : Hid (Rs v5 va RR) := R5.rs
  obtain ⟨oa, oc, rfl⟩ := O5.form
  obtain ⟨aa, ac, rfl, q1, q2, q3, q4⟩ := R5.rs
  obtain ⟨xb, xo, xx, rfl, _, _, _⟩ := q4 0 (by have := hKR.out; omega)
  have g1 : K ≤ ac := by have := hKR.out; omega
  have g2 : (K : Int) ≤ (ac : Int) := by omega
  have K6 := KC _ _ (HR5.out.first hKR.out.1)
  obtain ⟨⟨x0, x1, x2, x3, x4, x5, x6, x7, x8, x9⟩, z0, z1, z2, z3, z4, z5⟩ := S5
  have HF4 : Hid (w.heap.size ≤ v4.heap.size) := F4.size
  clear K5 R5 O5 b5 F4 KC q1 q2 q3 q4
  go_wp2_with fail
  refine K6.mono ?_
  rintro _ v6 ⟨vd, rfl, O6, b6⟩
  have E6 : Hid (v6.ownsRow w.heap.size 5 1 vd FD.length (FD.map Gf.vb) ∧ OwnI v6 w.heap.size 3 (.slice oa BB.length oc) BB ∧ Below w.heap.size w v6) := ⟨ownsRow_base O6 F5.size, ownsRow_base (HO5.out.later b6) HF4.out, F5.stepL b6 F5.size⟩
  obtain ⟨da, dc, rfl⟩ := owns_form O6
  clear K6 O6 b6 F5 x0 x1 x2 x3 x4 x5 x6 x7 x8 x9 z0 z1 z2 z3 z4 z5
  go_wp2
  refine bodyPost_ret (v := .tuple #[.slice da FD.length dc, .slice oa BB.length oc, .int .i64 0]) (by simp [results, Tryz.results24, go_sem]) rfl ?_
  exact ⟨_, _, rfl, E6.out.1, E6.out.2.1, E6.out.2.2⟩
end Go.Proofs.YtddnfhfangfgeaaGreat.Gf
