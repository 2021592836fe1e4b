/- TEXTS JOINED: StCT. -/
import Derived.Below
import Derived.OpenShut
import Derived.Lib.SmallJoins
import Derived.Test.YtddnfhfangfgeaaGreatChecked
import GoSem.Claim
import GoSem.ClaimJoined
import GoSem.ClaimMapViews
import Derived.JoinedTies
import Derived.KernelRfl
import Derived.WalkKit
import Derived.Deep.QuietTactic
import Derived.BigQuiet
import Derived.WalkLawsBesides
import Derived.WalkSpells
import Derived.Laws.CopyOwn
import Derived.Deep.AppendLies
import Derived.Deep.OwnRows
import Derived.Laws.AppendOwnNone
import Derived.Deep.RegionHeld3
import Derived.WalkMore
import Derived.Deep.RegionLaw
import Derived.Deep.RegionWith
import Derived.Deep.CutRange
import Derived.Deep.Slices
import Derived.Maps.OwnSet
import Derived.Maps.Ext
import Derived.Lib.SliceRun
import Derived.Maps.RangeWalk
import Derived.Shelf.SlIterI.Nil
import Derived.Shelf.SortM.Plain
import Derived.Shelf.SortM.SortNone
import Derived.Ground.GgzProg
import Derived.Ground.SlgmProg
import Derived.Laws.BytesArg
import Derived.RangeFuncBox
import Derived.RangeFuncLeaves
import Derived.RangeFuncNested
import Derived.RangeFuncBound
import Derived.RangeFuncCalls
import Derived.Shelf.Abstract
import Derived.Shelf.RegionOpen
import Derived.OwnWalkIn
import Derived.TacticsInMore
import Derived.LoopNIn
import Derived.LoopIn
import Derived.Maps.AppendAt
import Derived.Laws.EntriesVeiled
import Derived.Test.YtddnfhfangfgeaaGreatRows
import Derived.Test.YtddnfhfangfgeaaGreatTome36
import Derived.Test.YtddnfhfangfgeaaGreatTome2
import Derived.Test.YtddnfhfangfgeaaGreatTome31
import Derived.Test.YtddnfhfangfgeaaGreatTome1
import Derived.Test.YtddnfhfangfgeaaGreatTome37
import Derived.Test.YtddnfhfangfgeaaGreatTome10
import Derived.Test.YtddnfhfangfgeaaGreatTome13
import Derived.Test.YtddnfhfangfgeaaGreatTome11
import Derived.Test.YtddnfhfangfgeaaGreatTome34
import Derived.Test.YtddnfhfangfgeaaGreatTome39
import Derived.Test.YtddnfhfangfgeaaGreatTome40
import Derived.Test.YtddnfhfangfgeaaGreatTome35
import Derived.Test.YtddnfhfangfgeaaGreatTome41
namespace Go.Proofs.YtddnfhfangfgeaaGreat.Gf
set_option linter.unusedVariables false
set_option linter.unusedSimpArgs false
open Go.RowKit
/-- a geometry and a stripe's place, laid one behind the other -/
theorem two_laid (w : World) (pa pf : Option Addr) (g : GeoS) (st ep : Int) (e1 e2 : Nat) : ∀ W, Below ((w.alloc (.cells (cellsG g) e1)).alloc (.cells (cellsP pa pf g st ep) e2)).heap.size ((w.alloc (.cells (cellsG g) e1)).alloc (.cells (cellsP pa pf g st ep) e2)) W → SpotAt W (w.heap.size + 1) pa pf g st ep ∧ GeoAt W w.heap.size g ∧ Below w.heap.size w W := fun W hW => by
  have s1 := (spot_laid (w.alloc (.cells (cellsG g) e1)) pa pf g st ep e2 W hW).1
  rw [World.size_alloc] at s1
  have g0 := (geo_laid w g e1 _ (Below.refl _ _)).1
  have g1 := g0.below (w' := W) (by simp) ((belL (w.alloc (.cells (cellsG g) e1)) (.cells (cellsP pa pf g st ep) e2)).trans (hW.mono (by simp)))
  exact ⟨s1, g1, (belL w _).trans (((belL (w.alloc (.cells (cellsG g) e1)) (.cells (cellsP pa pf g st ep) e2)).mono (by simp)).trans (hW.mono (by simp; omega)))⟩
theorem rfX_geo {g : GeoS} {bs : List Bool} (h : ¬ okG g) : rfX g bs = 50 := if_neg h
theorem rfX_bad {g : GeoS} {bs : List Bool} (h : okG g) (hb : false ∈ bs) : rfX g bs = 1 := by unfold rfX; rw [if_pos h, if_pos hb]
theorem rfX_ok {g : GeoS} {bs : List Bool} (h : okG g) (hb : ¬ false ∈ bs) : rfX g bs = 0 := by unfold rfX; rw [if_pos h, if_neg hb]
theorem lenT_wrap {k m z s t o : Int} (h : okG ⟨k, m, z, s, t, o⟩) : IntKind.i64.wrap (k * z) = k * z := by
  obtain ⟨h1, h2, h3, h4, h5, _⟩ := h
  simp only at h1 h2 h3 h4 h5
  have a1 : 0 ≤ k * z := Int.mul_nonneg (by omega) (by omega)
  have a2 : k * z ≤ 32 * 4096 := Int.mul_le_mul (by omega) (by omega) (by omega) (by omega)
  rw [IntKind.wrap_i64]
  omega
/-- what is told of numbers alone -/
theorem rf_two {g : GeoS} {st ep : Int} : rfX g [decide (0 ≤ st ∧ st < g.s), decide (0 ≤ ep ∧ ep ≤ 2147483647)] = ckT g st ep := by
  by_cases h : okG g
  · by_cases hT : OkT g st ep
    · rw [ckT_ok hT, rfX_ok h]
      rw [decide_eq_true ⟨hT.2.1, hT.2.2.1⟩, decide_eq_true ⟨hT.2.2.2.1, hT.2.2.2.2⟩]
      simp
    · rw [ckT_arg h hT, rfX_bad h]
      by_cases h1 : 0 ≤ st ∧ st < g.s
      · rw [decide_eq_false (p := 0 ≤ ep ∧ ep ≤ 2147483647) (fun q => hT ⟨h, h1.1, h1.2, q.1, q.2⟩)]
        simp
      · rw [decide_eq_false h1]
        simp
  · rw [ckT_geo h, rfX_geo h]
set_option maxRecDepth 100000 in
set_option maxHeartbeats 4000000 in
theorem swrite_any {w : World} {ab fb : Nat} {GA : Nat → Prop} {a : ArS} (h : ArAt w ab GA a) (hF : FieldAt w fb) {g : GeoS} (hg : g.Wf) {st ep : Int} (hst : (Lit.int .i64 st).wf = true) {v : Value} {D : List UInt8} (hp : Rd w v D) (hz : okG g → g.z ≤ 300) :
    Calls Tryz.prog 18 #[.pointer (some ⟨ab, 0, none⟩), .pointer (some ⟨fb, 0, none⟩), aggG g, .int .i64 st, .int .i64 ep, v] w (LeavesA w ab GA (swS a g st ep D) (.int .i64 (swX a g st ep D))) := by
  obtain ⟨b1, hb1⟩ : ∃ b, Hid (decide (0 ≤ st ∧ st < g.s) = b) := ⟨_, rfl⟩
  obtain ⟨b2, hb2⟩ : ∃ b, Hid (decide (0 ≤ ep ∧ ep ≤ 2147483647) = b) := ⟨_, rfl⟩
  have KS := fun W => @piss_any W (some ⟨ab, 0, none⟩) (some ⟨fb, 0, none⟩) g st ep b1 hb1.out
  have KE := fun W => @pise_any W (some ⟨ab, 0, none⟩) (some ⟨fb, 0, none⟩) g st ep b2 hb2.out
  have KF := fun W (vv : Value) (bs : List Bool) (hr : RdB W vv bs) (hl : bs.length ≤ 1000) => @pref_any W g st ep ab fb hg vv bs hr hl _ rfl
  obtain ⟨c, hc⟩ : ∃ c, IntKind.i64.wrap (g.k * g.z) = c := ⟨_, rfl⟩
  obtain ⟨b3, hb3⟩ : ∃ b, ((D.length : Int) == c) = b := ⟨_, rfl⟩
  obtain ⟨x, hx⟩ : ∃ x, Hid (rfX g [b1, b2, b3] = x) := ⟨_, rfl⟩
  obtain ⟨k, m, z, s, t, o⟩ := g
  simp only at hc
  have LB := two_laid w (some ⟨ab, 0, none⟩) (some ⟨fb, 0, none⟩) ⟨k, m, z, s, t, o⟩ st ep 24 103
  rw [show aggG ⟨k, m, z, s, t, o⟩ = .agg #[.int .i64 k, .int .i64 m, .int .i64 z, .int .i64 s, .int .i64 t, .int .i64 o] from rfl]
  unfold aggP at KS KE KF
  simp only [cellsP, cellsG] at KS KE KF LB
  obtain ⟨va, vc, rfl⟩ := hp.form
  obtain ⟨dn, hdn⟩ : ∃ dn, Hid (dn = D.length) := ⟨_, rfl⟩
  rw [← hdn.out] at hb3 ⊢
  have LG := geo_laid w ⟨k, m, z, s, t, o⟩ 24
  obtain ⟨⟨y0, y1, y2, y3, y4, y5⟩, _⟩ := LG _ (Below.refl _ _)
  simp only [cellsG] at y0 y1 y2 y3 y4 y5
  obtain ⟨W1, hW1⟩ : ∃ W1, W1 = ((w.alloc (.cells #[.int .i64 k, .int .i64 m, .int .i64 z, .int .i64 s, .int .i64 t, .int .i64 o] 24)).alloc (.cells #[.pointer (some ⟨ab, 0, none⟩), .pointer (some ⟨fb, 0, none⟩), .int .i64 k, .int .i64 m, .int .i64 z, .int .i64 s, .int .i64 t, .int .i64 o, .int .i64 st, .int .i64 ep] 103)) := ⟨_, rfl⟩
  rw [← hW1] at LB
  have SE : Hid (∀ W, Below W1.heap.size W1 W → (W.cell? ⟨w.heap.size + 1, 0, none⟩ = some (.pointer (some ⟨ab, 0, none⟩)) ∧ W.cell? ⟨w.heap.size + 1, 1, none⟩ = some (.pointer (some ⟨fb, 0, none⟩)) ∧ W.cell? ⟨w.heap.size + 1, 2, none⟩ = some (.int .i64 k) ∧ W.cell? ⟨w.heap.size + 1, 3, none⟩ = some (.int .i64 m) ∧ W.cell? ⟨w.heap.size + 1, 4, none⟩ = some (.int .i64 z) ∧ W.cell? ⟨w.heap.size + 1, 5, none⟩ = some (.int .i64 s) ∧ W.cell? ⟨w.heap.size + 1, 6, none⟩ = some (.int .i64 t) ∧ W.cell? ⟨w.heap.size + 1, 7, none⟩ = some (.int .i64 o) ∧ W.cell? ⟨w.heap.size + 1, 8, none⟩ = some (.int .i64 st) ∧ W.cell? ⟨w.heap.size + 1, 9, none⟩ = some (.int .i64 ep)) ∧ (W.cell? ⟨w.heap.size, 0, none⟩ = some (.int .i64 k) ∧ W.cell? ⟨w.heap.size, 1, none⟩ = some (.int .i64 m) ∧ W.cell? ⟨w.heap.size, 2, none⟩ = some (.int .i64 z) ∧ W.cell? ⟨w.heap.size, 3, none⟩ = some (.int .i64 s) ∧ W.cell? ⟨w.heap.size, 4, none⟩ = some (.int .i64 t) ∧ W.cell? ⟨w.heap.size, 5, none⟩ = some (.int .i64 o))) := fun W b => ⟨(LB W b).1.all, (LB W b).2.1⟩
  have FE : Hid (∀ W, Below W1.heap.size W1 W → Below w.heap.size w W) := fun W b => (LB W b).2.2
  have LBS : Hid (∀ W, Below W1.heap.size W1 W → SpotAt W (w.heap.size + 1) (some ⟨ab, 0, none⟩) (some ⟨fb, 0, none⟩) ⟨k, m, z, s, t, o⟩ st ep) := fun W b => (LB W b).1
  clear LB LG
  have KF1 : ∀ W vv, RdB W vv [b1, b2, b3] → Calls Tryz.prog 49 #[.agg #[.pointer (some ⟨ab, 0, none⟩), .pointer (some ⟨fb, 0, none⟩), .int .i64 k, .int .i64 m, .int .i64 z, .int .i64 s, .int .i64 t, .int .i64 o, .int .i64 st, .int .i64 ep], vv] W fun e w' => e = .returned (.int .i64 x) ∧ Below W.heap.size W w' := fun W vv hr => by
    have := KF W vv _ hr (by simp)
    rw [hx.out] at this
    exact this
  have HP : Hid (Rd w (.slice va dn vc) D) := by show Rd _ _ _; rw [hdn.out]; exact hp
  clear hp KF
  by_cases hx0 : x = 0
  rotate_left
  · have E9 : Hid (swX a ⟨k, m, z, s, t, o⟩ st ep D = x ∧ swS a ⟨k, m, z, s, t, o⟩ st ep D = a) := by
      have hn : ¬ (OkT ⟨k, m, z, s, t, o⟩ st ep ∧ LenT ⟨k, m, z, s, t, o⟩ D) := fun q => hx0 (by
        rw [← hx.out]
        refine rfX_ok q.1.1 ?_
        have e1 : b1 = true := by rw [← hb1.out]; exact decide_eq_true ⟨q.1.2.1, q.1.2.2.1⟩
        have e2 : b2 = true := by rw [← hb2.out]; exact decide_eq_true ⟨q.1.2.2.2.1, q.1.2.2.2.2⟩
        have e3 : b3 = true := by
          rw [← hb3, hdn.out, ← hc, lenT_wrap q.1.1]
          have := q.2
          unfold LenT at this
          simp only at this
          rw [this]
          simp
        rw [e1, e2, e3]
        simp)
      refine ⟨?_, if_neg hn⟩
      unfold swX
      by_cases hT : OkT ⟨k, m, z, s, t, o⟩ st ep
      · rw [if_pos hT, if_neg (fun q => hn ⟨hT, q⟩), ← hx.out, rfX_bad hT.1]
        have e3 : b3 = false := by
          rw [← hb3, hdn.out, ← hc, lenT_wrap hT.1]
          refine beq_eq_false_iff_ne.2 fun q => hn ⟨hT, ?_⟩
          unfold LenT
          exact q
        rw [e3]
        simp
      · rw [if_neg hT, ← hx.out]
        by_cases ok : okG ⟨k, m, z, s, t, o⟩
        · rw [ckT_arg ok hT, rfX_bad ok]
          by_cases h1 : 0 ≤ st ∧ st < s
          · have e2 : b2 = false := by rw [← hb2.out]; exact decide_eq_false (fun q => hT ⟨ok, h1.1, h1.2, q.1, q.2⟩)
            rw [e2]
            simp
          · have e1 : b1 = false := by rw [← hb1.out]; exact decide_eq_false h1
            rw [e1]
            simp
        · rw [ckT_geo ok, rfX_geo ok]
    go_enter Tryz.func18, Tryz.ntmps18
    go_upto_region 2 with fail
    rw [← hW1]
    clear hW1 y0 y1 y2 y3 y4 y5
    have s0 := (SE.out W1 (Below.refl _ _))
    have BD : Below W1.heap.size W1 W1.drew := (Below.refl _ _).drew
    have sD := (SE.out _ BD)
    go_region_held3 (fun wx => (wx.cell? ⟨w.heap.size + 1, 0, none⟩ = some (.pointer (some ⟨ab, 0, none⟩)) ∧ wx.cell? ⟨w.heap.size + 1, 1, none⟩ = some (.pointer (some ⟨fb, 0, none⟩)) ∧ wx.cell? ⟨w.heap.size + 1, 2, none⟩ = some (.int .i64 k) ∧ wx.cell? ⟨w.heap.size + 1, 3, none⟩ = some (.int .i64 m) ∧ wx.cell? ⟨w.heap.size + 1, 4, none⟩ = some (.int .i64 z) ∧ wx.cell? ⟨w.heap.size + 1, 5, none⟩ = some (.int .i64 s) ∧ wx.cell? ⟨w.heap.size + 1, 6, none⟩ = some (.int .i64 t) ∧ wx.cell? ⟨w.heap.size + 1, 7, none⟩ = some (.int .i64 o) ∧ wx.cell? ⟨w.heap.size + 1, 8, none⟩ = some (.int .i64 st) ∧ wx.cell? ⟨w.heap.size + 1, 9, none⟩ = some (.int .i64 ep)) ∧ (wx.cell? ⟨w.heap.size, 0, none⟩ = some (.int .i64 k) ∧ wx.cell? ⟨w.heap.size, 1, none⟩ = some (.int .i64 m) ∧ wx.cell? ⟨w.heap.size, 2, none⟩ = some (.int .i64 z) ∧ wx.cell? ⟨w.heap.size, 3, none⟩ = some (.int .i64 s) ∧ wx.cell? ⟨w.heap.size, 4, none⟩ = some (.int .i64 t) ∧ wx.cell? ⟨w.heap.size, 5, none⟩ = some (.int .i64 o))) (first | exact s0 | exact sD | exact s1 | exact s2 | exact s3 _ _ | exact s4) (first
      | (go_at_call 50; go_loud (refine (KS _).mono ?_); rintro _ v1 ⟨rfl, c1⟩; have B1 : Below W1.heap.size W1 v1 := BD.stepL c1 BD.size; have s1 := (SE.out _ B1))
      | (go_at_call 51; go_loud (refine (KE _).mono ?_); rintro _ v2 ⟨rfl, c2⟩; have B2 : Below W1.heap.size W1 v2 := B1.stepL c2 B1.size; have s2 := (SE.out _ B2); have s3 := fun q e => (SE.out (v2.alloc (.cells q e)) (B2.stepL (belL _ _) B2.size)); have B3 := fun q e => B2.stepL (belL v2 (.cells q e)) B2.size)
      | (go_at_call 49; go_loud (refine (KF1 _ _ (rdB_lit [b1, b2, b3] rfl rfl rfl (by simp))).mono ?_); rintro _ v4 ⟨rfl, c4⟩; have B4 : Below W1.heap.size W1 v4 := (B3 _ _).stepL c4 (B3 _ _).size; have s4 := (SE.out _ B4)))
    have FB : Hid (Below w.heap.size w v4) := FE.out _ B4
    clear s0 sD s1 s2 s3 s4 c1 c2 c4 B1 B2 B3 B4 BD KS KE KF1
    go_wp2
    go_ret
    exact ⟨by rw [E9.out.1]; rfl, GA, by rw [E9.out.2]; exact h.below FB.out, Grew.of_below FB.out⟩
  have hT : OkT ⟨k, m, z, s, t, o⟩ st ep ∧ LenT ⟨k, m, z, s, t, o⟩ D := by
    have h0 := hx.out
    rw [hx0] at h0
    have ok : okG ⟨k, m, z, s, t, o⟩ := Classical.byContradiction fun q => by rw [rfX_geo q] at h0; cases h0
    have nb : ¬ false ∈ [b1, b2, b3] := fun q => by rw [rfX_bad ok q] at h0; cases h0
    have e1 : b1 = true := by cases b1 with
      | true => rfl
      | false => exact absurd (by simp) nb
    have e2 : b2 = true := by cases b2 with
      | true => rfl
      | false => exact absurd (by simp) nb
    have e3 : b3 = true := by cases b3 with
      | true => rfl
      | false => exact absurd (by simp) nb
    have q1 := of_decide_eq_true (hb1.out.trans e1)
    have q2 := of_decide_eq_true (hb2.out.trans e2)
    refine ⟨⟨ok, q1.1, q1.2, q2.1, q2.2⟩, ?_⟩
    rw [e3, hdn.out, ← hc, lenT_wrap ok] at hb3
    exact eq_of_beq hb3
  subst hx0
  obtain ⟨hT, hD⟩ := hT
  have zz := okG_nat hT.1
  obtain ⟨n, hn⟩ : ∃ n, Hid (n = nT ⟨k, m, z, s, t, o⟩) := ⟨_, rfl⟩
  have n1 : 1 ≤ n ∧ n ≤ 32 := by rw [hn.out]; exact ⟨nT_pos hT.1, zz.2.2.2.2.1⟩
  have KN := fun W => @pcount_any W (some ⟨ab, 0, none⟩) (some ⟨fb, 0, none⟩) ⟨k, m, z, s, t, o⟩ st ep (n : Int) (by rw [← zz.2.2.2.2.2.2.2, ← hn.out, IntKind.wrap_i64]; omega)
  have KU := fun W => @pupto_any W n (by omega)
  have KH := fun W (hf : FieldAt W fb) (hr : Rd W (.slice va dn vc) D) => @pshof_any W (some ⟨ab, 0, none⟩) fb hf ⟨k, m, z, s, t, o⟩ hT.1 (hz hT.1) st ep _ D hr hD
  obtain ⟨SH, hSH⟩ : ∃ SH, Hid (SH = shT ⟨k, m, z, s, t, o⟩ D) := ⟨_, rfl⟩
  rw [← hSH.out] at KH
  have KW := fun W (hA : ArAt W ab GA a) (vs vi : Value) (hl : ToldL W GA vs SH) (hi : ToldI W GA vi (List.range n)) => @pwrite_any W ab GA a hA (some ⟨fb, 0, none⟩) ⟨k, m, z, s, t, o⟩ hg st ep hst hT vs vi SH (List.range n) hl hi (fun i q => by
      have := List.mem_range.1 q
      rw [hSH.out, shT_length, ← hn.out]
      exact ⟨this, this⟩) (fun i q => by
      rw [hSH.out, shT_length] at q
      rw [hSH.out, shT_row hD hT.1 q]
      omega) (by rw [List.length_range]; omega)
  rw [List.length_range] at KW
  have E9 : Hid (swX a ⟨k, m, z, s, t, o⟩ st ep D = wxT a ⟨k, m, z, s, t, o⟩ st ep SH (List.range n) ∧ swS a ⟨k, m, z, s, t, o⟩ st ep D = psT a ⟨k, m, z, s, t, o⟩ st ep SH (List.range n) n) := by
    refine ⟨?_, ?_⟩
    · unfold swX wxT
      rw [if_pos hT, if_pos hD, hSH.out, hn.out]
    · unfold swS
      rw [if_pos ⟨hT, hD⟩, hSH.out, hn.out]
  obtain ⟨wx_, hwx⟩ : ∃ y, Hid (y = wxT a ⟨k, m, z, s, t, o⟩ st ep SH (List.range n)) := ⟨_, rfl⟩
  obtain ⟨wn_, hwn⟩ : ∃ y, Hid (y = wnT a ⟨k, m, z, s, t, o⟩ st ep SH (List.range n)) := ⟨_, rfl⟩
  obtain ⟨ps_, hps⟩ : ∃ y, Hid (y = psT a ⟨k, m, z, s, t, o⟩ st ep SH (List.range n) n) := ⟨_, rfl⟩
  rw [← hwx.out, ← hwn.out, ← hps.out] at KW
  rw [← hwx.out, ← hps.out] at E9
  have HSL : Hid (SH.length = n) := by show _ = _; rw [hSH.out, shT_length, hn.out]
  rw [E9.out.1, E9.out.2]
  clear zz E9 hwx hwn hps hSH hD hT
  unfold aggP at KN KH KW
  simp only [cellsP] at KN KH KW
  have HA : Hid (ArAt w ab GA a) := h
  have HFd : Hid (FieldAt w fb) := hF
  have ST : Hid (∀ W G5 W5, Below W1.heap.size W1 W → Grew GA W G5 W5 → W5.cell? ⟨w.heap.size + 1, 0, none⟩ = some (.pointer (some ⟨ab, 0, none⟩)) ∧ W5.cell? ⟨w.heap.size + 1, 1, none⟩ = some (.pointer (some ⟨fb, 0, none⟩)) ∧ W5.cell? ⟨w.heap.size + 1, 2, none⟩ = some (.int .i64 k) ∧ W5.cell? ⟨w.heap.size + 1, 3, none⟩ = some (.int .i64 m) ∧ W5.cell? ⟨w.heap.size + 1, 4, none⟩ = some (.int .i64 z) ∧ W5.cell? ⟨w.heap.size + 1, 5, none⟩ = some (.int .i64 s) ∧ W5.cell? ⟨w.heap.size + 1, 6, none⟩ = some (.int .i64 t) ∧ W5.cell? ⟨w.heap.size + 1, 7, none⟩ = some (.int .i64 o) ∧ W5.cell? ⟨w.heap.size + 1, 8, none⟩ = some (.int .i64 st) ∧ W5.cell? ⟨w.heap.size + 1, 9, none⟩ = some (.int .i64 ep)) := fun W G5 W5 b gg => ((LBS.out W b).turn (fun q => by have := h.lt _ q; omega) gg.turn).all
  clear h hF
  go_enter Tryz.func18, Tryz.ntmps18
  go_upto_region 2 with fail
  rw [← hW1]
  clear hW1 y0 y1 y2 y3 y4 y5
  have s0 := (SE.out W1 (Below.refl _ _))
  have BD : Below W1.heap.size W1 W1.drew := (Below.refl _ _).drew
  have sD := (SE.out _ BD)
  go_region_held3 (fun wx => (wx.cell? ⟨w.heap.size + 1, 0, none⟩ = some (.pointer (some ⟨ab, 0, none⟩)) ∧ wx.cell? ⟨w.heap.size + 1, 1, none⟩ = some (.pointer (some ⟨fb, 0, none⟩)) ∧ wx.cell? ⟨w.heap.size + 1, 2, none⟩ = some (.int .i64 k) ∧ wx.cell? ⟨w.heap.size + 1, 3, none⟩ = some (.int .i64 m) ∧ wx.cell? ⟨w.heap.size + 1, 4, none⟩ = some (.int .i64 z) ∧ wx.cell? ⟨w.heap.size + 1, 5, none⟩ = some (.int .i64 s) ∧ wx.cell? ⟨w.heap.size + 1, 6, none⟩ = some (.int .i64 t) ∧ wx.cell? ⟨w.heap.size + 1, 7, none⟩ = some (.int .i64 o) ∧ wx.cell? ⟨w.heap.size + 1, 8, none⟩ = some (.int .i64 st) ∧ wx.cell? ⟨w.heap.size + 1, 9, none⟩ = some (.int .i64 ep)) ∧ (wx.cell? ⟨w.heap.size, 0, none⟩ = some (.int .i64 k) ∧ wx.cell? ⟨w.heap.size, 1, none⟩ = some (.int .i64 m) ∧ wx.cell? ⟨w.heap.size, 2, none⟩ = some (.int .i64 z) ∧ wx.cell? ⟨w.heap.size, 3, none⟩ = some (.int .i64 s) ∧ wx.cell? ⟨w.heap.size, 4, none⟩ = some (.int .i64 t) ∧ wx.cell? ⟨w.heap.size, 5, none⟩ = some (.int .i64 o))) (first | exact s0 | exact sD | exact s1 | exact s2 | exact s3 _ _ | exact s4) (first
    | (go_at_call 50; go_loud (refine (KS _).mono ?_); rintro _ v1 ⟨rfl, c1⟩; have B1 : Below W1.heap.size W1 v1 := BD.stepL c1 BD.size; have s1 := (SE.out _ B1))
    | (go_at_call 51; go_loud (refine (KE _).mono ?_); rintro _ v2 ⟨rfl, c2⟩; have B2 : Below W1.heap.size W1 v2 := B1.stepL c2 B1.size; have s2 := (SE.out _ B2); have s3 := fun q e => (SE.out (v2.alloc (.cells q e)) (B2.stepL (belL _ _) B2.size)); have B3 := fun q e => B2.stepL (belL v2 (.cells q e)) B2.size)
    | (go_at_call 49; go_loud (refine (KF1 _ _ (rdB_lit [b1, b2, b3] rfl rfl rfl (by simp))).mono ?_); rintro _ v4 ⟨rfl, c4⟩; have B4 : Below W1.heap.size W1 v4 := (B3 _ _).stepL c4 (B3 _ _).size; have s4 := (SE.out _ B4)))
  have SE4 : Hid (∀ W, Below W1.heap.size W1 W → W.cell? ⟨w.heap.size + 1, 0, none⟩ = some (.pointer (some ⟨ab, 0, none⟩)) ∧ W.cell? ⟨w.heap.size + 1, 1, none⟩ = some (.pointer (some ⟨fb, 0, none⟩)) ∧ W.cell? ⟨w.heap.size + 1, 2, none⟩ = some (.int .i64 k) ∧ W.cell? ⟨w.heap.size + 1, 3, none⟩ = some (.int .i64 m) ∧ W.cell? ⟨w.heap.size + 1, 4, none⟩ = some (.int .i64 z) ∧ W.cell? ⟨w.heap.size + 1, 5, none⟩ = some (.int .i64 s) ∧ W.cell? ⟨w.heap.size + 1, 6, none⟩ = some (.int .i64 t) ∧ W.cell? ⟨w.heap.size + 1, 7, none⟩ = some (.int .i64 o) ∧ W.cell? ⟨w.heap.size + 1, 8, none⟩ = some (.int .i64 st) ∧ W.cell? ⟨w.heap.size + 1, 9, none⟩ = some (.int .i64 ep)) := fun W b => (SE.out W b).1
  have E4 : Hid (Below W1.heap.size W1 v4) := B4
  clear s0 sD s1 s2 s3 s4 c1 c2 c4 B1 B2 B3 B4 BD KS KE KF1 SE
  go_wp2_with fail
  have t0 := SE4.out _ E4.out
  have BD : Below W1.heap.size W1 v4.drew := E4.out.drew
  have tD := SE4.out _ BD
  go_region_held3 (fun wx => wx.cell? ⟨w.heap.size + 1, 0, none⟩ = some (.pointer (some ⟨ab, 0, none⟩)) ∧ wx.cell? ⟨w.heap.size + 1, 1, none⟩ = some (.pointer (some ⟨fb, 0, none⟩)) ∧ wx.cell? ⟨w.heap.size + 1, 2, none⟩ = some (.int .i64 k) ∧ wx.cell? ⟨w.heap.size + 1, 3, none⟩ = some (.int .i64 m) ∧ wx.cell? ⟨w.heap.size + 1, 4, none⟩ = some (.int .i64 z) ∧ wx.cell? ⟨w.heap.size + 1, 5, none⟩ = some (.int .i64 s) ∧ wx.cell? ⟨w.heap.size + 1, 6, none⟩ = some (.int .i64 t) ∧ wx.cell? ⟨w.heap.size + 1, 7, none⟩ = some (.int .i64 o) ∧ wx.cell? ⟨w.heap.size + 1, 8, none⟩ = some (.int .i64 st) ∧ wx.cell? ⟨w.heap.size + 1, 9, none⟩ = some (.int .i64 ep)) (first | exact t0 | exact tD | exact t5 | exact t6 | exact t7 | exact t8) (first
    | (go_at_call 53; go_loud (refine (KH _ (HFd.out.belowF (FE.out _ BD)) (HP.out.below (FE.out _ BD))).mono ?_); rintro _ v5 ⟨vs, rfl, R5, c5⟩; have B5 : Below W1.heap.size W1 v5 := BD.stepL c5 BD.size; have t5 := SE4.out _ B5; obtain ⟨sa, sc, rfl⟩ := R5.form)
    | (go_at_call 55; go_loud (refine (KN _).mono ?_); rintro _ v6 ⟨rfl, c6⟩; have B6 : Below W1.heap.size W1 v6 := B5.stepL c6 B5.size; have t6 := SE4.out _ B6)
    | (go_at_call 54; go_loud (refine (KU _).mono ?_); rintro _ v7 ⟨gi, rfl, R7, l7, c7⟩; have B7 : Below W1.heap.size W1 v7 := B6.stepL c7 B6.size; have t7 := SE4.out _ B7; go_loud (have TI : ToldI v7 GA (.slice (some ⟨gi, 0, none⟩) n n) (List.range n) := ToldI.of_row R7 (by rw [List.length_range]) (fun i q => by rw [List.length_range] at q; simp [List.getD, q]) (fun q => by have := HA.out.lt _ q; have := (FE.out _ B6).size; omega)); go_loud (have TL : ToldL v7 GA _ SH := (ToldL.far R5 (fun q hq => Nat.lt_of_lt_of_le (HA.out.lt q hq) (FE.out _ BD).size)).below ((Below.refl _ _).stepL (c6.stepL c7 c6.size) (Nat.le_refl _))))
    | (go_at_call 52; go_loud (refine (KW _ (HA.out.below (FE.out _ B7)) _ _ TL TI).mono ?_); rintro _ v8 ⟨rfl, G8, A8, g8⟩; have t8 := ST.out _ _ _ B7 g8))
  have FIN : Hid (∃ GA', ArAt v8 ab GA' ps_ ∧ Grew GA w GA' v8) := ⟨G8, A8, (Grew.of_below (FE.out _ B7)).trans g8⟩
  clear t0 tD t5 t6 t7 t8 c5 c6 c7 B5 B6 B7 R5 R7 TI TL A8 g8 BD KH KN KU KW
  go_wp2
  go_ret
  exact ⟨rfl, FIN.out⟩
end Go.Proofs.YtddnfhfangfgeaaGreat.Gf
