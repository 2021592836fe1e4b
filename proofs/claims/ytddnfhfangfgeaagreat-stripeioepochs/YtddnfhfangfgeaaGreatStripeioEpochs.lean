/- PROVED: for every geometry g, all numbers stripe, e, h and other and all slices x and y of bytes the call StripeioEpochs(g, stripe, x, y, e, h, other) returns true, and its arguments read behind it as before; no conditions. -/
import Derived.Test.YtddnfhfangfgeaaGreatChecked
import GoSem.Claim
import GoSem.ClaimJoined
import GoSem.ClaimMapViews
import Derived.JoinedTies
import Derived.KernelRfl
import Derived.Below
import Derived.OpenShut
import Derived.Lib.SmallJoins
import Derived.WalkKit
import Derived.Deep.QuietTactic
import Derived.BigQuiet
import Derived.WalkLawsBesides
import Derived.WalkSpells
import Derived.Laws.CopyOwn
import Derived.Deep.AppendLies
import Derived.Deep.OwnRows
import Derived.Laws.AppendOwnNone
import Derived.Deep.RegionHeld3
import Derived.WalkMore
import Derived.Deep.RegionLaw
import Derived.Deep.RegionWith
import Derived.Deep.CutRange
import Derived.Deep.Slices
import Derived.Maps.OwnSet
import Derived.Maps.Ext
import Derived.Lib.SliceRun
import Derived.Maps.RangeWalk
import Derived.Shelf.SlIterI.Nil
import Derived.Shelf.SortM.Plain
import Derived.Shelf.SortM.SortNone
import Derived.Ground.GgzProg
import Derived.Ground.SlgmProg
import Derived.Laws.BytesArg
import Derived.RangeFuncBox
import Derived.RangeFuncLeaves
import Derived.RangeFuncNested
import Derived.RangeFuncBound
import Derived.RangeFuncCalls
import Derived.Shelf.Abstract
import Derived.Shelf.RegionOpen
import Derived.OwnWalkIn
import Derived.TacticsInMore
import Derived.LoopNIn
import Derived.LoopIn
import Derived.Maps.AppendAt
import Derived.Laws.EntriesVeiled
import Derived.ProofKit
import Derived.ShutString
import Derived.ChangeOld
import Derived.Test.YtddnfhfangfgeaaGreatRows
import Derived.Test.YtddnfhfangfgeaaGreatTome36
import Derived.Test.YtddnfhfangfgeaaGreatTome1
import Derived.Test.YtddnfhfangfgeaaGreatTome2
import Derived.Test.YtddnfhfangfgeaaGreatTome31
import Derived.Test.YtddnfhfangfgeaaGreatTome37
import Derived.Test.YtddnfhfangfgeaaGreatTome3
import Derived.Test.YtddnfhfangfgeaaGreatTome13
import Derived.Test.YtddnfhfangfgeaaGreatTome34
import Derived.Test.YtddnfhfangfgeaaGreatTome38
import Derived.Test.YtddnfhfangfgeaaGreatTome39
import Derived.Test.YtddnfhfangfgeaaGreatTome33
import Derived.Test.YtddnfhfangfgeaaGreatTome35
import Derived.Test.YtddnfhfangfgeaaGreatTome46
import Derived.Test.YtddnfhfangfgeaaGreatTome47
namespace Go.Proofs.YtddnfhfangfgeaaGreat.stripeioEpochs
open Go.ChangeShapes Go.WideShapes Go.ChangeAt Go.RowKit
open Go.ChangeMaps (open_string shut_string)
set_option linter.unusedVariables false

theorem own : ownKnob Tryz.prog.godebug = none := by kernel_rfl
theorem laidOut : laidOutB Tryz.prog = true := by kernel_rfl

/-- WHAT THE WALK IS TOLD OF A SLICE OF INTEGERS THAT CAME IN: it is nil; or it leads to a row of 'cap' cells, the numbers 'zs' (the first 'len' are its elements, the rest its spare room), each fitting its kind. -/
def IsRow (k : IntKind) (w : World) (a : Option Addr) (len cap : Nat) (zs : List Int) : Prop :=
  (a = none ∧ len = 0 ∧ cap = 0 ∧ zs = []) ∨
  ∃ x, a = some x ∧ len ≤ cap ∧ cap ≤ maxLen ∧ zs.length = cap ∧ (∀ i, i < zs.length → w.cell? (x.add i) = some (.int k (zs.getD i 0))) ∧ ∀ n ∈ zs, (Lit.int k n).wf = true

open Gf
set_option linter.unusedSimpArgs false
set_option maxRecDepth 100000 in
set_option maxHeartbeats 4000000 in
theorem walk (c0 : GeoS) (a1 : Int) (a2 : Option Addr) (len2 cap2 : Nat) (z2 : List Int) (a3 : Option Addr) (len3 cap3 : Nat) (z3 : List Int) (a4 : Int) (a5 : Int) (a6 : Int) (w : World) (w0 : c0.Wf) (w1 : (Lit.int .i64 a1).wf = true) (w2 : IsRow .u8 w a2 len2 cap2 z2) (w3 : IsRow .u8 w a3 len3 cap3 z3) (w4 : (Lit.int .i64 a4).wf = true) (w5 : (Lit.int .i64 a5).wf = true) (w6 : (Lit.int .i64 a6).wf = true) :
    Calls Tryz.prog 8 #[aggG c0, .int .i64 a1, .slice a2 len2 cap2, .slice a3 len3 cap3, .int .i64 a4, .int .i64 a5, .int .i64 a6] w fun e w' => e = .returned (.bool true) ∧ Below w.heap.size w w' := by
  obtain ⟨X, rfl, RX⟩ := rd_row w2
  obtain ⟨Y, rfl, RY⟩ := rd_row w3
  have HX : Hid (Rd w (.slice a2 X.length cap2) X) := RX
  have HY : Hid (Rd w (.slice a3 Y.length cap3) Y) := RY
  clear RX RY w2 w3
  have KSm := fun W => @small15_any W c0 w0 _ rfl
  have KC := fun W => @lcheck_any W c0 w0 _ rfl
  have EQAG : ∀ k m z s t o : Int, aggG ⟨k, m, z, s, t, o⟩ = .agg #[.int .i64 k, .int .i64 m, .int .i64 z, .int .i64 s, .int .i64 t, .int .i64 o] := fun _ _ _ _ _ _ => rfl
  by_cases hsm : smG c0
  rotate_left
  · rw [decide_eq_false hsm] at KSm
    clear hsm
    obtain ⟨k, m, z, s, t, o⟩ := c0
    have LB := geo_laid w ⟨k, m, z, s, t, o⟩ 24
    rw [EQAG] at KSm KC ⊢
    go_enter Tryz.func8, Tryz.ntmps8
    go_wp2_with fail
    obtain ⟨W0, hW0⟩ : ∃ W0, W0 = w.alloc (.cells (cellsG ⟨k, m, z, s, t, o⟩) 24) := ⟨_, rfl⟩
    rw [← hW0] at LB
    refine awake15_any.mono ?_
    rintro e v0 ⟨rfl, b0⟩
    have B0 : Below W0.heap.size W0 v0 := by rw [hW0]; exact b0
    clear hW0 b0
    go_wp2_with fail
    refine (new_any _).mono ?_
    rintro _ v1 ⟨rfl, F, O1⟩
    have B1 := B0.stepL O1.below B0.size
    obtain ⟨fb, hfb⟩ : ∃ fb, Hid (fb = v0.heap.size) := ⟨_, rfl⟩
    rw [← hfb.out] at F ⊢
    clear O1 B0
    obtain ⟨⟨x0, x1, x2, x3, x4, x5⟩, F1⟩ := LB _ B1
    simp only at x0 x1 x2 x3 x4 x5
    go_wp2_with fail
    refine (KSm _).mono ?_
    rintro _ v2 ⟨rfl, c2⟩
    have B2 := B1.stepL c2 B1.size
    have FF := F.belowF c2
    clear c2 B1 F F1 KSm x0 x1 x2 x3 x4 x5
    obtain ⟨⟨x0, x1, x2, x3, x4, x5⟩, F2⟩ := LB _ B2
    simp only at x0 x1 x2 x3 x4 x5
    clear B2 LB
    go_wp2
    go_ret
    exact ⟨rfl, F2⟩
  rw [decide_eq_true hsm] at KSm
  by_cases hok : okG c0
  rotate_left
  · rw [show chG c0 = 50 from if_neg hok] at KC
    clear hsm hok
    obtain ⟨k, m, z, s, t, o⟩ := c0
    have LB := geo_laid w ⟨k, m, z, s, t, o⟩ 24
    rw [EQAG] at KSm KC ⊢
    go_enter Tryz.func8, Tryz.ntmps8
    go_wp2_with fail
    obtain ⟨W0, hW0⟩ : ∃ W0, W0 = w.alloc (.cells (cellsG ⟨k, m, z, s, t, o⟩) 24) := ⟨_, rfl⟩
    rw [← hW0] at LB
    refine awake15_any.mono ?_
    rintro e v0 ⟨rfl, b0⟩
    have B0 : Below W0.heap.size W0 v0 := by rw [hW0]; exact b0
    clear hW0 b0
    go_wp2_with fail
    refine (new_any _).mono ?_
    rintro _ v1 ⟨rfl, F, O1⟩
    have B1 := B0.stepL O1.below B0.size
    obtain ⟨fb, hfb⟩ : ∃ fb, Hid (fb = v0.heap.size) := ⟨_, rfl⟩
    rw [← hfb.out] at F ⊢
    clear O1 B0
    obtain ⟨⟨x0, x1, x2, x3, x4, x5⟩, F1⟩ := LB _ B1
    simp only at x0 x1 x2 x3 x4 x5
    go_wp2_with fail
    refine (KSm _).mono ?_
    rintro _ v2 ⟨rfl, c2⟩
    have B2 := B1.stepL c2 B1.size
    have FF := F.belowF c2
    clear c2 B1 F F1 KSm x0 x1 x2 x3 x4 x5
    obtain ⟨⟨x0, x1, x2, x3, x4, x5⟩, F2⟩ := LB _ B2
    simp only at x0 x1 x2 x3 x4 x5
    go_wp2_with fail
    refine (KC _).mono ?_
    rintro _ v3 ⟨rfl, c3⟩
    have FB : Hid (Below w.heap.size w v3) := F2.stepL c3 F2.size
    clear c3 B2 F2 LB KC x0 x1 x2 x3 x4 x5
    go_wp2
    go_ret
    exact ⟨rfl, FB.out⟩
  rw [show chG c0 = 0 from if_pos hok] at KC
  have zz := okG_nat hok
  have sec := sec_in hok
  obtain ⟨n, hn⟩ : ∃ n, Hid (n = nT c0) := ⟨_, rfl⟩
  obtain ⟨sc, hsc⟩ : ∃ sc, Hid (sc = secG c0) := ⟨_, rfl⟩
  rw [← hsc.out] at sec
  have n1 : 1 ≤ n ∧ n ≤ 32 := by rw [hn.out]; exact ⟨nT_pos hok, zz.2.2.2.2.1⟩
  have KZ := fun W => @lsec_any W c0 w0 _ hsc.out.symm
  have KN := fun W => @anew_is W (n : Int) sc n rfl n1.1 n1.2 sec.2.1 sec.2.2 sc.toNat rfl
  have ekm : c0.k + c0.m = (n : Int) := by rw [hn.out]; exact zz.2.2.2.2.2.2.2.symm
  obtain ⟨A0, hA0⟩ : ∃ A0, Hid (A0 = newA n sc.toNat) := ⟨_, rfl⟩
  have HWr : Hid (∀ st, 0 ≤ st → st < c0.s → ∀ i, i < nT c0 → WrT A0 c0 st i) := fun st h1 h2 i hi => by
    rw [hA0.out, hn.out, hsc.out]
    exact new_all hok h1 h2 i hi
  have HCalm : Hid (Gf.Calm A0) := by rw [hA0.out]; exact calm_new _ _
  have hz := smG_z hsm
  have KN' : ∀ W, Calls Tryz.prog 12 #[.int .i64 (n : Int), .int .i64 sc] W fun e w' => ∃ ab GA, e = .returned (.tuple #[.pointer (some ⟨ab, 0, none⟩), .int .i64 0]) ∧ ArAt w' ab GA A0 ∧ (∀ k, GA k → W.heap.size ≤ k) ∧ Below W.heap.size W w' := fun W => by rw [hA0.out]; exact KN W
  obtain ⟨X1, hX1⟩ : ∃ x, Hid (swX A0 c0 a1 a4 X = x) := ⟨_, rfl⟩
  obtain ⟨A1, hA1⟩ : ∃ x, Hid (swS A0 c0 a1 a4 X = x) := ⟨_, rfl⟩
  obtain ⟨X2, hX2⟩ : ∃ x, Hid (swX A1 c0 a1 a5 Y = x) := ⟨_, rfl⟩
  obtain ⟨A2, hA2⟩ : ∃ x, Hid (swS A1 c0 a1 a5 Y = x) := ⟨_, rfl⟩
  have KW1 := fun {W : World} {ab fb : Nat} {GA : Nat → Prop} {N : Nat} (h : StB W N ab fb GA A0) (hp : Rd W (.slice a2 X.length cap2) X) => swrite_is h w0 w1 hp hz hX1.out hA1.out
  have KW2 := fun {W : World} {ab fb : Nat} {GA : Nat → Prop} {N : Nat} (h : StB W N ab fb GA A1) (hp : Rd W (.slice a3 Y.length cap3) Y) => swrite_is h w0 w1 hp hz hX2.out hA2.out
  have W1h : Hid (X1 = 0 → OkT c0 a1 a4 ∧ LenT c0 X ∧ WholeT A1 c0 a1 a4 X) := fun e => by
    obtain ⟨hT, hD⟩ := sw_ok (hX1.out.trans e)
    have := (whole_write hT hD HCalm.out (HWr.out a1 hT.2.1 hT.2.2.1)).2.1
    rw [hA1.out] at this
    exact ⟨hT, hD, this⟩
  have W2h : Hid (X1 = 0 → X2 = 0 → OkT c0 a1 a5 ∧ LenT c0 Y ∧ WholeT A2 c0 a1 a5 Y) := fun e1 e2 => by
    obtain ⟨_, _, h1⟩ := W1h.out e1
    obtain ⟨hT, hD⟩ := sw_ok (hX2.out.trans e2)
    have := (whole_write hT hD h1.calm h1.wr).2.1
    rw [hA2.out] at this
    exact ⟨hT, hD, this⟩
  have R1h : Hid (X1 = 0 → X2 = 0 → rtX A2 c0 a1 a5 = 0 ∧ rtD A2 c0 a1 a5 = Y ∧ rtB A2 c0 a1 a5 = []) := fun e1 e2 => by
    obtain ⟨hT, hD, h⟩ := W2h.out e1 e2
    exact whole_read hT hD h
  have R2h : Hid (X1 = 0 → X2 = 0 → a6 ≠ a5 → rtX A2 c0 a1 a6 = 150 ∨ rtX A2 c0 a1 a6 = 1) := fun e1 e2 hne => by
    obtain ⟨hT, hD, h⟩ := W2h.out e1 e2
    exact whole_other hT hD h hne
  have KR1 := fun {W : World} {ab fb : Nat} {GA : Nat → Prop} {N : Nat} (h : StB W N ab fb GA A2) (e1 : X1 = 0) (e2 : X2 = 0) => sread_is h w0 w1 hz (R1h.out e1 e2).1 (R1h.out e1 e2).2.1 (R1h.out e1 e2).2.2
  obtain ⟨J, hJ⟩ : ∃ J, Hid (rtX A2 c0 a1 a6 = J) := ⟨_, rfl⟩
  have KR2 := fun {W : World} {ab fb : Nat} {GA : Nat → Prop} {N : Nat} (h : StB W N ab fb GA A2) => @sread_is W N ab fb GA A2 c0 a1 a6 h w0 w1 hz J hJ.out _ rfl _ rfl
  have J0 : Hid (X1 = 0 → X2 = 0 → a6 = a5 → J = 0) := fun e1 e2 e => by rw [← hJ.out, e]; exact (R1h.out e1 e2).1
  have J1 : Hid (X1 = 0 → X2 = 0 → a6 ≠ a5 → J = 150 ∨ J = 1) := fun e1 e2 e => by rw [← hJ.out]; exact R2h.out e1 e2 e
  obtain ⟨DJ, hDJ⟩ : ∃ x, Hid (rtD A2 c0 a1 a6 = x) := ⟨_, rfl⟩
  obtain ⟨BJ, hBJ⟩ : ∃ x, Hid (rtB A2 c0 a1 a6 = x) := ⟨_, rfl⟩
  rw [hDJ.out, hBJ.out] at KR2
  clear zz sec hA0 HWr HCalm hX1 hA1 hX2 hA2 W1h W2h R1h R2h hJ hsm hok hn hsc hz hDJ hBJ
  have ex : Hid True := trivial
  obtain ⟨k, m, z, s, t, o⟩ := c0
  have LB := geo_laid w ⟨k, m, z, s, t, o⟩ 24
  rw [EQAG] at KSm KC KZ KW1 KW2 KR1 KR2 ⊢
  have gk : IntKind.i64.wrap (k + m) = (n : Int) := by simp only at ekm; rw [ekm, IntKind.wrap_i64]; omega
  have gn : IntKind.i64.wrap (n : Int) = (n : Int) := by rw [IntKind.wrap_i64]; omega
  clear ekm
  go_enter Tryz.func8, Tryz.ntmps8
  go_wp2_with fail
  obtain ⟨W0, hW0⟩ : ∃ W0, W0 = w.alloc (.cells (cellsG ⟨k, m, z, s, t, o⟩) 24) := ⟨_, rfl⟩
  rw [← hW0] at LB
  refine awake15_any.mono ?_
  rintro e v0 ⟨rfl, b0⟩
  have B0 : Below W0.heap.size W0 v0 := by rw [hW0]; exact b0
  clear hW0 b0
  go_wp2_with fail
  refine (new_any _).mono ?_
  rintro _ v1 ⟨rfl, F, O1⟩
  have B1 := B0.stepL O1.below B0.size
  obtain ⟨fb, hfb⟩ : ∃ fb, Hid (fb = v0.heap.size) := ⟨_, rfl⟩
  rw [← hfb.out] at F ⊢
  clear O1 B0
  obtain ⟨⟨x0, x1, x2, x3, x4, x5⟩, F1⟩ := LB _ B1
  simp only at x0 x1 x2 x3 x4 x5
  go_wp2_with fail
  refine (KSm _).mono ?_
  rintro _ v2 ⟨rfl, c2⟩
  have B2 := B1.stepL c2 B1.size
  have FF := F.belowF c2
  clear c2 B1 F F1 KSm x0 x1 x2 x3 x4 x5
  obtain ⟨⟨x0, x1, x2, x3, x4, x5⟩, F2⟩ := LB _ B2
  simp only at x0 x1 x2 x3 x4 x5
  go_wp2_with fail
  refine (KC _).mono ?_
  rintro _ v3 ⟨rfl, c3⟩
  have B3 := B2.stepL c3 B2.size
  have F3' := FF.belowF c3
  clear c3 B2 F2 FF KC x0 x1 x2 x3 x4 x5
  have s0 := (LB _ B3).1
  have BD : Below W0.heap.size W0 v3.drew := B3.drew
  have sD := (LB _ BD).1
  obtain ⟨⟨x0, x1, x2, x3, x4, x5⟩, F3⟩ := LB _ B3
  simp only at x0 x1 x2 x3 x4 x5
  go_wp2_with fail
  go_region_held3 (fun wx => wx.cell? ⟨w.heap.size, 0, none⟩ = some (.int .i64 k) ∧ wx.cell? ⟨w.heap.size, 1, none⟩ = some (.int .i64 m) ∧ wx.cell? ⟨w.heap.size, 2, none⟩ = some (.int .i64 z) ∧ wx.cell? ⟨w.heap.size, 3, none⟩ = some (.int .i64 s) ∧ wx.cell? ⟨w.heap.size, 4, none⟩ = some (.int .i64 t) ∧ wx.cell? ⟨w.heap.size, 5, none⟩ = some (.int .i64 o)) (first | exact s0 | exact sD | exact s4 | exact s5) (first
    | (go_at_call 17; go_loud (refine (KZ _).mono ?_); rintro _ v4 ⟨rfl, c4⟩; have B4 := BD.stepL c4 BD.size; have s4 := (LB _ B4).1)
    | (go_at_call 12; go_loud (refine (KN' _).mono ?_); rintro _ v5 ⟨ab, G5, rfl, A5, H5, c5⟩; have B5 := B4.stepL c5 B4.size; have s5 := (LB _ B5).1))
  have S5 : StB v5 W0.heap.size ab fb G5 A0 := ⟨⟨A5, fun q hq => Nat.le_trans B4.size (H5 q hq), B5.size⟩, (F3'.belowF (((Below.refl _ _).drew).stepL c4 (Nat.le_refl _))).belowF c5, fun q => by have := H5 _ q; have := (F3'.belowF (((Below.refl _ _).drew).stepL c4 (Nat.le_refl _))).lt; omega⟩
  clear s0 sD s4 s5 c4 c5 BD B3 F3 B4 A5 H5 F3' KZ KN KN' x0 x1 x2 x3 x4 x5
  obtain ⟨⟨x0, x1, x2, x3, x4, x5⟩, F5⟩ := LB _ B5
  simp only at x0 x1 x2 x3 x4 x5
  have K6 := KW1 S5 (HX.out.below F5)
  go_wp2_with fail
  refine K6.mono ?_
  rintro _ v6 ⟨rfl, G6, A6, g6⟩
  have S6 := S5.grew A6 g6
  have B6 := B5.trans (S5.bel g6)
  clear K6 A6 g6 S5 B5 F5 x0 x1 x2 x3 x4 x5 KW1
  obtain ⟨⟨x0, x1, x2, x3, x4, x5⟩, F6⟩ := LB _ B6
  simp only at x0 x1 x2 x3 x4 x5
  by_cases hx1 : X1 = 0
  rotate_left
  · have hx1' : (X1 != 0) = true := by simp [hx1]
    clear KW2 KR1 KR2 J0 J1
    clear x0 x1 x2 x3 x4 x5 S6
    go_wp2
    go_ret
    exact ⟨rfl, F6⟩
  have K7 := KW2 S6 (HY.out.below F6)
  have KR1' := fun {W : World} {ab fb : Nat} {GA : Nat → Prop} {N : Nat} (h : StB W N ab fb GA A2) => KR1 h hx1
  have J0' := J0.out hx1
  have J1' := J1.out hx1
  clear KR1 J0 J1
  subst hx1
  go_wp2_with fail
  refine K7.mono ?_
  rintro _ v7 ⟨rfl, G7, A7, g7⟩
  have S7 := S6.grew A7 g7
  have B7 := B6.trans (S6.bel g7)
  clear K7 A7 g7 S6 B6 F6 x0 x1 x2 x3 x4 x5 KW2
  obtain ⟨⟨x0, x1, x2, x3, x4, x5⟩, F7⟩ := LB _ B7
  simp only at x0 x1 x2 x3 x4 x5
  by_cases hx2 : X2 = 0
  rotate_left
  · have hx2' : (X2 != 0) = true := by simp [hx2]
    clear KR1' KR2 J0' J1'
    clear x0 x1 x2 x3 x4 x5 S7
    go_wp2
    go_ret
    exact ⟨rfl, F7⟩
  have K8 := KR1' S7 hx2
  have J0'' : Hid (a6 = a5 → J = 0) := J0' hx2
  have J1'' : Hid (a6 ≠ a5 → J = 150 ∨ J = 1) := J1' hx2
  clear KR1' J0' J1'
  subst hx2
  go_wp2_with fail
  refine K8.mono ?_
  rintro _ v8 ⟨vd, vb, rfl, O8, I8, c8⟩
  have S8 := S7.below c8
  have B8 := B7.stepL c8 B7.size
  have R8 : Rd v8 vd Y := Rd.owned O8
  obtain ⟨da, dc, rfl⟩ := R8.form
  obtain ⟨ia, ic, rfl⟩ := I8.form
  clear K8 O8 I8 c8 S7 B7 F7 x0 x1 x2 x3 x4 x5
  obtain ⟨⟨x0, x1, x2, x3, x4, x5⟩, F8⟩ := LB _ B8
  simp only at x0 x1 x2 x3 x4 x5
  go_wp2_with fail
  refine (same15 R8 (HY.out.below F8) (x := true) (sameB_self Y)).mono ?_
  rintro _ v9 ⟨rfl, c9⟩
  have S9 := S8.below c9
  have B9 := B8.stepL c9 B8.size
  clear R8 c9 S8 B8 F8 x0 x1 x2 x3 x4 x5
  obtain ⟨⟨x0, x1, x2, x3, x4, x5⟩, F9⟩ := LB _ B9
  simp only at x0 x1 x2 x3 x4 x5
  have K10 := KR2 S9
  clear KR2
  go_wp2_with fail
  refine K10.mono ?_
  rintro _ v10 ⟨vd10, vb10, rfl, O10, I10, c10⟩
  have FB : Hid (Below w.heap.size w v10) := F9.stepL c10 F9.size
  obtain ⟨d10, e10, rfl⟩ := owns_slice O10
  obtain ⟨i10, j10, rfl⟩ := I10.form
  clear K10 O10 I10 c10 S9 B9 F9 x0 x1 x2 x3 x4 x5 LB
  by_cases hq : a6 = a5
  · have j := J0''.out hq
    clear J0'' J1''
    subst j hq
    go_wp2
    go_ret
    exact ⟨rfl, FB.out⟩
  · have hq' : (a6 == a5) = false := beq_eq_false_iff_ne.2 hq
    rcases J1''.out hq with j | j
    · clear J0'' J1''
      subst j
      go_wp2
      go_ret
      exact ⟨rfl, FB.out⟩
    · clear J0'' J1''
      subst j
      go_wp2
      go_ret
      exact ⟨rfl, FB.out⟩

/-! ### THE ROW's STEP: WRITTEN OUT: LEAVE IT -/
set_option maxRecDepth 100000 in
set_option maxHeartbeats 2000000 in
theorem lifted (os : Os) (started : os.Started) (H : Type) (enc : TypeId × Value → H) :
    ReturnsInHanded {} Tryz.checked os 8 .any (Rows.stripeioEpochsSpec.pre6 enc Tryz.prog Tryz.f8 Rows.stripeioEpochsRow.domain false) (Rows.stripeioEpochsSpec.post enc Tryz.prog Tryz.f8 false true false false) := by
  refine returnsInHanded_of_change (C := Tryz.checked) own started (by kernel_rfl) Tryz.func8
    (ChangeSpec.witness6 (enc := enc) (C := Tryz.checked) false ⟨#[], #[.agg #[.int .i64 0, .int .i64 0, .int .i64 0, .int .i64 0, .int .i64 0, .int .i64 0], .int .i64 0, .slice none 0 0, .slice none 0 0, .int .i64 0, .int .i64 0, .int .i64 0], []⟩ 8 (by kernel_rfl) (by kernel_rfl) (by kernel_rfl) (by kernel_rfl)) ?_
  intro W base args ds gs before hval0 hW hcnd _
  have hval : ∀ (j : Nat) t v, Tryz.f8.params[j]? = some t → args[j]? = some v → Value.okWide Tryz.prog W .any base t v := hval0
  have hW' := hW
  obtain ⟨p, q, hA0, hV, rfl, hfz, hnd⟩ := hW
  have hA : DataW.TrodAll enc Tryz.prog W 0 (fun _ => true) true Tryz.f8.params.toList args.toList ds p := hA0
  rw [Tryz.params8] at hA hval
  obtain ⟨v0, vs0, d0, ds0, p0, q0, hargs, rfl, rfl, h0, r0⟩ := trodAll_cons hA
  obtain ⟨v1, vs1, d1, ds1, p1, q1, rfl, rfl, rfl, h1, r1⟩ := trodAll_cons r0
  obtain ⟨v2, vs2, d2, ds2, p2, q2, rfl, rfl, rfl, h2, r2⟩ := trodAll_cons r1
  obtain ⟨v3, vs3, d3, ds3, p3, q3, rfl, rfl, rfl, h3, r3⟩ := trodAll_cons r2
  obtain ⟨v4, vs4, d4, ds4, p4, q4, rfl, rfl, rfl, h4, r4⟩ := trodAll_cons r3
  obtain ⟨v5, vs5, d5, ds5, p5, q5, rfl, rfl, rfl, h5, r5⟩ := trodAll_cons r4
  obtain ⟨v6, vs6, d6, ds6, p6, q6, rfl, rfl, rfl, h6, r6⟩ := trodAll_cons r5
  obtain ⟨rfl, rfl, rfl⟩ := trodAll_nil r6
  obtain rfl : args = #[v0, v1, v2, v3, v4, v5, v6] := by cases args; simp_all
  obtain ⟨rfl, rfl⟩ := trodVars_none hV
  have k0 := h0
  have lt0 : ∀ x ∈ p0, x.block < W.heap.size := by obtain ⟨m, hm⟩ := k0; exact DataW.trod_lt m _ _ _ hm
  obtain ⟨c0, rfl, w0⟩ := open_geo Tryz.underlying24 (by kernel_rfl) rfl rfl rfl rfl rfl rfl (by kernel_rfl) (by kernel_rfl) (by kernel_rfl) (by kernel_rfl) (by kernel_rfl) (by kernel_rfl) (by kernel_rfl) (by kernel_rfl) (by kernel_rfl) (by kernel_rfl) (by kernel_rfl) (by kernel_rfl) (hval 0 24 v0 rfl rfl) h0
  obtain ⟨a1, rfl, rfl, rfl, w1⟩ := open_int Tryz.underlying3 (hval 1 3 v1 rfl rfl) h1
  obtain ⟨a2, len2, cap2, rfl⟩ := okWide_slice Tryz.underlying36 (hval 2 36 v2 rfl rfl)
  have k2 := h2
  have lt2 : ∀ x ∈ p2, x.block < W.heap.size := by obtain ⟨m, hm⟩ := k2; exact DataW.trod_lt m _ _ _ hm
  obtain ⟨z2, w2⟩ : ∃ zs, IsRow .u8 W a2 len2 cap2 zs := by
    obtain ⟨fuel, hf⟩ := h2
    rcases open_ints Tryz.underlying36 Tryz.underlying5 (by kernel_rfl) hf with ⟨hcs, _⟩ | ⟨x, l, c, zs, hcs, _, hl, hm, hz, _, hcell, hwz⟩
    · simp [Value.cells] at hcs
      obtain ⟨rfl, rfl, rfl⟩ := hcs
      exact ⟨[], .inl ⟨rfl, rfl, rfl, rfl⟩⟩
    · simp [Value.cells] at hcs
      obtain ⟨rfl, rfl, rfl⟩ := hcs
      exact ⟨zs, .inr ⟨_, rfl, hl, hm, by simpa using hz, hcell, hwz⟩⟩
  obtain ⟨a3, len3, cap3, rfl⟩ := okWide_slice Tryz.underlying36 (hval 3 36 v3 rfl rfl)
  have k3 := h3
  have lt3 : ∀ x ∈ p3, x.block < W.heap.size := by obtain ⟨m, hm⟩ := k3; exact DataW.trod_lt m _ _ _ hm
  obtain ⟨z3, w3⟩ : ∃ zs, IsRow .u8 W a3 len3 cap3 zs := by
    obtain ⟨fuel, hf⟩ := h3
    rcases open_ints Tryz.underlying36 Tryz.underlying5 (by kernel_rfl) hf with ⟨hcs, _⟩ | ⟨x, l, c, zs, hcs, _, hl, hm, hz, _, hcell, hwz⟩
    · simp [Value.cells] at hcs
      obtain ⟨rfl, rfl, rfl⟩ := hcs
      exact ⟨[], .inl ⟨rfl, rfl, rfl, rfl⟩⟩
    · simp [Value.cells] at hcs
      obtain ⟨rfl, rfl, rfl⟩ := hcs
      exact ⟨zs, .inr ⟨_, rfl, hl, hm, by simpa using hz, hcell, hwz⟩⟩
  obtain ⟨a4, rfl, rfl, rfl, w4⟩ := open_int Tryz.underlying3 (hval 4 3 v4 rfl rfl) h4
  obtain ⟨a5, rfl, rfl, rfl, w5⟩ := open_int Tryz.underlying3 (hval 5 3 v5 rfl rfl) h5
  obtain ⟨a6, rfl, rfl, rfl, w6⟩ := open_int Tryz.underlying3 (hval 6 3 v6 rfl rfl) h6
  clear hA0 hval0
  refine (walk c0 a1 a2 len2 cap2 z2 a3 len3 cap3 z3 a4 a5 a6 W w0 w1 w2 w3 w4 w5 w6).mono fun e W' ⟨he, bel⟩ => ?_
  subst he
  exact ⟨_, rfl, _, _, _, [], _, [], hW', trodAll_mk1 (shut_bool Tryz.underlying4 _), (trodAll_cons_mk (Below.trod laidOut (by kernel_rfl) (of_decide_eq_true (by kernel_rfl)) k0 bel lt0) (trodAll_cons_mk (shut_int Tryz.underlying3 w1) (trodAll_cons_mk (Below.trod laidOut (by kernel_rfl) (of_decide_eq_true (by kernel_rfl)) k2 bel lt2) (trodAll_cons_mk (Below.trod laidOut (by kernel_rfl) (of_decide_eq_true (by kernel_rfl)) k3 bel lt3) (trodAll_cons_mk (shut_int Tryz.underlying3 w4) (trodAll_cons_mk (shut_int Tryz.underlying3 w5) (trodAll_cons_mk (shut_int Tryz.underlying3 w6) trodAll_mk0))))))), rfl, bel.frame _, fun h => by cases h⟩

theorem over : Rows.stripeioEpochsRow.holds Tryz.pinned (OpenSpec.ofChange Rows.stripeioEpochsSpec) :=
  OpenClaim.holds_of_wide 8 Tryz.f8 rfl rfl rfl rfl rfl rfl rfl ⟨rfl, rfl, rfl, rfl, rfl⟩ rfl rfl rfl rfl rfl (by kernel_rfl) Tryz.func8 (by kernel_rfl)
    (of_decide_eq_true (by kernel_rfl)) (by unfold Func.isWrapper; first | (rw [if_pos (by decide +kernel)]; kernel_rfl) | (rw [if_neg (by decide +kernel)]; exact ⟨rfl, rfl⟩))
    (fun os started H enc _ => lifted os started H enc)

/-- ████ THE STATEMENT ████ -/
theorem proved : Rows.StripeioEpochsSaid := over
end Go.Proofs.YtddnfhfangfgeaaGreat.stripeioEpochs
namespace Go.Proofs.YtddnfhfangfgeaaGreat
theorem stripeioEpochs_holds : Rows.StripeioEpochsSaid := stripeioEpochs.proved
#print axioms stripeioEpochs_holds
end Go.Proofs.YtddnfhfangfgeaaGreat
