/- PROVED: for every geometry g, all numbers s and t and all slices x and y of bytes the call StripeioApart(g, s, t, x, y) returns true, and its arguments read behind it as before; no conditions. -/
import Derived.Test.YtddnfhfangfgeaaGreatChecked
import GoSem.Claim
import GoSem.ClaimJoined
import GoSem.ClaimMapViews
import Derived.JoinedTies
import Derived.KernelRfl
import Derived.Below
import Derived.OpenShut
import Derived.Lib.SmallJoins
import Derived.WalkKit
import Derived.Deep.QuietTactic
import Derived.BigQuiet
import Derived.WalkLawsBesides
import Derived.WalkSpells
import Derived.Laws.CopyOwn
import Derived.Deep.AppendLies
import Derived.Deep.OwnRows
import Derived.Laws.AppendOwnNone
import Derived.Deep.RegionHeld3
import Derived.WalkMore
import Derived.Deep.RegionLaw
import Derived.Deep.RegionWith
import Derived.Deep.CutRange
import Derived.Deep.Slices
import Derived.Maps.OwnSet
import Derived.Maps.Ext
import Derived.Lib.SliceRun
import Derived.Maps.RangeWalk
import Derived.Shelf.SlIterI.Nil
import Derived.Shelf.SortM.Plain
import Derived.Shelf.SortM.SortNone
import Derived.Ground.GgzProg
import Derived.Ground.SlgmProg
import Derived.Laws.BytesArg
import Derived.RangeFuncBox
import Derived.RangeFuncLeaves
import Derived.RangeFuncNested
import Derived.RangeFuncBound
import Derived.RangeFuncCalls
import Derived.Shelf.Abstract
import Derived.Shelf.RegionOpen
import Derived.OwnWalkIn
import Derived.TacticsInMore
import Derived.LoopNIn
import Derived.LoopIn
import Derived.Maps.AppendAt
import Derived.Laws.EntriesVeiled
import Derived.ProofKit
import Derived.ShutString
import Derived.ChangeOld
import Derived.Test.YtddnfhfangfgeaaGreatRows
import Derived.Test.YtddnfhfangfgeaaGreatTome36
import Derived.Test.YtddnfhfangfgeaaGreatTome1
import Derived.Test.YtddnfhfangfgeaaGreatTome2
import Derived.Test.YtddnfhfangfgeaaGreatTome6
import Derived.Test.YtddnfhfangfgeaaGreatTome31
import Derived.Test.YtddnfhfangfgeaaGreatTome37
import Derived.Test.YtddnfhfangfgeaaGreatTome3
import Derived.Test.YtddnfhfangfgeaaGreatTome13
import Derived.Test.YtddnfhfangfgeaaGreatTome34
import Derived.Test.YtddnfhfangfgeaaGreatTome38
import Derived.Test.YtddnfhfangfgeaaGreatTome39
import Derived.Test.YtddnfhfangfgeaaGreatTome33
import Derived.Test.YtddnfhfangfgeaaGreatTome49
import Derived.Test.YtddnfhfangfgeaaGreatTome35
import Derived.Test.YtddnfhfangfgeaaGreatTome44
import Derived.Test.YtddnfhfangfgeaaGreatTome46
import Derived.Test.YtddnfhfangfgeaaGreatTome47
import Derived.Test.YtddnfhfangfgeaaGreatTome50
namespace Go.Proofs.YtddnfhfangfgeaaGreat.stripeioApart
open Go.ChangeShapes Go.WideShapes Go.ChangeAt Go.RowKit
open Go.ChangeMaps (open_string shut_string)
set_option linter.unusedVariables false

theorem own : ownKnob Tryz.prog.godebug = none := by kernel_rfl
theorem laidOut : laidOutB Tryz.prog = true := by kernel_rfl

/-- WHAT THE WALK IS TOLD OF A SLICE OF INTEGERS THAT CAME IN: it is nil; or it leads to a row of 'cap' cells, the numbers 'zs' (the first 'len' are its elements, the rest its spare room), each fitting its kind. -/
def IsRow (k : IntKind) (w : World) (a : Option Addr) (len cap : Nat) (zs : List Int) : Prop :=
  (a = none ∧ len = 0 ∧ cap = 0 ∧ zs = []) ∨
  ∃ x, a = some x ∧ len ≤ cap ∧ cap ≤ maxLen ∧ zs.length = cap ∧ (∀ i, i < zs.length → w.cell? (x.add i) = some (.int k (zs.getD i 0))) ∧ ∀ n ∈ zs, (Lit.int k n).wf = true

open Gf
set_option linter.unusedSimpArgs false
set_option maxRecDepth 100000 in
set_option maxHeartbeats 4000000 in
theorem walk (c0 : GeoS) (a1 : Int) (a2 : Int) (a3 : Option Addr) (len3 cap3 : Nat) (z3 : List Int) (a4 : Option Addr) (len4 cap4 : Nat) (z4 : List Int) (w : World) (w0 : c0.Wf) (w1 : (Lit.int .i64 a1).wf = true) (w2 : (Lit.int .i64 a2).wf = true) (w3 : IsRow .u8 w a3 len3 cap3 z3) (w4 : IsRow .u8 w a4 len4 cap4 z4) :
    Calls Tryz.prog 6 #[aggG c0, .int .i64 a1, .int .i64 a2, .slice a3 len3 cap3, .slice a4 len4 cap4] w fun e w' => e = .returned (.bool true) ∧ Below w.heap.size w w' := by
  obtain ⟨X, rfl, RX⟩ := rd_row w3
  obtain ⟨Y, rfl, RY⟩ := rd_row w4
  have HX : Hid (Rd w (.slice a3 X.length cap3) X) := RX
  have HY : Hid (Rd w (.slice a4 Y.length cap4) Y) := RY
  clear RX RY w3 w4
  have KSm := fun W => @small15_any W c0 w0 _ rfl
  have KC := fun W => @lcheck_any W c0 w0 _ rfl
  have EQAG : ∀ k m z s t o : Int, aggG ⟨k, m, z, s, t, o⟩ = .agg #[.int .i64 k, .int .i64 m, .int .i64 z, .int .i64 s, .int .i64 t, .int .i64 o] := fun _ _ _ _ _ _ => rfl
  by_cases hsm : smG c0
  rotate_left
  · rw [decide_eq_false hsm] at KSm
    clear hsm
    obtain ⟨k, m, z, s, t, o⟩ := c0
    have LB := geo_laid w ⟨k, m, z, s, t, o⟩ 24
    rw [EQAG] at KSm KC ⊢
    go_enter Tryz.func6, Tryz.ntmps6
    go_wp2_with fail
    obtain ⟨W0, hW0⟩ : ∃ W0, W0 = w.alloc (.cells (cellsG ⟨k, m, z, s, t, o⟩) 24) := ⟨_, rfl⟩
    rw [← hW0] at LB
    refine awake15_any.mono ?_
    rintro e v0 ⟨rfl, b0⟩
    have B0 : Below W0.heap.size W0 v0 := by rw [hW0]; exact b0
    clear hW0 b0
    go_wp2_with fail
    refine (new_any _).mono ?_
    rintro _ v1 ⟨rfl, F, O1⟩
    have B1 := B0.stepL O1.below B0.size
    obtain ⟨fb, hfb⟩ : ∃ fb, Hid (fb = v0.heap.size) := ⟨_, rfl⟩
    rw [← hfb.out] at F ⊢
    clear O1 B0
    obtain ⟨⟨x0, x1, x2, x3, x4, x5⟩, F1⟩ := LB _ B1
    simp only at x0 x1 x2 x3 x4 x5
    go_wp2_with fail
    refine (KSm _).mono ?_
    rintro _ v2 ⟨rfl, c2⟩
    have B2 := B1.stepL c2 B1.size
    have FF := F.belowF c2
    clear c2 B1 F F1 KSm x0 x1 x2 x3 x4 x5
    obtain ⟨⟨x0, x1, x2, x3, x4, x5⟩, F2⟩ := LB _ B2
    simp only at x0 x1 x2 x3 x4 x5
    clear B2 LB
    go_wp2
    go_ret
    exact ⟨rfl, F2⟩
  rw [decide_eq_true hsm] at KSm
  by_cases hok : okG c0
  rotate_left
  · rw [show chG c0 = 50 from if_neg hok] at KC
    clear hsm hok
    obtain ⟨k, m, z, s, t, o⟩ := c0
    have LB := geo_laid w ⟨k, m, z, s, t, o⟩ 24
    rw [EQAG] at KSm KC ⊢
    go_enter Tryz.func6, Tryz.ntmps6
    go_wp2_with fail
    obtain ⟨W0, hW0⟩ : ∃ W0, W0 = w.alloc (.cells (cellsG ⟨k, m, z, s, t, o⟩) 24) := ⟨_, rfl⟩
    rw [← hW0] at LB
    refine awake15_any.mono ?_
    rintro e v0 ⟨rfl, b0⟩
    have B0 : Below W0.heap.size W0 v0 := by rw [hW0]; exact b0
    clear hW0 b0
    go_wp2_with fail
    refine (new_any _).mono ?_
    rintro _ v1 ⟨rfl, F, O1⟩
    have B1 := B0.stepL O1.below B0.size
    obtain ⟨fb, hfb⟩ : ∃ fb, Hid (fb = v0.heap.size) := ⟨_, rfl⟩
    rw [← hfb.out] at F ⊢
    clear O1 B0
    obtain ⟨⟨x0, x1, x2, x3, x4, x5⟩, F1⟩ := LB _ B1
    simp only at x0 x1 x2 x3 x4 x5
    go_wp2_with fail
    refine (KSm _).mono ?_
    rintro _ v2 ⟨rfl, c2⟩
    have B2 := B1.stepL c2 B1.size
    have FF := F.belowF c2
    clear c2 B1 F F1 KSm x0 x1 x2 x3 x4 x5
    obtain ⟨⟨x0, x1, x2, x3, x4, x5⟩, F2⟩ := LB _ B2
    simp only at x0 x1 x2 x3 x4 x5
    go_wp2_with fail
    refine (KC _).mono ?_
    rintro _ v3 ⟨rfl, c3⟩
    have FB : Hid (Below w.heap.size w v3) := F2.stepL c3 F2.size
    clear c3 B2 F2 LB KC x0 x1 x2 x3 x4 x5
    go_wp2
    go_ret
    exact ⟨rfl, FB.out⟩
  rw [show chG c0 = 0 from if_pos hok] at KC
  by_cases h3 : a1 = a2
  · subst h3
    clear hsm hok
    obtain ⟨k, m, z, s, t, o⟩ := c0
    have LB := geo_laid w ⟨k, m, z, s, t, o⟩ 24
    rw [EQAG] at KSm KC ⊢
    go_enter Tryz.func6, Tryz.ntmps6
    go_wp2_with fail
    obtain ⟨W0, hW0⟩ : ∃ W0, W0 = w.alloc (.cells (cellsG ⟨k, m, z, s, t, o⟩) 24) := ⟨_, rfl⟩
    rw [← hW0] at LB
    refine awake15_any.mono ?_
    rintro e v0 ⟨rfl, b0⟩
    have B0 : Below W0.heap.size W0 v0 := by rw [hW0]; exact b0
    clear hW0 b0
    go_wp2_with fail
    refine (new_any _).mono ?_
    rintro _ v1 ⟨rfl, F, O1⟩
    have B1 := B0.stepL O1.below B0.size
    obtain ⟨fb, hfb⟩ : ∃ fb, Hid (fb = v0.heap.size) := ⟨_, rfl⟩
    rw [← hfb.out] at F ⊢
    clear O1 B0
    obtain ⟨⟨x0, x1, x2, x3, x4, x5⟩, F1⟩ := LB _ B1
    simp only at x0 x1 x2 x3 x4 x5
    go_wp2_with fail
    refine (KSm _).mono ?_
    rintro _ v2 ⟨rfl, c2⟩
    have B2 := B1.stepL c2 B1.size
    have FF := F.belowF c2
    clear c2 B1 F F1 KSm x0 x1 x2 x3 x4 x5
    obtain ⟨⟨x0, x1, x2, x3, x4, x5⟩, F2⟩ := LB _ B2
    simp only at x0 x1 x2 x3 x4 x5
    go_wp2_with fail
    refine (KC _).mono ?_
    rintro _ v3 ⟨rfl, c3⟩
    have FB : Hid (Below w.heap.size w v3) := F2.stepL c3 F2.size
    clear c3 B2 F2 LB KC x0 x1 x2 x3 x4 x5
    go_wp2
    go_ret
    exact ⟨rfl, FB.out⟩
  have zz := okG_nat hok
  have sec := sec_in hok
  obtain ⟨n, hn⟩ : ∃ n, Hid (n = nT c0) := ⟨_, rfl⟩
  obtain ⟨sc, hsc⟩ : ∃ sc, Hid (sc = secG c0) := ⟨_, rfl⟩
  rw [← hsc.out] at sec
  have n1 : 1 ≤ n ∧ n ≤ 32 := by rw [hn.out]; exact ⟨nT_pos hok, zz.2.2.2.2.1⟩
  have KZ := fun W => @lsec_any W c0 w0 _ hsc.out.symm
  have KN := fun W => @anew_is W (n : Int) sc n rfl n1.1 n1.2 sec.2.1 sec.2.2 sc.toNat rfl
  have ekm : c0.k + c0.m = (n : Int) := by rw [hn.out]; exact zz.2.2.2.2.2.2.2.symm
  obtain ⟨A0, hA0⟩ : ∃ A0, Hid (A0 = newA n sc.toNat) := ⟨_, rfl⟩
  have HWr : Hid (∀ st, 0 ≤ st → st < c0.s → ∀ i, i < nT c0 → WrT A0 c0 st i) := fun st h1 h2 i hi => by
    rw [hA0.out, hn.out, hsc.out]
    exact new_all hok h1 h2 i hi
  have HCalm : Hid (Gf.Calm A0) := by rw [hA0.out]; exact calm_new _ _
  have hz := smG_z hsm
  have KN' : ∀ W, Calls Tryz.prog 12 #[.int .i64 (n : Int), .int .i64 sc] W fun e w' => ∃ ab GA, e = .returned (.tuple #[.pointer (some ⟨ab, 0, none⟩), .int .i64 0]) ∧ ArAt w' ab GA A0 ∧ (∀ k, GA k → W.heap.size ≤ k) ∧ Below W.heap.size W w' := fun W => by rw [hA0.out]; exact KN W
  have h3' : (a1 == a2) = false := beq_eq_false_iff_ne.2 h3
  obtain ⟨X1, hX1⟩ : ∃ x, Hid (swX A0 c0 a1 1 X = x) := ⟨_, rfl⟩
  obtain ⟨A1, hA1⟩ : ∃ x, Hid (swS A0 c0 a1 1 X = x) := ⟨_, rfl⟩
  obtain ⟨X2, hX2⟩ : ∃ x, Hid (swX A1 c0 a2 2 Y = x) := ⟨_, rfl⟩
  obtain ⟨A2, hA2⟩ : ∃ x, Hid (swS A1 c0 a2 2 Y = x) := ⟨_, rfl⟩
  have KW1 := fun {W : World} {ab fb : Nat} {GA : Nat → Prop} {N : Nat} (h : StB W N ab fb GA A0) (hp : Rd W (.slice a3 X.length cap3) X) => swrite_is h w0 w1 hp hz hX1.out hA1.out
  have KW2 := fun {W : World} {ab fb : Nat} {GA : Nat → Prop} {N : Nat} (h : StB W N ab fb GA A1) (hp : Rd W (.slice a4 Y.length cap4) Y) => swrite_is h w0 w2 hp hz hX2.out hA2.out
  have AP : Hid (X1 = 0 → X2 = 0 → (rtX A2 c0 a1 1 = 0 ∧ rtD A2 c0 a1 1 = X) ∧ (rtX A2 c0 a2 2 = 0 ∧ rtD A2 c0 a2 2 = Y) ∧ A2.D.length = nT c0 ∧ (heldL (A2.D.getD 0 default).wait (A2.D.getD 0 default).s).length = 2 ∧ heldL (A2.D.getD 0 default).last (A2.D.getD 0 default).s = []) := fun e1 e2 => by
    obtain ⟨t1, l1⟩ := sw_ok (hX1.out.trans e1)
    obtain ⟨t2, l2⟩ := sw_ok (hX2.out.trans e2)
    exact apart15 (by rw [hA0.out, hn.out, hsc.out]) hA1.out hA2.out t1 l1 t2 l2 h3
  have KR1 := fun {W : World} {ab fb : Nat} {GA : Nat → Prop} {N : Nat} (h : StB W N ab fb GA A2) (e1 : X1 = 0) (e2 : X2 = 0) => sread_is h w0 w1 hz (AP.out e1 e2).1.1 (AP.out e1 e2).1.2 rfl
  have KR2 := fun {W : World} {ab fb : Nat} {GA : Nat → Prop} {N : Nat} (h : StB W N ab fb GA A2) (e1 : X1 = 0) (e2 : X2 = 0) => sread_is h w0 w2 hz (AP.out e1 e2).2.1.1 (AP.out e1 e2).2.1.2 rfl
  obtain ⟨BB1, hBB1⟩ : ∃ x, Hid (rtB A2 c0 a1 1 = x) := ⟨_, rfl⟩
  obtain ⟨BB2, hBB2⟩ : ∃ x, Hid (rtB A2 c0 a2 2 = x) := ⟨_, rfl⟩
  rw [hBB1.out] at KR1
  rw [hBB2.out] at KR2
  obtain ⟨LW, hLW⟩ : ∃ x, Hid (heldL (A2.D.getD 0 default).wait (A2.D.getD 0 default).s = x) := ⟨_, rfl⟩
  obtain ⟨LL, hLL⟩ : ∃ x, Hid (heldL (A2.D.getD 0 default).last (A2.D.getD 0 default).s = x) := ⟨_, rfl⟩
  have KWa := fun {W : World} {ab fb : Nat} {GA : Nat → Prop} {N : Nat} (h : StB W N ab fb GA A2) (e1 : X1 = 0) (e2 : X2 = 0) => awaits_at h.D.at_ (j := 0) (by rw [(AP.out e1 e2).2.2.1, ← hn.out]; omega)
  have KLa := fun {W : World} {ab fb : Nat} {GA : Nat → Prop} {N : Nat} (h : StB W N ab fb GA A2) (e1 : X1 = 0) (e2 : X2 = 0) => alasts_at h.D.at_ (j := 0) (by rw [(AP.out e1 e2).2.2.1, ← hn.out]; omega)
  rw [hLW.out] at KWa
  rw [hLL.out] at KLa
  have HLW : Hid (X1 = 0 → X2 = 0 → LW.length = 2 ∧ LL = []) := fun e1 e2 => by
    have := (AP.out e1 e2).2.2.2
    rw [hLW.out, hLL.out] at this
    exact this
  have HNat : Hid (∀ {T : List TH} {k : Nat}, bareT T = LW → k < T.length → ∃ q : Nat, (T.getD k default).1 = (q : Int)) := fun h hk => heldT_nat (by rw [hLW.out]; exact h) hk
  obtain ⟨ii, hii, hiz0, hiz1, hiz2⟩ := info_parts info_intP
  clear zz sec hA0 HWr HCalm hX1 hA1 hX2 hA2 AP hBB1 hBB2 hLW hLL hsm hok hn hsc hz
  obtain ⟨k, m, z, s, t, o⟩ := c0
  have LB := geo_laid w ⟨k, m, z, s, t, o⟩ 24
  rw [EQAG] at KSm KC KZ KW1 KW2 KR1 KR2 ⊢
  have gk : IntKind.i64.wrap (k + m) = (n : Int) := by simp only at ekm; rw [ekm, IntKind.wrap_i64]; omega
  have gn : IntKind.i64.wrap (n : Int) = (n : Int) := by rw [IntKind.wrap_i64]; omega
  clear ekm
  go_enter Tryz.func6, Tryz.ntmps6
  go_wp2_with fail
  obtain ⟨W0, hW0⟩ : ∃ W0, W0 = w.alloc (.cells (cellsG ⟨k, m, z, s, t, o⟩) 24) := ⟨_, rfl⟩
  rw [← hW0] at LB
  refine awake15_any.mono ?_
  rintro e v0 ⟨rfl, b0⟩
  have B0 : Below W0.heap.size W0 v0 := by rw [hW0]; exact b0
  clear hW0 b0
  go_wp2_with fail
  refine (new_any _).mono ?_
  rintro _ v1 ⟨rfl, F, O1⟩
  have B1 := B0.stepL O1.below B0.size
  obtain ⟨fb, hfb⟩ : ∃ fb, Hid (fb = v0.heap.size) := ⟨_, rfl⟩
  rw [← hfb.out] at F ⊢
  clear O1 B0
  obtain ⟨⟨x0, x1, x2, x3, x4, x5⟩, F1⟩ := LB _ B1
  simp only at x0 x1 x2 x3 x4 x5
  go_wp2_with fail
  refine (KSm _).mono ?_
  rintro _ v2 ⟨rfl, c2⟩
  have B2 := B1.stepL c2 B1.size
  have FF := F.belowF c2
  clear c2 B1 F F1 KSm x0 x1 x2 x3 x4 x5
  obtain ⟨⟨x0, x1, x2, x3, x4, x5⟩, F2⟩ := LB _ B2
  simp only at x0 x1 x2 x3 x4 x5
  go_wp2_with fail
  refine (KC _).mono ?_
  rintro _ v3 ⟨rfl, c3⟩
  have B3 := B2.stepL c3 B2.size
  have F3' := FF.belowF c3
  clear c3 B2 F2 FF KC x0 x1 x2 x3 x4 x5
  have s0 := (LB _ B3).1
  have BD : Below W0.heap.size W0 v3.drew := B3.drew
  have sD := (LB _ BD).1
  obtain ⟨⟨x0, x1, x2, x3, x4, x5⟩, F3⟩ := LB _ B3
  simp only at x0 x1 x2 x3 x4 x5
  go_wp2_with fail
  go_region_held3 (fun wx => wx.cell? ⟨w.heap.size, 0, none⟩ = some (.int .i64 k) ∧ wx.cell? ⟨w.heap.size, 1, none⟩ = some (.int .i64 m) ∧ wx.cell? ⟨w.heap.size, 2, none⟩ = some (.int .i64 z) ∧ wx.cell? ⟨w.heap.size, 3, none⟩ = some (.int .i64 s) ∧ wx.cell? ⟨w.heap.size, 4, none⟩ = some (.int .i64 t) ∧ wx.cell? ⟨w.heap.size, 5, none⟩ = some (.int .i64 o)) (first | exact s0 | exact sD | exact s4 | exact s5) (first
    | (go_at_call 17; go_loud (refine (KZ _).mono ?_); rintro _ v4 ⟨rfl, c4⟩; have B4 := BD.stepL c4 BD.size; have s4 := (LB _ B4).1)
    | (go_at_call 12; go_loud (refine (KN' _).mono ?_); rintro _ v5 ⟨ab, G5, rfl, A5, H5, c5⟩; have B5 := B4.stepL c5 B4.size; have s5 := (LB _ B5).1))
  have S5 : StB v5 W0.heap.size ab fb G5 A0 := ⟨⟨A5, fun q hq => Nat.le_trans B4.size (H5 q hq), B5.size⟩, (F3'.belowF (((Below.refl _ _).drew).stepL c4 (Nat.le_refl _))).belowF c5, fun q => by have := H5 _ q; have := (F3'.belowF (((Below.refl _ _).drew).stepL c4 (Nat.le_refl _))).lt; omega⟩
  clear s0 sD s4 s5 c4 c5 BD B3 F3 B4 A5 H5 F3' KZ KN KN' x0 x1 x2 x3 x4 x5
  obtain ⟨⟨x0, x1, x2, x3, x4, x5⟩, F5⟩ := LB _ B5
  simp only at x0 x1 x2 x3 x4 x5
  have K6 := KW1 S5 (HX.out.below F5)
  go_wp2_with fail
  refine K6.mono ?_
  rintro _ v6 ⟨rfl, G6, A6, g6⟩
  have S6 := S5.grew A6 g6
  have B6 := B5.trans (S5.bel g6)
  clear K6 A6 g6 S5 B5 F5 x0 x1 x2 x3 x4 x5 KW1
  obtain ⟨⟨x0, x1, x2, x3, x4, x5⟩, F6⟩ := LB _ B6
  simp only at x0 x1 x2 x3 x4 x5
  have K7 := KW2 S6 (HY.out.below F6)
  go_wp2_with fail
  refine K7.mono ?_
  rintro _ v7 ⟨rfl, G7, A7, g7⟩
  have S7 := S6.grew A7 g7
  have B7 := B6.trans (S6.bel g7)
  clear K7 A7 g7 S6 B6 F6 x0 x1 x2 x3 x4 x5 KW2
  obtain ⟨⟨x0, x1, x2, x3, x4, x5⟩, F7⟩ := LB _ B7
  simp only at x0 x1 x2 x3 x4 x5
  by_cases hx1 : X1 = 0
  rotate_left
  · have hx1' : (X1 != 0) = true := by simp [hx1]
    clear KR1 KR2 KWa KLa HLW HNat
    clear x0 x1 x2 x3 x4 x5 S7
    go_wp2
    go_ret
    exact ⟨rfl, F7⟩
  by_cases hx2 : X2 = 0
  rotate_left
  · have hx2' : (X2 != 0) = true := by simp [hx2]
    clear KR1 KR2 KWa KLa HLW HNat
    subst hx1
    clear x0 x1 x2 x3 x4 x5 S7
    go_wp2
    go_ret
    exact ⟨rfl, F7⟩
  have K8 := KR1 S7 hx1 hx2
  have KR2' := fun {W : World} {ab fb : Nat} {GA : Nat → Prop} {N : Nat} (h : StB W N ab fb GA A2) => KR2 h hx1 hx2
  have KWa' := fun {W : World} {ab fb : Nat} {GA : Nat → Prop} {N : Nat} (h : StB W N ab fb GA A2) => KWa h hx1 hx2
  have KLa' := fun {W : World} {ab fb : Nat} {GA : Nat → Prop} {N : Nat} (h : StB W N ab fb GA A2) => KLa h hx1 hx2
  have HL : Hid (LW.length = 2 ∧ LL = []) := HLW.out hx1 hx2
  clear KR1 KR2 KWa KLa HLW
  subst hx1 hx2
  go_wp2_with fail
  refine K8.mono ?_
  rintro _ v8 ⟨vd, vb, rfl, O8, I8, c8⟩
  have S8 := S7.below c8
  have B8 := B7.stepL c8 B7.size
  have R8 : Rd v8 vd X := Rd.owned O8
  obtain ⟨da, dc, rfl⟩ := R8.form
  obtain ⟨ia, ic, rfl⟩ := I8.form
  clear K8 O8 I8 c8 S7 B7 F7 x0 x1 x2 x3 x4 x5
  obtain ⟨⟨x0, x1, x2, x3, x4, x5⟩, F8⟩ := LB _ B8
  simp only at x0 x1 x2 x3 x4 x5
  have K9 := KR2' S8
  go_wp2_with fail
  refine K9.mono ?_
  rintro _ v9 ⟨vd9, vb9, rfl, O9, I9, c9⟩
  have S9 := S8.below c9
  have B9 := B8.stepL c9 B8.size
  have R9 : Rd v9 vd9 Y := Rd.owned O9
  have R8' := R8.below c9
  obtain ⟨d9, e9, rfl⟩ := R9.form
  obtain ⟨i9, j9, rfl⟩ := I9.form
  clear K9 O9 I9 c9 S8 B8 F8 x0 x1 x2 x3 x4 x5 R8 KR2'
  obtain ⟨⟨x0, x1, x2, x3, x4, x5⟩, F9⟩ := LB _ B9
  simp only at x0 x1 x2 x3 x4 x5
  go_wp2_with fail
  refine (same15 R8' (HX.out.below F9) (x := true) (sameB_self X)).mono ?_
  rintro _ v10 ⟨rfl, c10⟩
  have S10 := S9.below c10
  have B10 := B9.stepL c10 B9.size
  have R10 := R9.below c10
  clear R8' R9 c10 S9 B9 F9 x0 x1 x2 x3 x4 x5
  obtain ⟨⟨x0, x1, x2, x3, x4, x5⟩, F10⟩ := LB _ B10
  simp only at x0 x1 x2 x3 x4 x5
  go_wp2_with fail
  refine (same15 R10 (HY.out.below F10) (x := true) (sameB_self Y)).mono ?_
  rintro _ v11 ⟨rfl, c11⟩
  have S11 := S10.below c11
  have B11 := B10.stepL c11 B10.size
  clear R10 c11 S10 B10 F10 x0 x1 x2 x3 x4 x5
  obtain ⟨⟨x0, x1, x2, x3, x4, x5⟩, F11⟩ := LB _ B11
  simp only at x0 x1 x2 x3 x4 x5
  have K12 := KWa' S11
  clear KWa'
  go_wp2_with fail
  refine K12.mono ?_
  rintro _ v12 ⟨vl, rfl, O12, c12⟩
  have S12 : Hid (StB v12 W0.heap.size ab fb G7 A2) := S11.below c12
  have F12 : Hid (Below w.heap.size w v12) := F11.stepL c12 F11.size
  obtain ⟨T, hT, OT⟩ := O12
  have hTl : Hid (T.length = 2) := by
    show _ = _
    rw [← HL.out.1, ← hT]
    simp [bareT]
  have RT : Hid (RdT v12 vl T) := OT.rd (by rw [hTl.out]; decide)
  have HTn : Hid (∀ k, k < T.length → ∃ q : Nat, (T.getD k default).1 = (q : Int)) := fun k hk => HNat.out hT hk
  obtain ⟨ta, tc, rfl⟩ := RT.out.form
  clear K12 OT c12 S11 B11 F11 x0 x1 x2 x3 x4 x5 hT HNat LB
  go_wp2
  go_loopw [25, 27] (fun pv i wr => ∃ r : Nat, r ≤ T.length ∧ i = .int .i64 (r : Int) ∧ (∃ Z : List Nat, Z.length = r ∧ OwnI wr v12.heap.size 3 pv Z) ∧ Below v12.heap.size v12 wr) (fun _ i _ => T.length - (intOf i).toNat)
  case atStart => exact ⟨0, Nat.zero_le _, rfl, ⟨[], rfl, OwnI.nil _ _ _⟩, Below.refl _ _⟩
  case round =>
    obtain ⟨r, hr, rfl, ⟨Z, hZ, hO⟩, hB⟩ := hrel
    have HZ : Hid (Z.length = r) := hZ
    clear hZ
    obtain ⟨pa, pc, rfl⟩ := hO.form
    by_cases hlt : r < T.length
    · have hlt' : (r : Int) < (T.length : Int) := by omega
      have g1 : IntKind.i64.wrap ((r : Int) + 1) = ((r + 1 : Nat) : Int) := by have := hTl.out; rw [IntKind.wrap_i64]; omega
      obtain ⟨tb, to_, rfl, ht⟩ := (RT.out.below hB).at hlt
      obtain ⟨q, hq⟩ := HTn.out r hlt
      have cx := ht.c0
      rw [hq] at cx
      have hsz := hB.size
      clear ht hq
      go_wp2_with (at_builtin; go_loud (refine wpList_append_int rfl (.tmp 116) (.tmp 122) 45 rfl v12.heap.size 3 ii Tryz.underlying45 hii hiz0 hiz1 hiz2 (.slice pa Z.length pc) Z rfl hO q _ 1 rfl (by have := HZ.out; have := hTl.out; omega) hsz ?_); intro v13 w13 h13 b13)
      have E13 : Hid ((∃ Z : List Nat, Z.length = r + 1 ∧ OwnI w13 v12.heap.size 3 v13 Z) ∧ Below v12.heap.size v12 w13) := ⟨⟨Z ++ [q], by rw [List.length_append, HZ.out]; rfl, h13⟩, hB.trans b13⟩
      clear hO h13 b13 hB cx
      go_wp2
      go_roundw
      case rel => exact ⟨r + 1, by omega, by go_num, E13.out.1, E13.out.2⟩
      case measure => simp [intOf]; omega
    · obtain rfl : r = T.length := by omega
      have hlt' : ¬ (T.length : Int) < (T.length : Int) := by omega
      have hz2 : Z.length = 2 := by rw [HZ.out]; exact hTl.out
      rw [hz2]
      have S14 := S12.out.below hB
      have F14 := F12.out.stepL hB F12.out.size
      have K15 := KLa' S14
      clear hO hB HZ KLa' hz2
      go_wp2_with fail
      refine K15.mono ?_
      rintro _ v15 ⟨vx, rfl, O15, c15⟩
      have F15 := F14.stepL c15 F14.size
      have RH : RdH v15 vx LL := OwnH.rdA O15 (by rw [HL.out.2]; simp)
      have K16 := same12_is RH (rdH_nil15 v15) (x := true) (decide_eq_true HL.out.2)
      obtain ⟨xa, xc, rfl⟩ := O15.formL
      obtain ⟨LN, hLN⟩ : ∃ LN, Hid (LN = LL.length) := ⟨_, rfl⟩
      rw [← hLN.out] at K16 ⊢
      clear K15 O15 c15 F14 S14 RH
      go_wp2_with fail
      refine K16.mono ?_
      rintro _ v16 ⟨rfl, nd, hnd⟩
      have FB : Hid (Below w.heap.size w v16) := by show Below _ _ _; rw [hnd]; exact F15.drewN nd
      clear hnd K16 F15
      go_wp2
      go_ret
      exact ⟨rfl, FB.out⟩

/-! ### THE ROW's STEP: WRITTEN OUT: LEAVE IT -/
set_option maxRecDepth 100000 in
set_option maxHeartbeats 2000000 in
theorem lifted (os : Os) (started : os.Started) (H : Type) (enc : TypeId × Value → H) :
    ReturnsInHanded {} Tryz.checked os 6 .any (Rows.stripeioApartSpec.pre6 enc Tryz.prog Tryz.f6 Rows.stripeioApartRow.domain false) (Rows.stripeioApartSpec.post enc Tryz.prog Tryz.f6 false true false false) := by
  refine returnsInHanded_of_change (C := Tryz.checked) own started (by kernel_rfl) Tryz.func6
    (ChangeSpec.witness6 (enc := enc) (C := Tryz.checked) false ⟨#[], #[.agg #[.int .i64 0, .int .i64 0, .int .i64 0, .int .i64 0, .int .i64 0, .int .i64 0], .int .i64 0, .int .i64 0, .slice none 0 0, .slice none 0 0], []⟩ 8 (by kernel_rfl) (by kernel_rfl) (by kernel_rfl) (by kernel_rfl)) ?_
  intro W base args ds gs before hval0 hW hcnd _
  have hval : ∀ (j : Nat) t v, Tryz.f6.params[j]? = some t → args[j]? = some v → Value.okWide Tryz.prog W .any base t v := hval0
  have hW' := hW
  obtain ⟨p, q, hA0, hV, rfl, hfz, hnd⟩ := hW
  have hA : DataW.TrodAll enc Tryz.prog W 0 (fun _ => true) true Tryz.f6.params.toList args.toList ds p := hA0
  rw [Tryz.params6] at hA hval
  obtain ⟨v0, vs0, d0, ds0, p0, q0, hargs, rfl, rfl, h0, r0⟩ := trodAll_cons hA
  obtain ⟨v1, vs1, d1, ds1, p1, q1, rfl, rfl, rfl, h1, r1⟩ := trodAll_cons r0
  obtain ⟨v2, vs2, d2, ds2, p2, q2, rfl, rfl, rfl, h2, r2⟩ := trodAll_cons r1
  obtain ⟨v3, vs3, d3, ds3, p3, q3, rfl, rfl, rfl, h3, r3⟩ := trodAll_cons r2
  obtain ⟨v4, vs4, d4, ds4, p4, q4, rfl, rfl, rfl, h4, r4⟩ := trodAll_cons r3
  obtain ⟨rfl, rfl, rfl⟩ := trodAll_nil r4
  obtain rfl : args = #[v0, v1, v2, v3, v4] := by cases args; simp_all
  obtain ⟨rfl, rfl⟩ := trodVars_none hV
  have k0 := h0
  have lt0 : ∀ x ∈ p0, x.block < W.heap.size := by obtain ⟨m, hm⟩ := k0; exact DataW.trod_lt m _ _ _ hm
  obtain ⟨c0, rfl, w0⟩ := open_geo Tryz.underlying24 (by kernel_rfl) rfl rfl rfl rfl rfl rfl (by kernel_rfl) (by kernel_rfl) (by kernel_rfl) (by kernel_rfl) (by kernel_rfl) (by kernel_rfl) (by kernel_rfl) (by kernel_rfl) (by kernel_rfl) (by kernel_rfl) (by kernel_rfl) (by kernel_rfl) (hval 0 24 v0 rfl rfl) h0
  obtain ⟨a1, rfl, rfl, rfl, w1⟩ := open_int Tryz.underlying3 (hval 1 3 v1 rfl rfl) h1
  obtain ⟨a2, rfl, rfl, rfl, w2⟩ := open_int Tryz.underlying3 (hval 2 3 v2 rfl rfl) h2
  obtain ⟨a3, len3, cap3, rfl⟩ := okWide_slice Tryz.underlying36 (hval 3 36 v3 rfl rfl)
  have k3 := h3
  have lt3 : ∀ x ∈ p3, x.block < W.heap.size := by obtain ⟨m, hm⟩ := k3; exact DataW.trod_lt m _ _ _ hm
  obtain ⟨z3, w3⟩ : ∃ zs, IsRow .u8 W a3 len3 cap3 zs := by
    obtain ⟨fuel, hf⟩ := h3
    rcases open_ints Tryz.underlying36 Tryz.underlying5 (by kernel_rfl) hf with ⟨hcs, _⟩ | ⟨x, l, c, zs, hcs, _, hl, hm, hz, _, hcell, hwz⟩
    · simp [Value.cells] at hcs
      obtain ⟨rfl, rfl, rfl⟩ := hcs
      exact ⟨[], .inl ⟨rfl, rfl, rfl, rfl⟩⟩
    · simp [Value.cells] at hcs
      obtain ⟨rfl, rfl, rfl⟩ := hcs
      exact ⟨zs, .inr ⟨_, rfl, hl, hm, by simpa using hz, hcell, hwz⟩⟩
  obtain ⟨a4, len4, cap4, rfl⟩ := okWide_slice Tryz.underlying36 (hval 4 36 v4 rfl rfl)
  have k4 := h4
  have lt4 : ∀ x ∈ p4, x.block < W.heap.size := by obtain ⟨m, hm⟩ := k4; exact DataW.trod_lt m _ _ _ hm
  obtain ⟨z4, w4⟩ : ∃ zs, IsRow .u8 W a4 len4 cap4 zs := by
    obtain ⟨fuel, hf⟩ := h4
    rcases open_ints Tryz.underlying36 Tryz.underlying5 (by kernel_rfl) hf with ⟨hcs, _⟩ | ⟨x, l, c, zs, hcs, _, hl, hm, hz, _, hcell, hwz⟩
    · simp [Value.cells] at hcs
      obtain ⟨rfl, rfl, rfl⟩ := hcs
      exact ⟨[], .inl ⟨rfl, rfl, rfl, rfl⟩⟩
    · simp [Value.cells] at hcs
      obtain ⟨rfl, rfl, rfl⟩ := hcs
      exact ⟨zs, .inr ⟨_, rfl, hl, hm, by simpa using hz, hcell, hwz⟩⟩
  clear hA0 hval0
  refine (walk c0 a1 a2 a3 len3 cap3 z3 a4 len4 cap4 z4 W w0 w1 w2 w3 w4).mono fun e W' ⟨he, bel⟩ => ?_
  subst he
  exact ⟨_, rfl, _, _, _, [], _, [], hW', trodAll_mk1 (shut_bool Tryz.underlying4 _), (trodAll_cons_mk (Below.trod laidOut (by kernel_rfl) (of_decide_eq_true (by kernel_rfl)) k0 bel lt0) (trodAll_cons_mk (shut_int Tryz.underlying3 w1) (trodAll_cons_mk (shut_int Tryz.underlying3 w2) (trodAll_cons_mk (Below.trod laidOut (by kernel_rfl) (of_decide_eq_true (by kernel_rfl)) k3 bel lt3) (trodAll_cons_mk (Below.trod laidOut (by kernel_rfl) (of_decide_eq_true (by kernel_rfl)) k4 bel lt4) trodAll_mk0))))), rfl, bel.frame _, fun h => by cases h⟩

theorem over : Rows.stripeioApartRow.holds Tryz.pinned (OpenSpec.ofChange Rows.stripeioApartSpec) :=
  OpenClaim.holds_of_wide 6 Tryz.f6 rfl rfl rfl rfl rfl rfl rfl ⟨rfl, rfl, rfl, rfl, rfl⟩ rfl rfl rfl rfl rfl (by kernel_rfl) Tryz.func6 (by kernel_rfl)
    (of_decide_eq_true (by kernel_rfl)) (by unfold Func.isWrapper; first | (rw [if_pos (by decide +kernel)]; kernel_rfl) | (rw [if_neg (by decide +kernel)]; exact ⟨rfl, rfl⟩))
    (fun os started H enc _ => lifted os started H enc)

/-- ████ THE STATEMENT ████ -/
theorem proved : Rows.StripeioApartSaid := over
end Go.Proofs.YtddnfhfangfgeaaGreat.stripeioApart
namespace Go.Proofs.YtddnfhfangfgeaaGreat
theorem stripeioApart_holds : Rows.StripeioApartSaid := stripeioApart.proved
#print axioms stripeioApart_holds
end Go.Proofs.YtddnfhfangfgeaaGreat
