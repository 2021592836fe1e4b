/- PROVED: for every geometry g, all numbers stripe, epoch and how, every slice data of bytes and every slice hurt of ints the call StripeioBack(g, stripe, epoch, data, hurt, how) returns true, and its arguments read behind it as before; no conditions. -/
import Derived.Test.YtddnfhfangfgeaaGreatChecked
import GoSem.Claim
import GoSem.ClaimJoined
import GoSem.ClaimMapViews
import Derived.JoinedTies
import Derived.KernelRfl
import Derived.Below
import Derived.OpenShut
import Derived.Lib.SmallJoins
import Derived.WalkKit
import Derived.Deep.QuietTactic
import Derived.BigQuiet
import Derived.WalkLawsBesides
import Derived.WalkSpells
import Derived.Laws.CopyOwn
import Derived.Deep.AppendLies
import Derived.Deep.OwnRows
import Derived.Laws.AppendOwnNone
import Derived.Deep.RegionHeld3
import Derived.WalkMore
import Derived.Deep.RegionLaw
import Derived.Deep.RegionWith
import Derived.Deep.CutRange
import Derived.Deep.Slices
import Derived.Maps.OwnSet
import Derived.Maps.Ext
import Derived.Lib.SliceRun
import Derived.Maps.RangeWalk
import Derived.Shelf.SlIterI.Nil
import Derived.Shelf.SortM.Plain
import Derived.Shelf.SortM.SortNone
import Derived.Ground.GgzProg
import Derived.Ground.SlgmProg
import Derived.Laws.BytesArg
import Derived.RangeFuncBox
import Derived.RangeFuncLeaves
import Derived.RangeFuncNested
import Derived.RangeFuncBound
import Derived.RangeFuncCalls
import Derived.Shelf.Abstract
import Derived.Shelf.RegionOpen
import Derived.OwnWalkIn
import Derived.TacticsInMore
import Derived.LoopNIn
import Derived.LoopIn
import Derived.Maps.AppendAt
import Derived.Laws.EntriesVeiled
import Derived.ProofKit
import Derived.ShutString
import Derived.ChangeOld
import Derived.Test.YtddnfhfangfgeaaGreatRows
import Derived.Test.YtddnfhfangfgeaaGreatTome36
import Derived.Test.YtddnfhfangfgeaaGreatTome1
import Derived.Test.YtddnfhfangfgeaaGreatTome2
import Derived.Test.YtddnfhfangfgeaaGreatTome6
import Derived.Test.YtddnfhfangfgeaaGreatTome31
import Derived.Test.YtddnfhfangfgeaaGreatTome37
import Derived.Test.YtddnfhfangfgeaaGreatTome3
import Derived.Test.YtddnfhfangfgeaaGreatTome13
import Derived.Test.YtddnfhfangfgeaaGreatTome48
import Derived.Test.YtddnfhfangfgeaaGreatTome34
import Derived.Test.YtddnfhfangfgeaaGreatTome38
import Derived.Test.YtddnfhfangfgeaaGreatTome39
import Derived.Test.YtddnfhfangfgeaaGreatTome33
import Derived.Test.YtddnfhfangfgeaaGreatTome35
import Derived.Test.YtddnfhfangfgeaaGreatTome40
import Derived.Test.YtddnfhfangfgeaaGreatTome46
import Derived.Test.YtddnfhfangfgeaaGreatTome47
namespace Go.Proofs.YtddnfhfangfgeaaGreat.stripeioBack
open Go.ChangeShapes Go.WideShapes Go.ChangeAt Go.RowKit
open Go.ChangeMaps (open_string shut_string)
set_option linter.unusedVariables false

theorem own : ownKnob Tryz.prog.godebug = none := by kernel_rfl
theorem laidOut : laidOutB Tryz.prog = true := by kernel_rfl

/-- WHAT THE WALK IS TOLD OF A SLICE OF INTEGERS THAT CAME IN: it is nil; or it leads to a row of 'cap' cells, the numbers 'zs' (the first 'len' are its elements, the rest its spare room), each fitting its kind. -/
def IsRow (k : IntKind) (w : World) (a : Option Addr) (len cap : Nat) (zs : List Int) : Prop :=
  (a = none ∧ len = 0 ∧ cap = 0 ∧ zs = []) ∨
  ∃ x, a = some x ∧ len ≤ cap ∧ cap ≤ maxLen ∧ zs.length = cap ∧ (∀ i, i < zs.length → w.cell? (x.add i) = some (.int k (zs.getD i 0))) ∧ ∀ n ∈ zs, (Lit.int k n).wf = true

open Gf
set_option linter.unusedSimpArgs false
set_option maxRecDepth 100000 in
set_option maxHeartbeats 4000000 in
theorem walk (c0 : GeoS) (a1 : Int) (a2 : Int) (a3 : Option Addr) (len3 cap3 : Nat) (z3 : List Int) (a4 : Option Addr) (len4 cap4 : Nat) (z4 : List Int) (a5 : Int) (w : World) (w0 : c0.Wf) (w1 : (Lit.int .i64 a1).wf = true) (w2 : (Lit.int .i64 a2).wf = true) (w3 : IsRow .u8 w a3 len3 cap3 z3) (w4 : IsRow .i64 w a4 len4 cap4 z4) (w5 : (Lit.int .i64 a5).wf = true) :
    Calls Tryz.prog 5 #[aggG c0, .int .i64 a1, .int .i64 a2, .slice a3 len3 cap3, .slice a4 len4 cap4, .int .i64 a5] w fun e w' => e = .returned (.bool true) ∧ Below w.heap.size w w' := by
  obtain ⟨D, rfl, RX⟩ := rd_row w3
  obtain ⟨l, RL, hlw⟩ := rdI_row2 w4
  have el : len4 = l.length := by
    obtain ⟨_, _, e⟩ := RL.form
    simp at e
    exact e.2.1
  subst el
  have HX : Hid (Rd w (.slice a3 D.length cap3) D) := RX
  have HL : Hid (RdI w (.slice a4 l.length cap4) l) := RL
  clear RX RL hlw w3 w4
  have KSm := fun W => @small15_any W c0 w0 _ rfl
  have KC := fun W => @lcheck_any W c0 w0 _ rfl
  have EQAG : ∀ k m z s t o : Int, aggG ⟨k, m, z, s, t, o⟩ = .agg #[.int .i64 k, .int .i64 m, .int .i64 z, .int .i64 s, .int .i64 t, .int .i64 o] := fun _ _ _ _ _ _ => rfl
  by_cases hsm : smG c0
  rotate_left
  · rw [decide_eq_false hsm] at KSm
    clear hsm
    obtain ⟨k, m, z, s, t, o⟩ := c0
    have LB := geo_laid w ⟨k, m, z, s, t, o⟩ 24
    rw [EQAG] at KSm KC ⊢
    go_enter Tryz.func5, Tryz.ntmps5
    go_wp2_with fail
    obtain ⟨W0, hW0⟩ : ∃ W0, W0 = w.alloc (.cells (cellsG ⟨k, m, z, s, t, o⟩) 24) := ⟨_, rfl⟩
    rw [← hW0] at LB
    refine awake15_any.mono ?_
    rintro e v0 ⟨rfl, b0⟩
    have B0 : Below W0.heap.size W0 v0 := by rw [hW0]; exact b0
    clear hW0 b0
    go_wp2_with fail
    refine (new_any _).mono ?_
    rintro _ v1 ⟨rfl, F, O1⟩
    have B1 := B0.stepL O1.below B0.size
    obtain ⟨fb, hfb⟩ : ∃ fb, Hid (fb = v0.heap.size) := ⟨_, rfl⟩
    rw [← hfb.out] at F ⊢
    clear O1 B0
    obtain ⟨⟨x0, x1, x2, x3, x4, x5⟩, F1⟩ := LB _ B1
    simp only at x0 x1 x2 x3 x4 x5
    go_wp2_with fail
    refine (KSm _).mono ?_
    rintro _ v2 ⟨rfl, c2⟩
    have B2 := B1.stepL c2 B1.size
    have FF := F.belowF c2
    clear c2 B1 F F1 KSm x0 x1 x2 x3 x4 x5
    obtain ⟨⟨x0, x1, x2, x3, x4, x5⟩, F2⟩ := LB _ B2
    simp only at x0 x1 x2 x3 x4 x5
    clear B2 LB
    go_wp2
    go_ret
    exact ⟨rfl, F2⟩
  rw [decide_eq_true hsm] at KSm
  by_cases hok : okG c0
  rotate_left
  · rw [show chG c0 = 50 from if_neg hok] at KC
    clear hsm hok
    obtain ⟨k, m, z, s, t, o⟩ := c0
    have LB := geo_laid w ⟨k, m, z, s, t, o⟩ 24
    rw [EQAG] at KSm KC ⊢
    go_enter Tryz.func5, Tryz.ntmps5
    go_wp2_with fail
    obtain ⟨W0, hW0⟩ : ∃ W0, W0 = w.alloc (.cells (cellsG ⟨k, m, z, s, t, o⟩) 24) := ⟨_, rfl⟩
    rw [← hW0] at LB
    refine awake15_any.mono ?_
    rintro e v0 ⟨rfl, b0⟩
    have B0 : Below W0.heap.size W0 v0 := by rw [hW0]; exact b0
    clear hW0 b0
    go_wp2_with fail
    refine (new_any _).mono ?_
    rintro _ v1 ⟨rfl, F, O1⟩
    have B1 := B0.stepL O1.below B0.size
    obtain ⟨fb, hfb⟩ : ∃ fb, Hid (fb = v0.heap.size) := ⟨_, rfl⟩
    rw [← hfb.out] at F ⊢
    clear O1 B0
    obtain ⟨⟨x0, x1, x2, x3, x4, x5⟩, F1⟩ := LB _ B1
    simp only at x0 x1 x2 x3 x4 x5
    go_wp2_with fail
    refine (KSm _).mono ?_
    rintro _ v2 ⟨rfl, c2⟩
    have B2 := B1.stepL c2 B1.size
    have FF := F.belowF c2
    clear c2 B1 F F1 KSm x0 x1 x2 x3 x4 x5
    obtain ⟨⟨x0, x1, x2, x3, x4, x5⟩, F2⟩ := LB _ B2
    simp only at x0 x1 x2 x3 x4 x5
    go_wp2_with fail
    refine (KC _).mono ?_
    rintro _ v3 ⟨rfl, c3⟩
    have FB : Hid (Below w.heap.size w v3) := F2.stepL c3 F2.size
    clear c3 B2 F2 LB KC x0 x1 x2 x3 x4 x5
    go_wp2
    go_ret
    exact ⟨rfl, FB.out⟩
  rw [show chG c0 = 0 from if_pos hok] at KC
  by_cases h3 : l.length > 10
  · have h3' : (l.length : Int) > 10 := by omega
    clear hsm hok
    obtain ⟨k, m, z, s, t, o⟩ := c0
    have LB := geo_laid w ⟨k, m, z, s, t, o⟩ 24
    rw [EQAG] at KSm KC ⊢
    go_enter Tryz.func5, Tryz.ntmps5
    go_wp2_with fail
    obtain ⟨W0, hW0⟩ : ∃ W0, W0 = w.alloc (.cells (cellsG ⟨k, m, z, s, t, o⟩) 24) := ⟨_, rfl⟩
    rw [← hW0] at LB
    refine awake15_any.mono ?_
    rintro e v0 ⟨rfl, b0⟩
    have B0 : Below W0.heap.size W0 v0 := by rw [hW0]; exact b0
    clear hW0 b0
    go_wp2_with fail
    refine (new_any _).mono ?_
    rintro _ v1 ⟨rfl, F, O1⟩
    have B1 := B0.stepL O1.below B0.size
    obtain ⟨fb, hfb⟩ : ∃ fb, Hid (fb = v0.heap.size) := ⟨_, rfl⟩
    rw [← hfb.out] at F ⊢
    clear O1 B0
    obtain ⟨⟨x0, x1, x2, x3, x4, x5⟩, F1⟩ := LB _ B1
    simp only at x0 x1 x2 x3 x4 x5
    go_wp2_with fail
    refine (KSm _).mono ?_
    rintro _ v2 ⟨rfl, c2⟩
    have B2 := B1.stepL c2 B1.size
    have FF := F.belowF c2
    clear c2 B1 F F1 KSm x0 x1 x2 x3 x4 x5
    obtain ⟨⟨x0, x1, x2, x3, x4, x5⟩, F2⟩ := LB _ B2
    simp only at x0 x1 x2 x3 x4 x5
    go_wp2_with fail
    refine (KC _).mono ?_
    rintro _ v3 ⟨rfl, c3⟩
    have FB : Hid (Below w.heap.size w v3) := F2.stepL c3 F2.size
    clear c3 B2 F2 LB KC x0 x1 x2 x3 x4 x5
    go_wp2
    go_ret
    exact ⟨rfl, FB.out⟩
  have zz := okG_nat hok
  have sec := sec_in hok
  obtain ⟨n, hn⟩ : ∃ n, Hid (n = nT c0) := ⟨_, rfl⟩
  obtain ⟨sc, hsc⟩ : ∃ sc, Hid (sc = secG c0) := ⟨_, rfl⟩
  rw [← hsc.out] at sec
  have n1 : 1 ≤ n ∧ n ≤ 32 := by rw [hn.out]; exact ⟨nT_pos hok, zz.2.2.2.2.1⟩
  have KZ := fun W => @lsec_any W c0 w0 _ hsc.out.symm
  have KN := fun W => @anew_is W (n : Int) sc n rfl n1.1 n1.2 sec.2.1 sec.2.2 sc.toNat rfl
  have ekm : c0.k + c0.m = (n : Int) := by rw [hn.out]; exact zz.2.2.2.2.2.2.2.symm
  obtain ⟨A0, hA0⟩ : ∃ A0, Hid (A0 = newA n sc.toNat) := ⟨_, rfl⟩
  have HWr : Hid (∀ st, 0 ≤ st → st < c0.s → ∀ i, i < nT c0 → WrT A0 c0 st i) := fun st h1 h2 i hi => by
    rw [hA0.out, hn.out, hsc.out]
    exact new_all hok h1 h2 i hi
  have HCalm : Hid (Gf.Calm A0) := by rw [hA0.out]; exact calm_new _ _
  have hz := smG_z hsm
  have KN' : ∀ W, Calls Tryz.prog 12 #[.int .i64 (n : Int), .int .i64 sc] W fun e w' => ∃ ab GA, e = .returned (.tuple #[.pointer (some ⟨ab, 0, none⟩), .int .i64 0]) ∧ ArAt w' ab GA A0 ∧ (∀ k, GA k → W.heap.size ≤ k) ∧ Below W.heap.size W w' := fun W => by rw [hA0.out]; exact KN W
  have h3' : ¬ (l.length : Int) > 10 := by omega
  obtain ⟨X1, hX1⟩ : ∃ x, Hid (swX A0 c0 a1 a2 D = x) := ⟨_, rfl⟩
  obtain ⟨A1, hA1⟩ : ∃ x, Hid (swS A0 c0 a1 a2 D = x) := ⟨_, rfl⟩
  have KW1 := fun {W : World} {ab fb : Nat} {GA : Nat → Prop} {N : Nat} (h : StB W N ab fb GA A0) (hp : Rd W (.slice a3 D.length cap3) D) => swrite_is h w0 w1 hp hz hX1.out hA1.out
  have HX1 : Hid (¬ X1 = 0 → X1 = 1) := fun e => by
    rw [← hX1.out] at e ⊢
    exact sw_arg hok HCalm.out (HWr.out a1) e
  obtain ⟨O, hO⟩ : ∃ O, Hid (chsF l n l.length = O) := ⟨_, rfl⟩
  have KCh := fun W (hr : RdI W (.slice a4 l.length cap4) l) => chosen_any hr (by omega) (n := n) (by omega)
  rw [hO.out] at KCh
  have hOi : (∀ x ∈ O, x < n) ∧ O.Nodup ∧ O.length ≤ 10 := by
    have := chsF_in (l := l) (n := n) l.length
    rw [hO.out] at this
    exact ⟨this.1, this.2.1, by omega⟩
  obtain ⟨kd, hkd⟩ : ∃ kd, Hid (a5.tmod 3 = kd) := ⟨_, rfl⟩
  obtain ⟨at_, hat⟩ : ∃ x, Hid (stG c0 a1 = x) := ⟨_, rfl⟩
  have KSt := fun W => @lstripe_any W c0 w0 a1 w1 _ hat.out
  obtain ⟨HR, hHR⟩ : ∃ H : Nat → ArS, Hid (H = hrT kd at_ a5 A1 (O.map fun x : Nat => (x : Int))) := ⟨_, rfl⟩
  have HR0 : Hid (HR 0 = A1) := by show _ = _; rw [hHR.out]; rfl
  have HRs : Hid (∀ r, r < O.length → HR (r + 1) = hdA kd at_ a5 (HR r) ((O.getD r 0 : Nat) : Int)) := fun r hr => by
    rw [hHR.out]
    show hdA _ _ _ _ ((O.map fun x : Nat => (x : Int)).getD r 0) = _
    rw [map_getD hr]
  have BK : Hid (X1 = 0 → (c0.m.toNat < O.length → rtX (HR O.length) c0 a1 a2 = 150 ∧ rtD (HR O.length) c0 a1 a2 = [] ∧ rtB (HR O.length) c0 a1 a2 = []) ∧
      (O.length ≤ c0.m.toNat → rtX (HR O.length) c0 a1 a2 = 0 ∧ rtD (HR O.length) c0 a1 a2 = D ∧ (rtB (HR O.length) c0 a1 a2).length = (if kd = 0 then 0 else O.length) ∧
        fxX (HR O.length) c0 a1 a2 = 0 ∧ fxN (HR O.length) c0 a1 a2 = (rtB (HR O.length) c0 a1 a2).length ∧ rtX (fxS (HR O.length) c0 a1 a2) c0 a1 a2 = 0 ∧ rtD (fxS (HR O.length) c0 a1 a2) c0 a1 a2 = D ∧ rtB (fxS (HR O.length) c0 a1 a2) c0 a1 a2 = [])) := fun e => by
    obtain ⟨hT, hD⟩ := sw_ok (hX1.out.trans e)
    have hw := (whole_write hT hD HCalm.out (HWr.out a1 hT.2.1 hT.2.2.1)).2.1
    rw [hA1.out] at hw
    have := back15 hT hD hw (kind := kd) (at_ := a5) (S := O.map fun x : Nat => (x : Int)) (map_nodup hOi.2.1) (fun d hd => by
      obtain ⟨x, hx, e⟩ := List.mem_map.1 hd
      have h9 := hOi.1 x hx
      rw [hn.out] at h9
      omega) (a' := HR O.length) (by rw [hHR.out, hat.out, List.length_map])
    rw [List.length_map] at this
    exact this
  have em : Hid (((c0.m.toNat : Nat) : Int) = c0.m) := zz.2.1
  have HOn : Hid (∀ x ∈ O, x < n) := hOi.1
  have hol : O.length ≤ 10 := hOi.2.2
  have wat : (Lit.int .i64 at_).wf = true := by
    rw [← hat.out]
    unfold stG
    split
    · rename_i q
      have hs := q.2.1
      have hs2 := q.2.2
      obtain ⟨_, _, _, _, _, o6, o7, o8, o9, _, _⟩ := hok
      exact wf_small (by omega) (by omega)
    · exact wf_small (by decide) (by decide)
  obtain ⟨AF, hAF⟩ : ∃ x, Hid (HR O.length = x) := ⟨_, rfl⟩
  rw [hAF.out] at BK
  obtain ⟨AX, hAX⟩ : ∃ x, Hid (fxS AF c0 a1 a2 = x) := ⟨_, rfl⟩
  rw [hAX.out] at BK
  obtain ⟨RX_, hRX⟩ : ∃ x, Hid (rtX AF c0 a1 a2 = x) := ⟨_, rfl⟩
  obtain ⟨RD_, hRD⟩ : ∃ x, Hid (rtD AF c0 a1 a2 = x) := ⟨_, rfl⟩
  obtain ⟨RB_, hRB⟩ : ∃ x, Hid (rtB AF c0 a1 a2 = x) := ⟨_, rfl⟩
  obtain ⟨FX_, hFX⟩ : ∃ x, Hid (fxX AF c0 a1 a2 = x) := ⟨_, rfl⟩
  obtain ⟨FN_, hFN⟩ : ∃ x, Hid (fxN AF c0 a1 a2 = x) := ⟨_, rfl⟩
  obtain ⟨SX_, hSX⟩ : ∃ x, Hid (rtX AX c0 a1 a2 = x) := ⟨_, rfl⟩
  obtain ⟨SD_, hSD⟩ : ∃ x, Hid (rtD AX c0 a1 a2 = x) := ⟨_, rfl⟩
  obtain ⟨SB_, hSB⟩ : ∃ x, Hid (rtB AX c0 a1 a2 = x) := ⟨_, rfl⟩
  rw [hRX.out, hRD.out, hRB.out, hFX.out, hFN.out, hSX.out, hSD.out, hSB.out] at BK
  have KR1 := fun {W : World} {ab fb : Nat} {GA : Nat → Prop} {N : Nat} (h : StB W N ab fb GA AF) => sread_is h w0 w1 hz hRX.out hRD.out hRB.out
  have KFx := fun {W : World} {ab fb : Nat} {GA : Nat → Prop} {N : Nat} (h : StB W N ab fb GA AF) => sfix_is h w0 w1 hz hFX.out hFN.out hAX.out
  have KR2 := fun {W : World} {ab fb : Nat} {GA : Nat → Prop} {N : Nat} (h : StB W N ab fb GA AX) => sread_is h w0 w1 hz hSX.out hSD.out hSB.out
  clear zz sec hA0 HWr HCalm hX1 hA1 hsm hok hn hsc hz hO hOi hat hHR hAX hRX hRD hRB hFX hFN hSX hSD hSB
  obtain ⟨k, m, z, s, t, o⟩ := c0
  have LB := geo_laid w ⟨k, m, z, s, t, o⟩ 24
  rw [EQAG] at KSm KC KZ KW1 KSt KR1 KR2 KFx ⊢
  simp only at BK em
  have gk : IntKind.i64.wrap (k + m) = (n : Int) := by simp only at ekm; rw [ekm, IntKind.wrap_i64]; omega
  have gn : IntKind.i64.wrap (n : Int) = (n : Int) := by rw [IntKind.wrap_i64]; omega
  clear ekm
  go_enter Tryz.func5, Tryz.ntmps5
  go_wp2_with fail
  obtain ⟨W0, hW0⟩ : ∃ W0, W0 = w.alloc (.cells (cellsG ⟨k, m, z, s, t, o⟩) 24) := ⟨_, rfl⟩
  rw [← hW0] at LB
  refine awake15_any.mono ?_
  rintro e v0 ⟨rfl, b0⟩
  have B0 : Below W0.heap.size W0 v0 := by rw [hW0]; exact b0
  clear hW0 b0
  go_wp2_with fail
  refine (new_any _).mono ?_
  rintro _ v1 ⟨rfl, F, O1⟩
  have B1 := B0.stepL O1.below B0.size
  obtain ⟨fb, hfb⟩ : ∃ fb, Hid (fb = v0.heap.size) := ⟨_, rfl⟩
  rw [← hfb.out] at F ⊢
  clear O1 B0
  obtain ⟨⟨x0, x1, x2, x3, x4, x5⟩, F1⟩ := LB _ B1
  simp only at x0 x1 x2 x3 x4 x5
  go_wp2_with fail
  refine (KSm _).mono ?_
  rintro _ v2 ⟨rfl, c2⟩
  have B2 := B1.stepL c2 B1.size
  have FF := F.belowF c2
  clear c2 B1 F F1 KSm x0 x1 x2 x3 x4 x5
  obtain ⟨⟨x0, x1, x2, x3, x4, x5⟩, F2⟩ := LB _ B2
  simp only at x0 x1 x2 x3 x4 x5
  go_wp2_with fail
  refine (KC _).mono ?_
  rintro _ v3 ⟨rfl, c3⟩
  have B3 := B2.stepL c3 B2.size
  have F3' := FF.belowF c3
  clear c3 B2 F2 FF KC x0 x1 x2 x3 x4 x5
  obtain ⟨⟨x0, x1, x2, x3, x4, x5⟩, F3⟩ := LB _ B3
  simp only at x0 x1 x2 x3 x4 x5
  go_wp2_with fail
  refine (KZ _).mono ?_
  rintro _ v4 ⟨rfl, c4⟩
  have B4 := B3.stepL c4 B3.size
  have F4' := F3'.belowF c4
  clear c4 B3 F3 F3' x0 x1 x2 x3 x4 x5
  obtain ⟨⟨x0, x1, x2, x3, x4, x5⟩, F4⟩ := LB _ B4
  simp only at x0 x1 x2 x3 x4 x5
  go_wp2_with fail
  refine (KN' _).mono ?_
  rintro _ v5 ⟨ab, G5, rfl, A5, H5, c5⟩
  have B5 := B4.stepL c5 B4.size
  have S5 : StB v5 W0.heap.size ab fb G5 A0 := ⟨⟨A5, fun q hq => Nat.le_trans B4.size (H5 q hq), B5.size⟩, F4'.belowF c5, fun q => by have := H5 _ q; have := F4'.lt; omega⟩
  clear c5 B4 F4 A5 H5 F4' KZ KN KN' x0 x1 x2 x3 x4 x5
  obtain ⟨⟨x0, x1, x2, x3, x4, x5⟩, F5⟩ := LB _ B5
  simp only at x0 x1 x2 x3 x4 x5
  have K6 := KW1 S5 (HX.out.below F5)
  go_wp2_with fail
  refine K6.mono ?_
  rintro _ v6 ⟨rfl, G6, A6, g6⟩
  have S6 := S5.grew A6 g6
  have B6 := B5.trans (S5.bel g6)
  clear K6 A6 g6 S5 B5 F5 x0 x1 x2 x3 x4 x5 KW1
  obtain ⟨⟨x0, x1, x2, x3, x4, x5⟩, F6⟩ := LB _ B6
  simp only at x0 x1 x2 x3 x4 x5
  by_cases hx1 : X1 = 0
  rotate_left
  · have e1 := HX1.out hx1
    clear KR1 KR2 KFx KCh KSt HX1 BK hx1
    subst e1
    clear x0 x1 x2 x3 x4 x5 S6
    go_wp2
    go_ret
    exact ⟨rfl, F6⟩
  replace BK : Hid _ := BK.out hx1
  clear HX1
  subst hx1
  have K7 := KCh _ (HL.out.below F6)
  clear KCh
  go_wp2_with fail
  refine K7.mono ?_
  rintro _ v7 ⟨vo, rfl, O7, c7⟩
  have S7 := S6.below c7
  have B7 := B6.stepL c7 B6.size
  have T7 : ToldI v7 G6 vo O := ToldI.of_own O7 S6.D.at_.lt
  obtain ⟨oa, oc, rfl⟩ := T7.form
  have START : Hid (∃ G', StB v7 W0.heap.size ab fb G' (HR 0) ∧ ToldI v7 G' (.slice oa O.length oc) O ∧ Below W0.heap.size W0 v7) := ⟨G6, by rw [HR0.out]; exact S7, T7, B7⟩
  clear K7 O7 c7 S6 S7 B6 B7 F6 x0 x1 x2 x3 x4 x5 T7 HR0
  go_wp2
  go_loopw [20] (fun i wr => ∃ r : Nat, r ≤ O.length ∧ i = .int .i64 (r : Int) ∧ ∃ G', StB wr W0.heap.size ab fb G' (HR r) ∧ ToldI wr G' (.slice oa O.length oc) O ∧ Below W0.heap.size W0 wr) (fun i _ => O.length - (intOf i).toNat)
  case atStart => exact ⟨0, Nat.zero_le _, rfl, START.out⟩
  case round =>
    clear START
    obtain ⟨r, hr, rfl, G', hS, hT, hB⟩ := hrel
    by_cases hlt : r < O.length
    · have hlt' : (r : Int) < (O.length : Int) := by omega
      have g1 : IntKind.i64.wrap ((r : Int) + 1) = ((r + 1 : Nat) : Int) := by rw [IntKind.wrap_i64]; omega
      obtain ⟨ob, rfl, obl, obg, co⟩ := hT.at hlt
      obtain ⟨q, hq⟩ : ∃ q, Hid (O.getD r 0 = q) := ⟨_, rfl⟩
      rw [hq.out] at co
      have wq : (Lit.int .i64 (q : Int)).wf = true := by
        have := HOn.out _ (getD_memN hlt)
        rw [hq.out] at this
        exact wf_small (by omega) (by omega)
      have HS : Hid (HR (r + 1) = hdA kd at_ a5 (HR r) (q : Int)) := by show _ = _; rw [HRs.out r hlt, hq.out]
      have NEXT : Hid (∀ {v9 : World} {G9 : Nat → Prop}, ArAt v9 ab G9 (hdA kd at_ a5 (HR r) (q : Int)) → Grew G' wr G9 v9 → ∃ G', StB v9 W0.heap.size ab fb G' (HR (r + 1)) ∧ ToldI v9 G' (.slice (some ⟨ob, 0, none⟩) O.length oc) O ∧ Below W0.heap.size W0 v9) := fun {v9 G9} A9 g9 => ⟨G9, by rw [HS.out]; exact hS.grew A9 g9, hT.grew g9, hB.trans (hS.bel g9)⟩
      obtain ⟨⟨x0, x1, x2, x3, x4, x5⟩, FR⟩ := LB _ hB
      simp only at x0 x1 x2 x3 x4 x5
      have wk : IntKind.i64.wrap kd = kd := by
        rw [← hkd.out, IntKind.wrap_i64]
        have q1 := Int.tmod_lt_of_pos a5 (b := 3) (by decide)
        have q2 := Int.lt_tmod_of_pos a5 (b := 3) (by decide)
        omega
      have hk := hkd.out
      by_cases k0 : kd = 0
      · have E : Hid (∀ x, hdA kd at_ a5 (HR r) x = faAS (HR r) x) := fun x => if_pos k0
        have K9 := afail_any hS.D.at_ wq
        rw [← E.out] at K9
        rw [k0] at hk
        clear hS hT hB E
        go_wp2_with fail
        refine K9.mono ?_
        rintro _ v9 ⟨rfl, G9, A9, g9⟩
        have E9 : Hid _ := NEXT.out A9 g9
        clear K9 A9 g9 NEXT co x0 x1 x2 x3 x4 x5 hk
        go_wp2
        go_roundw
        case rel => exact ⟨r + 1, by omega, by go_num, E9.out⟩
        case measure => simp [intOf]; omega
      by_cases k1 : kd = 1
      · have E : Hid (∀ x, hdA kd at_ a5 (HR r) x = rpAS (HR r) x) := fun x => by unfold hdA; rw [if_neg k0, if_pos k1]
        have K9 := arepl_any hS.D.at_ wq
        rw [← E.out] at K9
        rw [k1] at hk
        clear hS hT hB E
        go_wp2_with fail
        refine K9.mono ?_
        rintro _ v9 ⟨rfl, G9, A9, g9⟩
        have E9 : Hid _ := NEXT.out A9 g9
        clear K9 A9 g9 NEXT co x0 x1 x2 x3 x4 x5 hk
        go_wp2
        go_roundw
        case rel => exact ⟨r + 1, by omega, by go_num, E9.out⟩
        case measure => simp [intOf]; omega
      · have E : Hid (∀ x, hdA kd at_ a5 (HR r) x = coAS (HR r) x at_ a5 1) := fun x => by unfold hdA; rw [if_neg k0, if_neg k1]
        have k0' : (kd == 0) = false := beq_eq_false_iff_ne.2 k0
        have k1' : (kd == 1) = false := beq_eq_false_iff_ne.2 k1
        have HS2 : Hid (StB wr W0.heap.size ab fb G' (HR r)) := hS
        have BD : Below wr.heap.size wr wr.drew := (Below.refl _ _).drew
        have KCo : ∀ W, Below wr.heap.size wr W → Calls Tryz.prog 22 #[.pointer (some ⟨ab, 0, none⟩), .int .i64 (q : Int), .int .i64 at_, .int .i64 a5, .int .u8 1] W (LeavesA W ab G' (hdA kd at_ a5 (HR r) (q : Int)) (.int .i64 (coAX (HR r) (q : Int) at_))) := fun W b => by
          have := acorr_any (HS2.out.D.at_.below b) wq wat w5 (1 : UInt8)
          rw [← E.out] at this
          exact this
        have SG : Hid (∀ W, Below wr.heap.size wr W → W.cell? ⟨ob, r, none⟩ = some (.int .i64 (q : Int)) ∧ W.cell? ⟨w.heap.size, 0, none⟩ = some (.int .i64 k) ∧ W.cell? ⟨w.heap.size, 1, none⟩ = some (.int .i64 m) ∧ W.cell? ⟨w.heap.size, 2, none⟩ = some (.int .i64 z) ∧ W.cell? ⟨w.heap.size, 3, none⟩ = some (.int .i64 s) ∧ W.cell? ⟨w.heap.size, 4, none⟩ = some (.int .i64 t) ∧ W.cell? ⟨w.heap.size, 5, none⟩ = some (.int .i64 o)) := fun W b => ⟨(b.cell (p := ⟨ob, r, none⟩) obl).trans co, (LB _ (hB.stepL b hB.size)).1⟩
        have s0 := SG.out wr (Below.refl _ _)
        have sD := SG.out _ BD
        have SG9 : Hid (∀ {W v9 : World} {G9 : Nat → Prop}, Below wr.heap.size wr W → Grew G' W G9 v9 → v9.cell? ⟨ob, r, none⟩ = some (.int .i64 (q : Int)) ∧ v9.cell? ⟨w.heap.size, 0, none⟩ = some (.int .i64 k) ∧ v9.cell? ⟨w.heap.size, 1, none⟩ = some (.int .i64 m) ∧ v9.cell? ⟨w.heap.size, 2, none⟩ = some (.int .i64 z) ∧ v9.cell? ⟨w.heap.size, 3, none⟩ = some (.int .i64 s) ∧ v9.cell? ⟨w.heap.size, 4, none⟩ = some (.int .i64 t) ∧ v9.cell? ⟨w.heap.size, 5, none⟩ = some (.int .i64 o)) := fun {W v9 G9} b g9 => by
          have sw := SG.out _ b
          refine ⟨(g9.turn.cell (p := ⟨ob, r, none⟩) (Nat.lt_of_lt_of_le obl b.size) obg).trans sw.1, (LB v9 ?_).1⟩
          exact (hB.stepL b hB.size).trans (g9.below HS2.out.D.low (Nat.le_trans hB.size b.size))
        clear hS hT E
        go_wp2_with fail
        go_region_held3 (fun wx => wx.cell? ⟨ob, r, none⟩ = some (.int .i64 (q : Int)) ∧ wx.cell? ⟨w.heap.size, 0, none⟩ = some (.int .i64 k) ∧ wx.cell? ⟨w.heap.size, 1, none⟩ = some (.int .i64 m) ∧ wx.cell? ⟨w.heap.size, 2, none⟩ = some (.int .i64 z) ∧ wx.cell? ⟨w.heap.size, 3, none⟩ = some (.int .i64 s) ∧ wx.cell? ⟨w.heap.size, 4, none⟩ = some (.int .i64 t) ∧ wx.cell? ⟨w.heap.size, 5, none⟩ = some (.int .i64 o)) (first | exact s0 | exact sD | exact s8 | exact s9) (first
          | (go_at_call 23; go_loud (refine (KSt _).mono ?_); rintro _ v8 ⟨rfl, c8⟩; have b8 := BD.stepL c8 BD.size; have s8 := SG.out _ b8)
          | (go_at_call 22; go_loud (refine (KCo _ b8).mono ?_); rintro _ v9 ⟨rfl, G9, A9, g9⟩; have s9 := SG9.out b8 g9))
        have E9 : Hid _ := NEXT.out A9 ((Grew.of_below b8).trans g9)
        clear s0 sD s8 s9 c8 b8 A9 g9 BD NEXT co x0 x1 x2 x3 x4 x5 hk hB KCo SG SG9
        go_wp2
        go_roundw
        case rel => exact ⟨r + 1, by omega, by go_num, E9.out⟩
        case measure => simp [intOf]; omega
    · obtain rfl : r = O.length := by omega
      have hlt' : ¬ (O.length : Int) < (O.length : Int) := by omega
      rw [hAF.out] at hS
      have K10 := KR1 hS
      obtain ⟨⟨x0, x1, x2, x3, x4, x5⟩, FE⟩ := LB _ hB
      simp only at x0 x1 x2 x3 x4 x5
      go_wp2_with fail
      refine K10.mono ?_
      rintro _ v10 ⟨vd, vb, rfl, O10, I10, c10⟩
      have S10 := hS.below c10
      have B10 := hB.stepL c10 hB.size
      have R10 : Rd v10 vd RD_ := Rd.owned O10
      obtain ⟨da, dc, rfl⟩ := R10.form
      obtain ⟨ia, ic, rfl⟩ := I10.form
      obtain ⟨bl, hbl⟩ : ∃ bl, Hid (RB_.length = bl) := ⟨_, rfl⟩
      rw [hbl.out]
      clear K10 O10 I10 c10 hS hT hB x0 x1 x2 x3 x4 x5 KR1 FE
      obtain ⟨⟨x0, x1, x2, x3, x4, x5⟩, F10⟩ := LB _ B10
      simp only at x0 x1 x2 x3 x4 x5
      have hem := em.out
      by_cases hM : O.length ≤ m.toNat
      rotate_left
      · have hM' : (O.length : Int) > m := by omega
        have hM2 : m < (O.length : Int) := hM'
        obtain ⟨q1, q2, q3⟩ := BK.out.1 (by omega)
        clear BK KR2 KFx HRs R10 hem hM q3
        subst q1 q2
        clear S10
        go_wp2
        go_ret
        exact ⟨rfl, F10⟩
      have hM' : ¬ (O.length : Int) > m := by omega
      obtain ⟨q1, q2, q3', q4, q5', q6, q7, q8⟩ := BK.out.2 hM
      have Q3 : Hid (bl = if kd = 0 then 0 else O.length) := by rw [hbl.out] at q3'; exact q3'
      have Q5 : Hid (FN_ = bl) := by rw [hbl.out] at q5'; exact q5'
      have Q4 : Hid (FX_ = 0) := q4
      have Q6 : Hid (SX_ = 0) := q6
      have q8' : Hid (SB_ = []) := q8
      clear BK HRs hem q3' q4 q5' q6 q7 q8 hbl
      subst q1 q2
      go_wp2_with fail
      refine (same15 R10 (HX.out.below F10) (x := true) (sameB_self _)).mono ?_
      rintro _ v11 ⟨rfl, c11⟩
      have S11 := S10.below c11
      have B11 := B10.stepL c11 B10.size
      clear R10 c11 S10 B10 F10 x0 x1 x2 x3 x4 x5
      obtain ⟨⟨x0, x1, x2, x3, x4, x5⟩, F11⟩ := LB _ B11
      simp only at x0 x1 x2 x3 x4 x5
      have K12 := KFx S11
      have hk := hkd.out
      have wk : IntKind.i64.wrap kd = kd := by
        rw [← hkd.out, IntKind.wrap_i64]
        have q1 := Int.tmod_lt_of_pos a5 (b := 3) (by decide)
        have q2 := Int.lt_tmod_of_pos a5 (b := 3) (by decide)
        omega
      have q3 := Q3.out
      have q5 := Q5.out
      have q4 := Q4.out
      have q6 := Q6.out
      clear Q3 Q4 Q5 Q6
      subst q4 q5 q6
      have FINB : Hid True := trivial
      by_cases k0 : kd = 0
      · rw [if_pos k0] at q3
        rw [k0] at hk
        subst q3
        go_wp2_with fail
        refine K12.mono ?_
        rintro _ v12 ⟨rfl, G12, A12, g12⟩
        have S12 := S11.grew A12 g12
        have B12 := B11.trans (S11.bel g12)
        clear K12 A12 g12 S11 B11 F11 x0 x1 x2 x3 x4 x5 KFx
        obtain ⟨⟨x0, x1, x2, x3, x4, x5⟩, F12⟩ := LB _ B12
        simp only at x0 x1 x2 x3 x4 x5
        have K13 := KR2 S12
        go_wp2_with fail
        refine K13.mono ?_
        rintro _ v13 ⟨vd13, vb13, rfl, O13, I13, c13⟩
        have FB : Hid (Below w.heap.size w v13) := F12.stepL c13 F12.size
        obtain ⟨d13, e13, rfl⟩ := owns_slice O13
        rw [q8'.out] at I13
        obtain ⟨i13, j13, rfl⟩ := I13.form
        clear K13 O13 I13 c13 S12 B12 F12 x0 x1 x2 x3 x4 x5 KR2
        go_wp2
        go_ret
        exact ⟨rfl, FB.out⟩
      · rw [if_neg k0] at q3
        have k0' : (kd == 0) = false := beq_eq_false_iff_ne.2 k0
        have k0'' : (kd != 0) = true := by simp [k0]
        subst q3
        go_wp2_with fail
        refine K12.mono ?_
        rintro _ v12 ⟨rfl, G12, A12, g12⟩
        have S12 := S11.grew A12 g12
        have B12 := B11.trans (S11.bel g12)
        clear K12 A12 g12 S11 B11 F11 x0 x1 x2 x3 x4 x5 KFx
        obtain ⟨⟨x0, x1, x2, x3, x4, x5⟩, F12⟩ := LB _ B12
        simp only at x0 x1 x2 x3 x4 x5
        have K13 := KR2 S12
        go_wp2_with fail
        refine K13.mono ?_
        rintro _ v13 ⟨vd13, vb13, rfl, O13, I13, c13⟩
        have FB : Hid (Below w.heap.size w v13) := F12.stepL c13 F12.size
        obtain ⟨d13, e13, rfl⟩ := owns_slice O13
        rw [q8'.out] at I13
        obtain ⟨i13, j13, rfl⟩ := I13.form
        clear K13 O13 I13 c13 S12 B12 F12 x0 x1 x2 x3 x4 x5 KR2
        go_wp2
        go_ret
        exact ⟨rfl, FB.out⟩

/-! ### THE ROW's STEP: WRITTEN OUT: LEAVE IT -/
set_option maxRecDepth 100000 in
set_option maxHeartbeats 2000000 in
theorem lifted (os : Os) (started : os.Started) (H : Type) (enc : TypeId × Value → H) :
    ReturnsInHanded {} Tryz.checked os 5 .any (Rows.stripeioBackSpec.pre6 enc Tryz.prog Tryz.f5 Rows.stripeioBackRow.domain false) (Rows.stripeioBackSpec.post enc Tryz.prog Tryz.f5 false true false false) := by
  refine returnsInHanded_of_change (C := Tryz.checked) own started (by kernel_rfl) Tryz.func5
    (ChangeSpec.witness6 (enc := enc) (C := Tryz.checked) false ⟨#[], #[.agg #[.int .i64 0, .int .i64 0, .int .i64 0, .int .i64 0, .int .i64 0, .int .i64 0], .int .i64 0, .int .i64 0, .slice none 0 0, .slice none 0 0, .int .i64 0], []⟩ 8 (by kernel_rfl) (by kernel_rfl) (by kernel_rfl) (by kernel_rfl)) ?_
  intro W base args ds gs before hval0 hW hcnd _
  have hval : ∀ (j : Nat) t v, Tryz.f5.params[j]? = some t → args[j]? = some v → Value.okWide Tryz.prog W .any base t v := hval0
  have hW' := hW
  obtain ⟨p, q, hA0, hV, rfl, hfz, hnd⟩ := hW
  have hA : DataW.TrodAll enc Tryz.prog W 0 (fun _ => true) true Tryz.f5.params.toList args.toList ds p := hA0
  rw [Tryz.params5] at hA hval
  obtain ⟨v0, vs0, d0, ds0, p0, q0, hargs, rfl, rfl, h0, r0⟩ := trodAll_cons hA
  obtain ⟨v1, vs1, d1, ds1, p1, q1, rfl, rfl, rfl, h1, r1⟩ := trodAll_cons r0
  obtain ⟨v2, vs2, d2, ds2, p2, q2, rfl, rfl, rfl, h2, r2⟩ := trodAll_cons r1
  obtain ⟨v3, vs3, d3, ds3, p3, q3, rfl, rfl, rfl, h3, r3⟩ := trodAll_cons r2
  obtain ⟨v4, vs4, d4, ds4, p4, q4, rfl, rfl, rfl, h4, r4⟩ := trodAll_cons r3
  obtain ⟨v5, vs5, d5, ds5, p5, q5, rfl, rfl, rfl, h5, r5⟩ := trodAll_cons r4
  obtain ⟨rfl, rfl, rfl⟩ := trodAll_nil r5
  obtain rfl : args = #[v0, v1, v2, v3, v4, v5] := by cases args; simp_all
  obtain ⟨rfl, rfl⟩ := trodVars_none hV
  have k0 := h0
  have lt0 : ∀ x ∈ p0, x.block < W.heap.size := by obtain ⟨m, hm⟩ := k0; exact DataW.trod_lt m _ _ _ hm
  obtain ⟨c0, rfl, w0⟩ := open_geo Tryz.underlying24 (by kernel_rfl) rfl rfl rfl rfl rfl rfl (by kernel_rfl) (by kernel_rfl) (by kernel_rfl) (by kernel_rfl) (by kernel_rfl) (by kernel_rfl) (by kernel_rfl) (by kernel_rfl) (by kernel_rfl) (by kernel_rfl) (by kernel_rfl) (by kernel_rfl) (hval 0 24 v0 rfl rfl) h0
  obtain ⟨a1, rfl, rfl, rfl, w1⟩ := open_int Tryz.underlying3 (hval 1 3 v1 rfl rfl) h1
  obtain ⟨a2, rfl, rfl, rfl, w2⟩ := open_int Tryz.underlying3 (hval 2 3 v2 rfl rfl) h2
  obtain ⟨a3, len3, cap3, rfl⟩ := okWide_slice Tryz.underlying36 (hval 3 36 v3 rfl rfl)
  have k3 := h3
  have lt3 : ∀ x ∈ p3, x.block < W.heap.size := by obtain ⟨m, hm⟩ := k3; exact DataW.trod_lt m _ _ _ hm
  obtain ⟨z3, w3⟩ : ∃ zs, IsRow .u8 W a3 len3 cap3 zs := by
    obtain ⟨fuel, hf⟩ := h3
    rcases open_ints Tryz.underlying36 Tryz.underlying5 (by kernel_rfl) hf with ⟨hcs, _⟩ | ⟨x, l, c, zs, hcs, _, hl, hm, hz, _, hcell, hwz⟩
    · simp [Value.cells] at hcs
      obtain ⟨rfl, rfl, rfl⟩ := hcs
      exact ⟨[], .inl ⟨rfl, rfl, rfl, rfl⟩⟩
    · simp [Value.cells] at hcs
      obtain ⟨rfl, rfl, rfl⟩ := hcs
      exact ⟨zs, .inr ⟨_, rfl, hl, hm, by simpa using hz, hcell, hwz⟩⟩
  obtain ⟨a4, len4, cap4, rfl⟩ := okWide_slice Tryz.underlying45 (hval 4 45 v4 rfl rfl)
  have k4 := h4
  have lt4 : ∀ x ∈ p4, x.block < W.heap.size := by obtain ⟨m, hm⟩ := k4; exact DataW.trod_lt m _ _ _ hm
  obtain ⟨z4, w4⟩ : ∃ zs, IsRow .i64 W a4 len4 cap4 zs := by
    obtain ⟨fuel, hf⟩ := h4
    rcases open_ints Tryz.underlying45 Tryz.underlying3 (by kernel_rfl) hf with ⟨hcs, _⟩ | ⟨x, l, c, zs, hcs, _, hl, hm, hz, _, hcell, hwz⟩
    · simp [Value.cells] at hcs
      obtain ⟨rfl, rfl, rfl⟩ := hcs
      exact ⟨[], .inl ⟨rfl, rfl, rfl, rfl⟩⟩
    · simp [Value.cells] at hcs
      obtain ⟨rfl, rfl, rfl⟩ := hcs
      exact ⟨zs, .inr ⟨_, rfl, hl, hm, by simpa using hz, hcell, hwz⟩⟩
  obtain ⟨a5, rfl, rfl, rfl, w5⟩ := open_int Tryz.underlying3 (hval 5 3 v5 rfl rfl) h5
  clear hA0 hval0
  refine (walk c0 a1 a2 a3 len3 cap3 z3 a4 len4 cap4 z4 a5 W w0 w1 w2 w3 w4 w5).mono fun e W' ⟨he, bel⟩ => ?_
  subst he
  exact ⟨_, rfl, _, _, _, [], _, [], hW', trodAll_mk1 (shut_bool Tryz.underlying4 _), (trodAll_cons_mk (Below.trod laidOut (by kernel_rfl) (of_decide_eq_true (by kernel_rfl)) k0 bel lt0) (trodAll_cons_mk (shut_int Tryz.underlying3 w1) (trodAll_cons_mk (shut_int Tryz.underlying3 w2) (trodAll_cons_mk (Below.trod laidOut (by kernel_rfl) (of_decide_eq_true (by kernel_rfl)) k3 bel lt3) (trodAll_cons_mk (Below.trod laidOut (by kernel_rfl) (of_decide_eq_true (by kernel_rfl)) k4 bel lt4) (trodAll_cons_mk (shut_int Tryz.underlying3 w5) trodAll_mk0)))))), rfl, bel.frame _, fun h => by cases h⟩

theorem over : Rows.stripeioBackRow.holds Tryz.pinned (OpenSpec.ofChange Rows.stripeioBackSpec) :=
  OpenClaim.holds_of_wide 5 Tryz.f5 rfl rfl rfl rfl rfl rfl rfl ⟨rfl, rfl, rfl, rfl, rfl⟩ rfl rfl rfl rfl rfl (by kernel_rfl) Tryz.func5 (by kernel_rfl)
    (of_decide_eq_true (by kernel_rfl)) (by unfold Func.isWrapper; first | (rw [if_pos (by decide +kernel)]; kernel_rfl) | (rw [if_neg (by decide +kernel)]; exact ⟨rfl, rfl⟩))
    (fun os started H enc _ => lifted os started H enc)

/-- ████ THE STATEMENT ████ -/
theorem proved : Rows.StripeioBackSaid := over
end Go.Proofs.YtddnfhfangfgeaaGreat.stripeioBack
namespace Go.Proofs.YtddnfhfangfgeaaGreat
theorem stripeioBack_holds : Rows.StripeioBackSaid := stripeioBack.proved
#print axioms stripeioBack_holds
end Go.Proofs.YtddnfhfangfgeaaGreat
