/- TEXTS JOINED: StSm. -/
import Derived.Below
import Derived.OpenShut
import Derived.Lib.SmallJoins
import Derived.Test.YtddnfhfangfgeaaGreatChecked
import GoSem.Claim
import GoSem.ClaimJoined
import GoSem.ClaimMapViews
import Derived.JoinedTies
import Derived.KernelRfl
import Derived.WalkKit
import Derived.Deep.QuietTactic
import Derived.BigQuiet
import Derived.WalkLawsBesides
import Derived.WalkSpells
import Derived.Laws.CopyOwn
import Derived.Deep.AppendLies
import Derived.Deep.OwnRows
import Derived.Laws.AppendOwnNone
import Derived.Deep.RegionHeld3
import Derived.WalkMore
import Derived.Deep.RegionLaw
import Derived.Deep.RegionWith
import Derived.Deep.CutRange
import Derived.Deep.Slices
import Derived.Maps.OwnSet
import Derived.Maps.Ext
import Derived.Lib.SliceRun
import Derived.Maps.RangeWalk
import Derived.Shelf.SlIterI.Nil
import Derived.Shelf.SortM.Plain
import Derived.Shelf.SortM.SortNone
import Derived.Ground.GgzProg
import Derived.Ground.SlgmProg
import Derived.Laws.BytesArg
import Derived.RangeFuncBox
import Derived.RangeFuncLeaves
import Derived.RangeFuncNested
import Derived.RangeFuncBound
import Derived.RangeFuncCalls
import Derived.Shelf.Abstract
import Derived.Shelf.RegionOpen
import Derived.OwnWalkIn
import Derived.TacticsInMore
import Derived.LoopNIn
import Derived.LoopIn
import Derived.Maps.AppendAt
import Derived.Laws.EntriesVeiled
import Derived.Test.YtddnfhfangfgeaaGreatRows
import Derived.Test.YtddnfhfangfgeaaGreatTome36
import Derived.Test.YtddnfhfangfgeaaGreatTome10
import Derived.Test.YtddnfhfangfgeaaGreatTome34
import Derived.Test.YtddnfhfangfgeaaGreatTome37
import Derived.Test.YtddnfhfangfgeaaGreatTome38
import Derived.Test.YtddnfhfangfgeaaGreatTome46
namespace Go.Proofs.YtddnfhfangfgeaaGreat.Gf
set_option linter.unusedVariables false
set_option linter.unusedSimpArgs false
open Go.RowKit
/-- at most seven disks, eight bytes a shard, twenty stripes, or none at all -/
def smG (g : GeoS) : Prop := ¬ okG g ∨ (g.k + g.m ≤ 7 ∧ g.z ≤ 8 ∧ g.s ≤ 20)
instance (g : GeoS) : Decidable (smG g) := inferInstanceAs (Decidable (_ ∨ _))
theorem smG_z {g : GeoS} (h : smG g) : okG g → g.z ≤ 300 := fun ok => by
  have := h.resolve_left (fun q => q ok)
  omega
set_option maxRecDepth 100000 in
set_option maxHeartbeats 1000000 in
theorem small15_any {w : World} {g : GeoS} (hg : g.Wf) {x : Bool} (hx : decide (smG g) = x) : Calls Tryz.prog 11 #[aggG g] w fun e w' => e = .returned (.bool x) ∧ Below w.heap.size w w' := by
  have KC := fun W => @lcheck_any W g hg _ rfl
  by_cases ok : okG g
  rotate_left
  · rw [show chG g = 50 from if_neg ok] at KC
    rw [decide_eq_true (p := smG g) (Or.inl ok)] at hx
    subst hx
    clear ok
    obtain ⟨k, m, z, s, t, o⟩ := g
    have LA := geo_laid w ⟨k, m, z, s, t, o⟩
    rw [show aggG ⟨k, m, z, s, t, o⟩ = .agg #[.int .i64 k, .int .i64 m, .int .i64 z, .int .i64 s, .int .i64 t, .int .i64 o] from rfl] at KC ⊢
    go_enter Tryz.func11, Tryz.ntmps11
    go_wp2_with fail
    refine (KC _).mono ?_
    rintro _ w1 ⟨rfl, B1⟩
    obtain ⟨⟨x0, x1, x2, x3, x4, x5⟩, F1⟩ := LA _ _ B1
    simp only at x0 x1 x2 x3 x4 x5
    clear B1 LA KC
    go_wp2
    go_ret
    exact ⟨rfl, F1⟩
  rw [show chG g = 0 from if_pos ok] at KC
  have bs : 0 ≤ g.k + g.m ∧ g.k + g.m ≤ 32 := ⟨by have := ok.1; have := ok.2.1; omega, ok.2.2.1⟩
  obtain ⟨k, m, z, s, t, o⟩ := g
  simp only at bs
  obtain ⟨n, hn⟩ : ∃ n, Hid (n = k + m) := ⟨_, rfl⟩
  rw [← hn.out] at bs
  have gw : IntKind.i64.wrap (k + m) = n := by rw [← hn.out, IntKind.wrap_i64]; omega
  have LA := geo_laid w ⟨k, m, z, s, t, o⟩
  rw [show aggG ⟨k, m, z, s, t, o⟩ = .agg #[.int .i64 k, .int .i64 m, .int .i64 z, .int .i64 s, .int .i64 t, .int .i64 o] from rfl] at KC ⊢
  have e : decide (smG ⟨k, m, z, s, t, o⟩) = decide (n ≤ 7 ∧ z ≤ 8 ∧ s ≤ 20) := by
    refine decide_eq_decide.2 ⟨fun q => ?_, fun q => Or.inr ?_⟩
    · have := q.resolve_left (fun q => q ok)
      rw [hn.out]; exact this
    · rw [hn.out] at q; exact q
  rw [e] at hx
  clear e ok
  by_cases h1 : n ≤ 7
  · by_cases h2 : z ≤ 8
    · by_cases h3 : s ≤ 20
      · rw [decide_eq_true ⟨h1, h2, h3⟩] at hx
        subst hx
        go_enter Tryz.func11, Tryz.ntmps11
        go_wp2_with fail
        refine (KC _).mono ?_
        rintro _ w1 ⟨rfl, B1⟩
        obtain ⟨⟨x0, x1, x2, x3, x4, x5⟩, F1⟩ := LA _ _ B1
        simp only at x0 x1 x2 x3 x4 x5
        clear B1 LA KC
        go_wp2
        go_ret
        exact ⟨rfl, F1⟩
      · rw [decide_eq_false (fun q => h3 q.2.2)] at hx
        subst hx
        have d3 : decide (s ≤ 20) = false := decide_eq_false h3
        go_enter Tryz.func11, Tryz.ntmps11
        go_wp2_with fail
        refine (KC _).mono ?_
        rintro _ w1 ⟨rfl, B1⟩
        obtain ⟨⟨x0, x1, x2, x3, x4, x5⟩, F1⟩ := LA _ _ B1
        simp only at x0 x1 x2 x3 x4 x5
        clear B1 LA KC
        go_wp2
        go_ret
        exact ⟨rfl, F1⟩
    · rw [decide_eq_false (fun q => h2 q.2.1)] at hx
      subst hx
      have d2 : decide (z ≤ 8) = false := decide_eq_false h2
      go_enter Tryz.func11, Tryz.ntmps11
      go_wp2_with fail
      refine (KC _).mono ?_
      rintro _ w1 ⟨rfl, B1⟩
      obtain ⟨⟨x0, x1, x2, x3, x4, x5⟩, F1⟩ := LA _ _ B1
      simp only at x0 x1 x2 x3 x4 x5
      clear B1 LA KC
      go_wp2
      go_ret
      exact ⟨rfl, F1⟩
  · rw [decide_eq_false (fun q => h1 q.1)] at hx
    subst hx
    have d1 : decide (n ≤ 7) = false := decide_eq_false h1
    go_enter Tryz.func11, Tryz.ntmps11
    go_wp2_with fail
    refine (KC _).mono ?_
    rintro _ w1 ⟨rfl, B1⟩
    obtain ⟨⟨x0, x1, x2, x3, x4, x5⟩, F1⟩ := LA _ _ B1
    simp only at x0 x1 x2 x3 x4 x5
    clear B1 LA KC
    go_wp2
    go_ret
    exact ⟨rfl, F1⟩
section
variable {a : ArS} {g : GeoS} {st ep : Int} {D : List UInt8}
/-- what is written without an error may be -/
theorem sw_ok (h : swX a g st ep D = 0) : OkT g st ep ∧ LenT g D := by
  unfold swX at h
  by_cases hT : OkT g st ep
  · rw [if_pos hT] at h
    by_cases hD : LenT g D
    · exact ⟨hT, hD⟩
    · rw [if_neg hD] at h; cases h
  · rw [if_neg hT] at h
    exact absurd h (ckT_not hT)
/-- an array that is made for a geometry -/
theorem sec_in (hg : okG g) : secG g = 5 + g.t + g.s ∧ 1 ≤ secG g ∧ secG g ≤ 4096 := by
  have e : secG g = 5 + g.t + g.s := if_pos hg
  obtain ⟨_, _, _, _, _, o6, o7, o8, o9, _, _⟩ := hg
  exact ⟨e, by omega, by omega⟩
theorem new_all (hg : okG g) (h1 : 0 ≤ st) (h2 : st < g.s) : ∀ i, i < nT g → WrT (newA (nT g) (secG g).toNat) g st i := fun i hi => by
  have s := stG_in hg h1 h2
  have q := sec_in hg
  exact new_wr hg h1 h2 (Nat.le_refl _) (by omega) hi
/-- a stripe that is whole is read -/
theorem whole_read (hT : OkT g st ep) (hD : LenT g D) (h : WholeT a g st ep D) : rtX a g st ep = 0 ∧ rtD a g st ep = D ∧ rtB a g st ep = [] := by
  obtain ⟨_, q⟩ := back15 hT hD h (kind := 1) (at_ := 0) (S := []) List.nodup_nil (fun d hd => by cases hd) (a' := a) rfl
  obtain ⟨q1, q2, q3, _⟩ := q (Nat.zero_le _)
  exact ⟨q1, q2, List.length_eq_zero_iff.1 q3⟩
/-- .. of its epoch alone -/
theorem whole_other (hT : OkT g st ep) (hD : LenT g D) (h : WholeT a g st ep D) {e' : Int} (hne : e' ≠ ep) : rtX a g st e' = 150 ∨ rtX a g st e' = 1 := by
  by_cases hT' : OkT g st e'
  · refine Or.inl (read_none hT' h.calm.1 fun i hi => has_other hT ?_ (h.held i hi) hne).1
    rw [shT_row hD hT.1 hi]
    have := okG_nat hT.1
    omega
  · right
    unfold rtX
    rw [if_neg hT', ckT_arg hT.1 hT']
end
end Go.Proofs.YtddnfhfangfgeaaGreat.Gf
