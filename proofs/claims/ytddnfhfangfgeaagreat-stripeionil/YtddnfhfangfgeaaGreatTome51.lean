/- TEXTS JOINED: StCN. -/
import Derived.Below
import Derived.OpenShut
import Derived.Lib.SmallJoins
import Derived.Test.YtddnfhfangfgeaaGreatChecked
import GoSem.Claim
import GoSem.ClaimJoined
import GoSem.ClaimMapViews
import Derived.JoinedTies
import Derived.KernelRfl
import Derived.WalkKit
import Derived.Deep.QuietTactic
import Derived.BigQuiet
import Derived.WalkLawsBesides
import Derived.WalkSpells
import Derived.Laws.CopyOwn
import Derived.Deep.AppendLies
import Derived.Deep.OwnRows
import Derived.Laws.AppendOwnNone
import Derived.Deep.RegionHeld3
import Derived.WalkMore
import Derived.Deep.RegionLaw
import Derived.Deep.RegionWith
import Derived.Deep.CutRange
import Derived.Deep.Slices
import Derived.Maps.OwnSet
import Derived.Maps.Ext
import Derived.Lib.SliceRun
import Derived.Maps.RangeWalk
import Derived.Shelf.SlIterI.Nil
import Derived.Shelf.SortM.Plain
import Derived.Shelf.SortM.SortNone
import Derived.Ground.GgzProg
import Derived.Ground.SlgmProg
import Derived.Laws.BytesArg
import Derived.RangeFuncBox
import Derived.RangeFuncLeaves
import Derived.RangeFuncNested
import Derived.RangeFuncBound
import Derived.RangeFuncCalls
import Derived.Shelf.Abstract
import Derived.Shelf.RegionOpen
import Derived.OwnWalkIn
import Derived.TacticsInMore
import Derived.LoopNIn
import Derived.LoopIn
import Derived.Maps.AppendAt
import Derived.Laws.EntriesVeiled
import Derived.Test.YtddnfhfangfgeaaGreatRows
import Derived.Test.YtddnfhfangfgeaaGreatTome36
import Derived.Test.YtddnfhfangfgeaaGreatTome37
import Derived.Test.YtddnfhfangfgeaaGreatTome39
import Derived.Test.YtddnfhfangfgeaaGreatTome42
namespace Go.Proofs.YtddnfhfangfgeaaGreat.Gf
set_option linter.unusedVariables false
set_option linter.unusedSimpArgs false
open Go.RowKit
set_option maxRecDepth 100000 in
set_option maxHeartbeats 4000000 in
theorem swrite_nil {w : World} {pa pf : Option Addr} (hn : pa = none ∨ pf = none) {g : GeoS} {st ep : Int} {va : Option Addr} {dn vc : Nat} : Calls Tryz.prog 18 #[.pointer pa, .pointer pf, aggG g, .int .i64 st, .int .i64 ep, .slice va dn vc] w fun e w' => e = .returned (.int .i64 1) ∧ Below w.heap.size w w' := by
  have KS := fun W => @piss_any W pa pf g st ep _ rfl
  have KE := fun W => @pise_any W pa pf g st ep _ rfl
  obtain ⟨b1, hb1⟩ : ∃ b, Hid (b = decide (0 ≤ st ∧ st < g.s)) := ⟨_, rfl⟩
  obtain ⟨b2, hb2⟩ : ∃ b, Hid (b = decide (0 ≤ ep ∧ ep ≤ 2147483647)) := ⟨_, rfl⟩
  rw [← hb1.out] at KS
  rw [← hb2.out] at KE
  clear hb1 hb2
  have KF1 := fun W {a : Option Addr} {n c : Nat} => @pref_none W g st ep pa pf hn a n c
  obtain ⟨c, hc⟩ : ∃ c, IntKind.i64.wrap (g.k * g.z) = c := ⟨_, rfl⟩
  obtain ⟨b3, hb3⟩ : ∃ b, ((dn : Int) == c) = b := ⟨_, rfl⟩
  obtain ⟨k, m, z, s, t, o⟩ := g
  simp only at hc
  have LB := two_laid w pa pf ⟨k, m, z, s, t, o⟩ st ep 24 103
  rw [show aggG ⟨k, m, z, s, t, o⟩ = .agg #[.int .i64 k, .int .i64 m, .int .i64 z, .int .i64 s, .int .i64 t, .int .i64 o] from rfl]
  unfold aggP at KS KE KF1
  simp only [cellsP, cellsG] at KS KE KF1 LB
  have LG := geo_laid w ⟨k, m, z, s, t, o⟩ 24
  obtain ⟨⟨y0, y1, y2, y3, y4, y5⟩, _⟩ := LG _ (Below.refl _ _)
  simp only [cellsG] at y0 y1 y2 y3 y4 y5
  obtain ⟨W1, hW1⟩ : ∃ W1, W1 = ((w.alloc (.cells #[.int .i64 k, .int .i64 m, .int .i64 z, .int .i64 s, .int .i64 t, .int .i64 o] 24)).alloc (.cells #[.pointer pa, .pointer pf, .int .i64 k, .int .i64 m, .int .i64 z, .int .i64 s, .int .i64 t, .int .i64 o, .int .i64 st, .int .i64 ep] 103)) := ⟨_, rfl⟩
  rw [← hW1] at LB
  have SE : Hid (∀ W, Below W1.heap.size W1 W → (W.cell? ⟨w.heap.size + 1, 0, none⟩ = some (.pointer pa) ∧ W.cell? ⟨w.heap.size + 1, 1, none⟩ = some (.pointer pf) ∧ W.cell? ⟨w.heap.size + 1, 2, none⟩ = some (.int .i64 k) ∧ W.cell? ⟨w.heap.size + 1, 3, none⟩ = some (.int .i64 m) ∧ W.cell? ⟨w.heap.size + 1, 4, none⟩ = some (.int .i64 z) ∧ W.cell? ⟨w.heap.size + 1, 5, none⟩ = some (.int .i64 s) ∧ W.cell? ⟨w.heap.size + 1, 6, none⟩ = some (.int .i64 t) ∧ W.cell? ⟨w.heap.size + 1, 7, none⟩ = some (.int .i64 o) ∧ W.cell? ⟨w.heap.size + 1, 8, none⟩ = some (.int .i64 st) ∧ W.cell? ⟨w.heap.size + 1, 9, none⟩ = some (.int .i64 ep)) ∧ (W.cell? ⟨w.heap.size, 0, none⟩ = some (.int .i64 k) ∧ W.cell? ⟨w.heap.size, 1, none⟩ = some (.int .i64 m) ∧ W.cell? ⟨w.heap.size, 2, none⟩ = some (.int .i64 z) ∧ W.cell? ⟨w.heap.size, 3, none⟩ = some (.int .i64 s) ∧ W.cell? ⟨w.heap.size, 4, none⟩ = some (.int .i64 t) ∧ W.cell? ⟨w.heap.size, 5, none⟩ = some (.int .i64 o))) := fun W b => ⟨(LB W b).1.all, (LB W b).2.1⟩
  have FE : Hid (∀ W, Below W1.heap.size W1 W → Below w.heap.size w W) := fun W b => (LB W b).2.2
  have LBS : Hid (∀ W, Below W1.heap.size W1 W → SpotAt W (w.heap.size + 1) pa pf ⟨k, m, z, s, t, o⟩ st ep) := fun W b => (LB W b).1
  clear LB LG
  go_enter Tryz.func18, Tryz.ntmps18
  go_upto_region 2 with fail
  rw [← hW1]
  clear hW1 y0 y1 y2 y3 y4 y5
  have s0 := (SE.out W1 (Below.refl _ _))
  have BD : Below W1.heap.size W1 W1.drew := (Below.refl _ _).drew
  have sD := (SE.out _ BD)
  go_region_held3 (fun wx => (wx.cell? ⟨w.heap.size + 1, 0, none⟩ = some (.pointer pa) ∧ wx.cell? ⟨w.heap.size + 1, 1, none⟩ = some (.pointer pf) ∧ wx.cell? ⟨w.heap.size + 1, 2, none⟩ = some (.int .i64 k) ∧ wx.cell? ⟨w.heap.size + 1, 3, none⟩ = some (.int .i64 m) ∧ wx.cell? ⟨w.heap.size + 1, 4, none⟩ = some (.int .i64 z) ∧ wx.cell? ⟨w.heap.size + 1, 5, none⟩ = some (.int .i64 s) ∧ wx.cell? ⟨w.heap.size + 1, 6, none⟩ = some (.int .i64 t) ∧ wx.cell? ⟨w.heap.size + 1, 7, none⟩ = some (.int .i64 o) ∧ wx.cell? ⟨w.heap.size + 1, 8, none⟩ = some (.int .i64 st) ∧ wx.cell? ⟨w.heap.size + 1, 9, none⟩ = some (.int .i64 ep)) ∧ (wx.cell? ⟨w.heap.size, 0, none⟩ = some (.int .i64 k) ∧ wx.cell? ⟨w.heap.size, 1, none⟩ = some (.int .i64 m) ∧ wx.cell? ⟨w.heap.size, 2, none⟩ = some (.int .i64 z) ∧ wx.cell? ⟨w.heap.size, 3, none⟩ = some (.int .i64 s) ∧ wx.cell? ⟨w.heap.size, 4, none⟩ = some (.int .i64 t) ∧ wx.cell? ⟨w.heap.size, 5, none⟩ = some (.int .i64 o))) (first | exact s0 | exact sD | exact s1 | exact s2 | exact s3 _ _ | exact s4) (first
    | (go_at_call 50; go_loud (refine (KS _).mono ?_); rintro _ v1 ⟨rfl, c1⟩; have B1 : Below W1.heap.size W1 v1 := BD.stepL c1 BD.size; have s1 := (SE.out _ B1))
    | (go_at_call 51; go_loud (refine (KE _).mono ?_); rintro _ v2 ⟨rfl, c2⟩; have B2 : Below W1.heap.size W1 v2 := B1.stepL c2 B1.size; have s2 := (SE.out _ B2); have s3 := fun q e => (SE.out (v2.alloc (.cells q e)) (B2.stepL (belL _ _) B2.size)); have B3 := fun q e => B2.stepL (belL v2 (.cells q e)) B2.size)
    | (go_at_call 49; go_loud (refine (KF1 _).mono ?_); rintro _ v4 ⟨rfl, c4⟩; have B4 : Below W1.heap.size W1 v4 := (B3 _ _).stepL c4 (B3 _ _).size; have s4 := (SE.out _ B4)))
  have FB : Hid (Below w.heap.size w v4) := FE.out _ B4
  clear s0 sD s1 s2 s3 s4 c1 c2 c4 B1 B2 B3 B4 BD KS KE KF1
  go_wp2
  go_ret
  exact ⟨rfl, FB.out⟩
set_option maxRecDepth 100000 in
set_option maxHeartbeats 4000000 in
theorem sread_nil {w : World} {pa pf : Option Addr} (hn : pa = none ∨ pf = none) {g : GeoS} {st ep : Int} : Calls Tryz.prog 24 #[.pointer pa, .pointer pf, aggG g, .int .i64 st, .int .i64 ep] w fun e w' => e = .returned (.tuple #[.slice none 0 0, .slice none 0 0, .int .i64 1]) ∧ Below w.heap.size w w' := by
  have KS := fun W => @piss_any W pa pf g st ep _ rfl
  have KE := fun W => @pise_any W pa pf g st ep _ rfl
  obtain ⟨b1, hb1⟩ : ∃ b, Hid (b = decide (0 ≤ st ∧ st < g.s)) := ⟨_, rfl⟩
  obtain ⟨b2, hb2⟩ : ∃ b, Hid (b = decide (0 ≤ ep ∧ ep ≤ 2147483647)) := ⟨_, rfl⟩
  rw [← hb1.out] at KS
  rw [← hb2.out] at KE
  clear hb1 hb2
  have KF1 := fun W {a : Option Addr} {n c : Nat} => @pref_none W g st ep pa pf hn a n c
  obtain ⟨k, m, z, s, t, o⟩ := g
  have LB := two_laid w pa pf ⟨k, m, z, s, t, o⟩ st ep 24 103
  rw [show aggG ⟨k, m, z, s, t, o⟩ = .agg #[.int .i64 k, .int .i64 m, .int .i64 z, .int .i64 s, .int .i64 t, .int .i64 o] from rfl]
  unfold aggP at KS KE KF1
  simp only [cellsP, cellsG] at KS KE KF1 LB
  have LG := geo_laid w ⟨k, m, z, s, t, o⟩ 24
  obtain ⟨⟨y0, y1, y2, y3, y4, y5⟩, _⟩ := LG _ (Below.refl _ _)
  simp only [cellsG] at y0 y1 y2 y3 y4 y5
  obtain ⟨W1, hW1⟩ : ∃ W1, W1 = ((w.alloc (.cells #[.int .i64 k, .int .i64 m, .int .i64 z, .int .i64 s, .int .i64 t, .int .i64 o] 24)).alloc (.cells #[.pointer pa, .pointer pf, .int .i64 k, .int .i64 m, .int .i64 z, .int .i64 s, .int .i64 t, .int .i64 o, .int .i64 st, .int .i64 ep] 103)) := ⟨_, rfl⟩
  rw [← hW1] at LB
  have SE : Hid (∀ W, Below W1.heap.size W1 W → (W.cell? ⟨w.heap.size + 1, 0, none⟩ = some (.pointer pa) ∧ W.cell? ⟨w.heap.size + 1, 1, none⟩ = some (.pointer pf) ∧ W.cell? ⟨w.heap.size + 1, 2, none⟩ = some (.int .i64 k) ∧ W.cell? ⟨w.heap.size + 1, 3, none⟩ = some (.int .i64 m) ∧ W.cell? ⟨w.heap.size + 1, 4, none⟩ = some (.int .i64 z) ∧ W.cell? ⟨w.heap.size + 1, 5, none⟩ = some (.int .i64 s) ∧ W.cell? ⟨w.heap.size + 1, 6, none⟩ = some (.int .i64 t) ∧ W.cell? ⟨w.heap.size + 1, 7, none⟩ = some (.int .i64 o) ∧ W.cell? ⟨w.heap.size + 1, 8, none⟩ = some (.int .i64 st) ∧ W.cell? ⟨w.heap.size + 1, 9, none⟩ = some (.int .i64 ep)) ∧ (W.cell? ⟨w.heap.size, 0, none⟩ = some (.int .i64 k) ∧ W.cell? ⟨w.heap.size, 1, none⟩ = some (.int .i64 m) ∧ W.cell? ⟨w.heap.size, 2, none⟩ = some (.int .i64 z) ∧ W.cell? ⟨w.heap.size, 3, none⟩ = some (.int .i64 s) ∧ W.cell? ⟨w.heap.size, 4, none⟩ = some (.int .i64 t) ∧ W.cell? ⟨w.heap.size, 5, none⟩ = some (.int .i64 o))) := fun W b => ⟨(LB W b).1.all, (LB W b).2.1⟩
  have FE : Hid (∀ W, Below W1.heap.size W1 W → Below w.heap.size w W) := fun W b => (LB W b).2.2
  have LBS : Hid (∀ W, Below W1.heap.size W1 W → SpotAt W (w.heap.size + 1) pa pf ⟨k, m, z, s, t, o⟩ st ep) := fun W b => (LB W b).1
  clear LB LG
  go_enter Tryz.func24, Tryz.ntmps24
  go_upto_region 2 with fail
  rw [← hW1]
  clear hW1 y0 y1 y2 y3 y4 y5
  have s0 := (SE.out W1 (Below.refl _ _)).1
  have BD : Below W1.heap.size W1 W1.drew := (Below.refl _ _).drew
  have sD := (SE.out _ BD).1
  go_region_held3 (fun wx => wx.cell? ⟨w.heap.size + 1, 0, none⟩ = some (.pointer pa) ∧ wx.cell? ⟨w.heap.size + 1, 1, none⟩ = some (.pointer pf) ∧ wx.cell? ⟨w.heap.size + 1, 2, none⟩ = some (.int .i64 k) ∧ wx.cell? ⟨w.heap.size + 1, 3, none⟩ = some (.int .i64 m) ∧ wx.cell? ⟨w.heap.size + 1, 4, none⟩ = some (.int .i64 z) ∧ wx.cell? ⟨w.heap.size + 1, 5, none⟩ = some (.int .i64 s) ∧ wx.cell? ⟨w.heap.size + 1, 6, none⟩ = some (.int .i64 t) ∧ wx.cell? ⟨w.heap.size + 1, 7, none⟩ = some (.int .i64 o) ∧ wx.cell? ⟨w.heap.size + 1, 8, none⟩ = some (.int .i64 st) ∧ wx.cell? ⟨w.heap.size + 1, 9, none⟩ = some (.int .i64 ep)) (first | exact s0 | exact sD | exact s1 | exact s2 | exact s3 _ _ | exact s4) (first
    | (go_at_call 50; go_loud (refine (KS _).mono ?_); rintro _ v1 ⟨rfl, c1⟩; have B1 : Below W1.heap.size W1 v1 := BD.stepL c1 BD.size; have s1 := (SE.out _ B1).1)
    | (go_at_call 51; go_loud (refine (KE _).mono ?_); rintro _ v2 ⟨rfl, c2⟩; have B2 : Below W1.heap.size W1 v2 := B1.stepL c2 B1.size; have s2 := (SE.out _ B2).1; have s3 := fun q e => (SE.out (v2.alloc (.cells q e)) (B2.stepL (belL _ _) B2.size)).1; have B3 := fun q e => B2.stepL (belL v2 (.cells q e)) B2.size)
    | (go_at_call 49; go_loud (refine (KF1 _).mono ?_); rintro _ v4 ⟨rfl, c4⟩; have B4 : Below W1.heap.size W1 v4 := (B3 _ _).stepL c4 (B3 _ _).size; have s4 := (SE.out _ B4).1))
  have FB : Hid (Below w.heap.size w v4) := FE.out _ B4
  clear s0 sD s1 s2 s3 s4 c1 c2 c4 B1 B2 B3 B4 BD KS KE KF1
  go_wp2
  refine bodyPost_ret (v := .tuple #[.slice none 0 0, .slice none 0 0, .int .i64 1]) (by simp [results, Tryz.results24, go_sem]) rfl ?_
  exact ⟨rfl, FB.out⟩
set_option maxRecDepth 100000 in
set_option maxHeartbeats 4000000 in
theorem sfix_nil {w : World} {pa pf : Option Addr} (hn : pa = none ∨ pf = none) {g : GeoS} {st ep : Int} : Calls Tryz.prog 26 #[.pointer pa, .pointer pf, aggG g, .int .i64 st, .int .i64 ep] w fun e w' => e = .returned (.tuple #[.int .i64 0, .int .i64 1]) ∧ Below w.heap.size w w' := by
  have KS := fun W => @piss_any W pa pf g st ep _ rfl
  have KE := fun W => @pise_any W pa pf g st ep _ rfl
  obtain ⟨b1, hb1⟩ : ∃ b, Hid (b = decide (0 ≤ st ∧ st < g.s)) := ⟨_, rfl⟩
  obtain ⟨b2, hb2⟩ : ∃ b, Hid (b = decide (0 ≤ ep ∧ ep ≤ 2147483647)) := ⟨_, rfl⟩
  rw [← hb1.out] at KS
  rw [← hb2.out] at KE
  clear hb1 hb2
  have KF1 := fun W {a : Option Addr} {n c : Nat} => @pref_none W g st ep pa pf hn a n c
  obtain ⟨k, m, z, s, t, o⟩ := g
  have LB := two_laid w pa pf ⟨k, m, z, s, t, o⟩ st ep 24 103
  rw [show aggG ⟨k, m, z, s, t, o⟩ = .agg #[.int .i64 k, .int .i64 m, .int .i64 z, .int .i64 s, .int .i64 t, .int .i64 o] from rfl]
  unfold aggP at KS KE KF1
  simp only [cellsP, cellsG] at KS KE KF1 LB
  have LG := geo_laid w ⟨k, m, z, s, t, o⟩ 24
  obtain ⟨⟨y0, y1, y2, y3, y4, y5⟩, _⟩ := LG _ (Below.refl _ _)
  simp only [cellsG] at y0 y1 y2 y3 y4 y5
  obtain ⟨W1, hW1⟩ : ∃ W1, W1 = ((w.alloc (.cells #[.int .i64 k, .int .i64 m, .int .i64 z, .int .i64 s, .int .i64 t, .int .i64 o] 24)).alloc (.cells #[.pointer pa, .pointer pf, .int .i64 k, .int .i64 m, .int .i64 z, .int .i64 s, .int .i64 t, .int .i64 o, .int .i64 st, .int .i64 ep] 103)) := ⟨_, rfl⟩
  rw [← hW1] at LB
  have SE : Hid (∀ W, Below W1.heap.size W1 W → (W.cell? ⟨w.heap.size + 1, 0, none⟩ = some (.pointer pa) ∧ W.cell? ⟨w.heap.size + 1, 1, none⟩ = some (.pointer pf) ∧ W.cell? ⟨w.heap.size + 1, 2, none⟩ = some (.int .i64 k) ∧ W.cell? ⟨w.heap.size + 1, 3, none⟩ = some (.int .i64 m) ∧ W.cell? ⟨w.heap.size + 1, 4, none⟩ = some (.int .i64 z) ∧ W.cell? ⟨w.heap.size + 1, 5, none⟩ = some (.int .i64 s) ∧ W.cell? ⟨w.heap.size + 1, 6, none⟩ = some (.int .i64 t) ∧ W.cell? ⟨w.heap.size + 1, 7, none⟩ = some (.int .i64 o) ∧ W.cell? ⟨w.heap.size + 1, 8, none⟩ = some (.int .i64 st) ∧ W.cell? ⟨w.heap.size + 1, 9, none⟩ = some (.int .i64 ep)) ∧ (W.cell? ⟨w.heap.size, 0, none⟩ = some (.int .i64 k) ∧ W.cell? ⟨w.heap.size, 1, none⟩ = some (.int .i64 m) ∧ W.cell? ⟨w.heap.size, 2, none⟩ = some (.int .i64 z) ∧ W.cell? ⟨w.heap.size, 3, none⟩ = some (.int .i64 s) ∧ W.cell? ⟨w.heap.size, 4, none⟩ = some (.int .i64 t) ∧ W.cell? ⟨w.heap.size, 5, none⟩ = some (.int .i64 o))) := fun W b => ⟨(LB W b).1.all, (LB W b).2.1⟩
  have FE : Hid (∀ W, Below W1.heap.size W1 W → Below w.heap.size w W) := fun W b => (LB W b).2.2
  have LBS : Hid (∀ W, Below W1.heap.size W1 W → SpotAt W (w.heap.size + 1) pa pf ⟨k, m, z, s, t, o⟩ st ep) := fun W b => (LB W b).1
  clear LB LG
  go_enter Tryz.func26, Tryz.ntmps26
  go_upto_region 2 with fail
  rw [← hW1]
  clear hW1 y0 y1 y2 y3 y4 y5
  have s0 := (SE.out W1 (Below.refl _ _)).1
  have BD : Below W1.heap.size W1 W1.drew := (Below.refl _ _).drew
  have sD := (SE.out _ BD).1
  go_region_held3 (fun wx => wx.cell? ⟨w.heap.size + 1, 0, none⟩ = some (.pointer pa) ∧ wx.cell? ⟨w.heap.size + 1, 1, none⟩ = some (.pointer pf) ∧ wx.cell? ⟨w.heap.size + 1, 2, none⟩ = some (.int .i64 k) ∧ wx.cell? ⟨w.heap.size + 1, 3, none⟩ = some (.int .i64 m) ∧ wx.cell? ⟨w.heap.size + 1, 4, none⟩ = some (.int .i64 z) ∧ wx.cell? ⟨w.heap.size + 1, 5, none⟩ = some (.int .i64 s) ∧ wx.cell? ⟨w.heap.size + 1, 6, none⟩ = some (.int .i64 t) ∧ wx.cell? ⟨w.heap.size + 1, 7, none⟩ = some (.int .i64 o) ∧ wx.cell? ⟨w.heap.size + 1, 8, none⟩ = some (.int .i64 st) ∧ wx.cell? ⟨w.heap.size + 1, 9, none⟩ = some (.int .i64 ep)) (first | exact s0 | exact sD | exact s1 | exact s2 | exact s3 _ _ | exact s4) (first
    | (go_at_call 50; go_loud (refine (KS _).mono ?_); rintro _ v1 ⟨rfl, c1⟩; have B1 : Below W1.heap.size W1 v1 := BD.stepL c1 BD.size; have s1 := (SE.out _ B1).1)
    | (go_at_call 51; go_loud (refine (KE _).mono ?_); rintro _ v2 ⟨rfl, c2⟩; have B2 : Below W1.heap.size W1 v2 := B1.stepL c2 B1.size; have s2 := (SE.out _ B2).1; have s3 := fun q e => (SE.out (v2.alloc (.cells q e)) (B2.stepL (belL _ _) B2.size)).1; have B3 := fun q e => B2.stepL (belL v2 (.cells q e)) B2.size)
    | (go_at_call 49; go_loud (refine (KF1 _).mono ?_); rintro _ v4 ⟨rfl, c4⟩; have B4 : Below W1.heap.size W1 v4 := (B3 _ _).stepL c4 (B3 _ _).size; have s4 := (SE.out _ B4).1))
  have FB : Hid (Below w.heap.size w v4) := FE.out _ B4
  clear s0 sD s1 s2 s3 s4 c1 c2 c4 B1 B2 B3 B4 BD KS KE KF1
  go_wp2
  refine bodyPost_ret (v := .tuple #[.int .i64 0, .int .i64 1]) (by simp [results, Tryz.results26, go_sem]) rfl ?_
  exact ⟨rfl, FB.out⟩
end Go.Proofs.YtddnfhfangfgeaaGreat.Gf
