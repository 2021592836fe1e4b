/- TEXTS JOINED: StAp. -/
import Derived.Below
import Derived.OpenShut
import Derived.Lib.SmallJoins
import Derived.Test.YtddnfhfangfgeaaGreatChecked
import GoSem.Claim
import GoSem.ClaimJoined
import GoSem.ClaimMapViews
import Derived.JoinedTies
import Derived.KernelRfl
import Derived.WalkKit
import Derived.Deep.QuietTactic
import Derived.BigQuiet
import Derived.WalkLawsBesides
import Derived.WalkSpells
import Derived.Laws.CopyOwn
import Derived.Deep.AppendLies
import Derived.Deep.OwnRows
import Derived.Laws.AppendOwnNone
import Derived.Deep.RegionHeld3
import Derived.WalkMore
import Derived.Deep.RegionLaw
import Derived.Deep.RegionWith
import Derived.Deep.CutRange
import Derived.Deep.Slices
import Derived.Maps.OwnSet
import Derived.Maps.Ext
import Derived.Lib.SliceRun
import Derived.Maps.RangeWalk
import Derived.Shelf.SlIterI.Nil
import Derived.Shelf.SortM.Plain
import Derived.Shelf.SortM.SortNone
import Derived.Ground.GgzProg
import Derived.Ground.SlgmProg
import Derived.Laws.BytesArg
import Derived.RangeFuncBox
import Derived.RangeFuncLeaves
import Derived.RangeFuncNested
import Derived.RangeFuncBound
import Derived.RangeFuncCalls
import Derived.Shelf.Abstract
import Derived.Shelf.RegionOpen
import Derived.OwnWalkIn
import Derived.TacticsInMore
import Derived.LoopNIn
import Derived.LoopIn
import Derived.Maps.AppendAt
import Derived.Laws.EntriesVeiled
import Derived.Test.YtddnfhfangfgeaaGreatRows
import Derived.Test.YtddnfhfangfgeaaGreatTome36
import Derived.Test.YtddnfhfangfgeaaGreatTome10
import Derived.Test.YtddnfhfangfgeaaGreatTome20
import Derived.Test.YtddnfhfangfgeaaGreatTome21
import Derived.Test.YtddnfhfangfgeaaGreatTome31
import Derived.Test.YtddnfhfangfgeaaGreatTome34
import Derived.Test.YtddnfhfangfgeaaGreatTome37
import Derived.Test.YtddnfhfangfgeaaGreatTome38
import Derived.Test.YtddnfhfangfgeaaGreatTome33
import Derived.Test.YtddnfhfangfgeaaGreatTome49
import Derived.Test.YtddnfhfangfgeaaGreatTome47
namespace Go.Proofs.YtddnfhfangfgeaaGreat.Gf
set_option linter.unusedVariables false
set_option linter.unusedSimpArgs false
theorem heldL_len (f : Int → Option (List UInt8)) (s : Nat) : (heldL f s).length = cnt (fun i => (f (i : Int)).isSome) s := by
  induction s with
  | zero => rfl
  | succ s ih =>
    unfold heldL at ih ⊢
    rw [List.range_succ, List.filterMap_append, List.length_append, ih]
    show _ = cnt (fun i => (f (i : Int)).isSome) s + (if (f (s : Int)).isSome then 1 else 0)
    cases h : f (s : Int) with
    | none => simp [h]
    | some b => simp [h]
theorem held_two {x y s : Nat} {p q : List UInt8} (hx : x < s) (hy : y < s) (hne : x ≠ y) : (heldL (putB (putB noneI (x : Int) p) (y : Int) q) s).length = 2 := by
  rw [heldL_len, cnt_congr (q := fun i => decide (i = x) || decide (i = y)) fun i hi => ?_, cnt_or_eq _ _ _ (fun i hi h => ?_), cnt_one15 hx, cnt_one15 hy]
  · have e1 := of_decide_eq_true h
    exact decide_eq_false (by omega)
  · by_cases e1 : i = y
    · rw [e1]; simp [putB]
    · by_cases e2 : i = x
      · rw [e2]
        have : ¬ (x : Int) = (y : Int) := by omega
        simp [putB, this]
      · have h1 : ¬ (i : Int) = (y : Int) := by omega
        have h2 : ¬ (i : Int) = (x : Int) := by omega
        simp [putB, noneI, h1, h2, e1, e2]
theorem held_none15 (s : Nat) : heldL noneI s = [] := by
  refine List.length_eq_zero_iff.1 ?_
  rw [heldL_len]
  exact cnt_none fun i _ => rfl
theorem rdH_nil15 (w : World) : RdH w (.slice none 0 0) [] := ⟨[], rfl, Or.inl ⟨none, 0, rfl, rfl⟩⟩
theorem heldT_nat {T : List TH} {f : Int → Option (List UInt8)} {s : Nat} (h : bareT T = heldL f s) {k : Nat} (hk : k < T.length) : ∃ q : Nat, (T.getD k default).1 = (q : Int) := by
  have hm : ((T.getD k default).1, (T.getD k default).2.1) ∈ heldL f s := by
    rw [← h]
    unfold bareT
    rw [show T.getD k default = T[k] by simp [List.getD, hk]]
    exact List.mem_map.2 ⟨T[k], List.getElem_mem hk, rfl⟩
  unfold heldL at hm
  obtain ⟨i, _, e⟩ := List.mem_filterMap.1 hm
  cases hf : f (i : Int) with
  | none => rw [hf] at e; cases e
  | some b =>
    rw [hf] at e
    simp at e
    exact ⟨i, e.1.symm⟩
section
variable {g : GeoS} {s t : Int} {X Y : List UInt8}
theorem apart15 {A0 A1 A2 : ArS} (hA0 : A0 = newA (nT g) (secG g).toNat) (hA1 : swS A0 g s 1 X = A1) (hA2 : swS A1 g t 2 Y = A2) (h1 : OkT g s 1) (hX : LenT g X) (h2 : OkT g t 2) (hY : LenT g Y) (hne : s ≠ t) :
    (rtX A2 g s 1 = 0 ∧ rtD A2 g s 1 = X) ∧ (rtX A2 g t 2 = 0 ∧ rtD A2 g t 2 = Y) ∧ A2.D.length = nT g ∧ (heldL (A2.D.getD 0 default).wait (A2.D.getD 0 default).s).length = 2 ∧ heldL (A2.D.getD 0 default).last (A2.D.getD 0 default).s = [] := by
  have hc : Calm A0 := by rw [hA0]; exact calm_new _ _
  have hw0 : ∀ i, i < nT g → WrT A0 g s i := fun i hi => by rw [hA0]; exact new_all h1.1 h1.2.1 h1.2.2.1 i hi
  obtain ⟨_, W1, P1⟩ := whole_write h1 hX hc hw0
  rw [hA1] at W1 P1
  have sec := sec_in h1.1
  have lt1 := h1.2.2.1
  have lt2 := h2.2.2.1
  have gt1 := h1.2.1
  have gt2 := h2.2.1
  have hl0 : A0.D.length = nT g := by rw [hA0]; exact newA_len _ _
  have d0 : ∀ j : Nat, j < nT g → A0.D.getD j default = newD (secG g).toNat := fun j hj => by rw [hA0]; simp [newA, List.getD, hj]
  have hw1 : ∀ i, i < nT g → WrT A1 g t i := fun i hi => by
    have din := diG_in h2.1 h2.2.1 h2.2.2.1 hi
    have kp := P1.keeps (d := diG g t (i : Int)) din.1
    have e0 : diA A0 (diG g t (i : Int)) = newD (secG g).toNat := d0 _ (by omega)
    refine ⟨⟨din.1, by rw [P1.len, hl0]; exact din.2⟩, ?_, ?_⟩
    · rw [kp.1, e0]; rfl
    · rw [kp.2, e0]
      have := stG_in h2.1 h2.2.1 h2.2.2.1
      show stG g t < (((secG g).toNat : Nat) : Int)
      omega
  obtain ⟨_, W2, P2⟩ := whole_write h2 hY W1.calm hw1
  rw [hA2] at W2 P2
  have hrow : ∀ {D : List UInt8}, LenT g D → ∀ i, i ∈ List.range (nT g) → (ro (shT g D) i).length ≤ 4096 := fun hD i hi => by
    rw [shT_row hD h1.1 (List.mem_range.1 hi)]
    have := okG_nat h1.1
    omega
  have hB2 : ∀ i, i ∈ List.range (nT g) → i < nT g ∧ WrT A1 g t i := fun i hi => ⟨List.mem_range.1 hi, hw1 i (List.mem_range.1 hi)⟩
  have W12 : WholeT A2 g s 1 X := by
    refine ⟨W2.calm, fun i hi => ?_, fun i hi => ?_⟩
    · rw [PutT.rb_other h2 W1.calm hB2 (hrow hY) P2 h1.2.1 h1.2.2.1 hne hi]
      exact W1.held i hi
    · have q := W1.wr i hi
      have kp := P2.keeps (d := diG g s (i : Int)) q.th.1
      exact ⟨⟨q.th.1, by rw [P2.len]; exact q.th.2⟩, by rw [kp.1]; exact q.al, by rw [kp.2]; exact q.rm⟩
  have r1 := whole_read h1 hX W12
  have r2 := whole_read h2 hY W2
  have hn1 := nT_pos h1.1
  obtain ⟨i1, hi1, e1⟩ := diG_of h1.1 h1.2.1 h1.2.2.1 (d := 0) (by omega) (by omega)
  obtain ⟨i2, hi2, e2⟩ := diG_of h2.1 h2.2.1 h2.2.2.1 (d := 0) (by omega) (by omega)
  have q1 := P1.at_ i1 (List.mem_range.2 hi1)
  have q2 := P2.at_ i2 (List.mem_range.2 hi2)
  have s1 := stG_in h1.1 h1.2.1 h1.2.2.1
  have s2 := stG_in h2.1 h2.2.1 h2.2.2.1
  have hz : ∀ {D : List UInt8} {i : Nat}, LenT g D → i < nT g → (ro (shT g D) i).length ≤ 4096 := fun hD hi => hrow hD _ (List.mem_range.2 hi)
  rw [e1, show diA A0 0 = newD (secG g).toNat from d0 0 (by omega), wrS_at rfl s1.2.1 (by show _ < (((secG g).toNat : Nat) : Int); omega) (pkT_okB (hz hX hi1))] at q1
  rw [e2, q1, wrS_at rfl s2.2.1 (by show _ < (((secG g).toNat : Nat) : Int); omega) (pkT_okB (hz hY hi2))] at q2
  have e9 : A2.D.getD 0 default = diA A2 0 := rfl
  rw [e9, q2]
  refine ⟨⟨r1.1, r1.2.1⟩, ⟨r2.1, r2.2.1⟩, by rw [P2.len, P1.len]; exact hl0, ?_, held_none15 _⟩
  have x1 : stG g s = (((stG g s).toNat : Nat) : Int) := by omega
  have x2 : stG g t = (((stG g t).toNat : Nat) : Int) := by omega
  show (heldL (putB (putB noneI (stG g s) _) (stG g t) _) (secG g).toNat).length = 2
  rw [x1, x2]
  exact held_two (by omega) (by omega) (by omega)
end
end Go.Proofs.YtddnfhfangfgeaaGreat.Gf
