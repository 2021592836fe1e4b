/- TEXTS JOINED: DkCall, StCh. -/
import Derived.Test.YtddnfhfangfgeaaGreatChecked
import GoSem.Claim
import GoSem.ClaimJoined
import GoSem.ClaimMapViews
import Derived.JoinedTies
import Derived.KernelRfl
import Derived.WalkKit
import Derived.Deep.QuietTactic
import Derived.BigQuiet
import Derived.WalkLawsBesides
import Derived.WalkSpells
import Derived.OpenShut
import Derived.Deep.Slices
import Derived.Test.YtddnfhfangfgeaaGreatRows
import Derived.Test.YtddnfhfangfgeaaGreatTome2
import Derived.Test.YtddnfhfangfgeaaGreatTome6
import Derived.Below
import Derived.Lib.SmallJoins
import Derived.Laws.CopyOwn
import Derived.Deep.AppendLies
import Derived.Deep.OwnRows
import Derived.Laws.AppendOwnNone
import Derived.Deep.RegionHeld3
import Derived.WalkMore
import Derived.Deep.RegionLaw
import Derived.Deep.RegionWith
import Derived.Deep.CutRange
import Derived.Maps.OwnSet
import Derived.Maps.Ext
import Derived.Lib.SliceRun
import Derived.Maps.RangeWalk
import Derived.Shelf.SlIterI.Nil
import Derived.Shelf.SortM.Plain
import Derived.Shelf.SortM.SortNone
import Derived.Ground.GgzProg
import Derived.Ground.SlgmProg
import Derived.Laws.BytesArg
import Derived.RangeFuncBox
import Derived.RangeFuncLeaves
import Derived.RangeFuncNested
import Derived.RangeFuncBound
import Derived.RangeFuncCalls
import Derived.Shelf.Abstract
import Derived.Shelf.RegionOpen
import Derived.OwnWalkIn
import Derived.TacticsInMore
import Derived.LoopNIn
import Derived.LoopIn
import Derived.Maps.AppendAt
import Derived.Laws.EntriesVeiled
import Derived.Test.YtddnfhfangfgeaaGreatTome36
import Derived.Test.YtddnfhfangfgeaaGreatTome13
import Derived.Test.YtddnfhfangfgeaaGreatTome20
import Derived.Test.YtddnfhfangfgeaaGreatTome34
import Derived.Test.YtddnfhfangfgeaaGreatTome37
import Derived.Test.YtddnfhfangfgeaaGreatTome38
namespace Go.Proofs.YtddnfhfangfgeaaGreat.Gf
set_option linter.unusedVariables false
set_option linter.unusedSimpArgs false
open Go.RowKit
open Go.ChangeShapes
theorem rdI_row2 {w : World} {a : Option Addr} {len cap : Nat} {zs : List Int}
    (h : (a = none ∧ len = 0 ∧ cap = 0 ∧ zs = []) ∨ ∃ x, a = some x ∧ len ≤ cap ∧ cap ≤ maxLen ∧ zs.length = cap ∧ (∀ i, i < zs.length → w.cell? (x.add i) = some (.int .i64 (zs.getD i 0))) ∧ ∀ n ∈ zs, (Lit.int .i64 n).wf = true) :
    ∃ p : List Int, RdI w (.slice a len cap) p ∧ ∀ z ∈ p, (Lit.int .i64 z).wf = true := by
  rcases h with ⟨rfl, rfl, rfl, rfl⟩ | ⟨x, rfl, hl, hm, hz, hcell, hwz⟩
  · exact ⟨[], Or.inl ⟨none, 0, rfl, rfl⟩, by simp⟩
  · have hlen : (zs.take len).length = len := by rw [List.length_take]; omega
    refine ⟨zs.take len, ?_, fun z hz1 => hwz z (List.mem_of_mem_take hz1)⟩
    by_cases h0 : len = 0
    · subst h0
      exact Or.inl ⟨_, cap, by simp, rfl⟩
    · obtain ⟨b, off, spot⟩ := x
      have hc := hcell 0 (by omega)
      have hspot : spot = none := by simpa [Addr.add] using World.cell?_spot hc
      subst hspot
      have hbw : b < w.heap.size := by
        have e : w.cell? ⟨b, off, none⟩ = some (.int .i64 (zs.getD 0 0)) := by simpa [Addr.add] using hc
        unfold World.cell? at e
        by_cases hb : b < w.heap.size
        · exact hb
        · rw [Array.getElem?_eq_none (by show w.heap.size ≤ b; omega)] at e; cases e
      refine Or.inr ⟨b, off, cap, fun h => by rw [h] at hlen; simp at hlen; omega, by rw [hlen], by rw [hlen]; omega, hbw, fun i hi => ?_⟩
      rw [hlen] at hi
      have e1 := hcell i (by omega)
      rw [add_at] at e1
      rw [e1]
      simp [List.getD, List.getElem?_take_of_lt hi]
end Go.Proofs.YtddnfhfangfgeaaGreat.Gf

namespace Go.Proofs.YtddnfhfangfgeaaGreat.Gf
set_option linter.unusedVariables false
set_option linter.unusedSimpArgs false
open Go.RowKit
/-- is a number no disk, or one of some? -/
def chsB (n : Nat) (z : Int) (O : List Nat) : Bool := decide (z < 0 ∨ (n : Int) ≤ z) || decide (∃ x ∈ O, (x : Int) = z)
/-- the disks of a list's first numbers, each once -/
def chsF (l : List Int) (n : Nat) : Nat → List Nat
  | 0 => []
  | i + 1 => if chsB n (l.getD i 0) (chsF l n i) = true then chsF l n i else chsF l n i ++ [(l.getD i 0).toNat]
theorem chsF_in {l : List Int} {n : Nat} : ∀ i, (∀ x ∈ chsF l n i, x < n) ∧ (chsF l n i).Nodup ∧ (chsF l n i).length ≤ i
  | 0 => ⟨(fun x hx => by cases hx), List.nodup_nil, Nat.le_refl _⟩
  | i + 1 => by
    obtain ⟨h1, h2, h3⟩ := chsF_in (l := l) (n := n) i
    unfold chsF
    split
    · exact ⟨h1, h2, by omega⟩
    · rename_i hc
      have hc' : chsB n (l.getD i 0) (chsF l n i) = false := by simpa using hc
      unfold chsB at hc'
      rw [Bool.or_eq_false_iff] at hc'
      have q1 := of_decide_eq_false hc'.1
      have q2 := of_decide_eq_false hc'.2
      refine ⟨fun x hx => ?_, ?_, by rw [List.length_append]; simp; omega⟩
      · rw [List.mem_append, List.mem_singleton] at hx
        rcases hx with hx | hx
        · exact h1 x hx
        · omega
      · rw [List.nodup_append]
        refine ⟨h2, by simp, fun a ha b hb => ?_⟩
        have : b = (l.getD i 0).toNat := by simpa using hb
        intro e
        exact q2 ⟨a, ha, by omega⟩
theorem chsB_take {n : Nat} {z : Int} {O : List Nat} {k : Nat} (hk : k < O.length) : chsB n z (O.take (k + 1)) = (chsB n z (O.take k) || decide (((O.getD k 0 : Nat) : Int) = z)) := by
  unfold chsB
  rw [Bool.or_assoc]
  congr 1
  rw [← Bool.decide_or]
  refine decide_eq_decide.2 ?_
  rw [take_getD hk]
  constructor
  · rintro ⟨x, hx, e⟩
    rw [List.mem_append, List.mem_singleton] at hx
    rcases hx with hx | hx
    · exact Or.inl ⟨x, hx, e⟩
    · exact Or.inr (by rw [← hx]; exact e)
  · rintro (⟨x, hx, e⟩ | e)
    · exact ⟨x, List.mem_append_left _ hx, e⟩
    · exact ⟨O.getD k 0, by simp, e⟩
theorem chsB_zero {n : Nat} {z : Int} {O : List Nat} : chsB n z (O.take 0) = decide (z < 0 ∨ (n : Int) ≤ z) := by
  unfold chsB
  simp
/-- what may not be written on new disks -/
theorem sw_arg {a : ArS} {g : GeoS} {st ep : Int} {D : List UInt8} (hg : okG g) (hc : Calm a) (hw : 0 ≤ st → st < g.s → ∀ i, i < nT g → WrT a g st i) (h : ¬ swX a g st ep D = 0) : swX a g st ep D = 1 := by
  by_cases hT : OkT g st ep
  · by_cases hD : LenT g D
    · exact absurd (whole_write hT hD hc (hw hT.2.1 hT.2.2.1)).1 h
    · unfold swX; rw [if_pos hT, if_neg hD]
  · unfold swX; rw [if_neg hT, ckT_arg hg hT]
theorem map_nodup {O : List Nat} (h : O.Nodup) : (O.map fun x : Nat => (x : Int)).Nodup := by
  unfold List.Nodup at h ⊢
  rw [List.pairwise_map]
  exact h.imp fun {a b} q e => q (by omega)
theorem map_getD {O : List Nat} {r : Nat} (h : r < O.length) : (O.map fun x : Nat => (x : Int)).getD r 0 = ((O.getD r 0 : Nat) : Int) := by
  simp [List.getD, h]
theorem info_intC : (Tryz.prog.info? 3).map (fun i => (i.zero, i.size, i.bytes)) = some (some (.int .i64 0), 1, 8) := by kernel_rfl
set_option maxRecDepth 100000 in
set_option maxHeartbeats 4000000 in
theorem chosen_any {w : World} {v : Value} {l : List Int} (hr : RdI w v l) (hl : l.length ≤ 1000) {n : Nat} (hn : n ≤ 1000) : Calls Tryz.prog 19 #[v, .int .i64 (n : Int)] w fun e w' => ∃ v', e = .returned v' ∧ OwnI w' w.heap.size 3 v' (chsF l n l.length) ∧ Below w.heap.size w w' := by
  obtain ⟨i0, hi, hz0, hz1, hz2⟩ := info_parts info_intC
  obtain ⟨va, vc, rfl⟩ := hr.form
  have HR : Hid (RdI w (.slice va l.length vc) l) := hr
  clear hr
  go_enter Tryz.func19, Tryz.ntmps19
  go_wp2
  go_loopw [5, 6] (fun ov i wr => ∃ r : Nat, r ≤ l.length ∧ i = .int .i64 (r : Int) ∧ OwnI wr w.heap.size 3 ov (chsF l n r) ∧ Below w.heap.size w wr) (fun _ i _ => l.length - (intOf i).toNat)
  case atStart => exact ⟨0, Nat.zero_le _, rfl, OwnI.nil _ _ _, Below.refl _ _⟩
  case round =>
    obtain ⟨r, hr, rfl, hO, hB⟩ := hrel
    obtain ⟨O, hOO⟩ : ∃ O, Hid (O = chsF l n r) := ⟨_, rfl⟩
    rw [← hOO.out] at hO
    obtain ⟨oa, oc, rfl⟩ := hO.form
    by_cases hlt : r < l.length
    rotate_left
    · obtain rfl : r = l.length := by omega
      have hlt' : ¬ (l.length : Int) < (l.length : Int) := by omega
      have FO : Hid (OwnI wr w.heap.size 3 (.slice oa O.length oc) (chsF l n l.length)) := by show OwnI _ _ _ _ _; rw [← hOO.out]; exact hO
      have FB : Hid _ := hB
      clear hO hB
      go_wp2
      go_ret
      exact ⟨_, rfl, FO.out, FB.out⟩
    have hlt' : (r : Int) < (l.length : Int) := by omega
    have g1 : IntKind.i64.wrap ((r : Int) + 1) = ((r + 1 : Nat) : Int) := by rw [IntKind.wrap_i64]; omega
    have hol : O.length ≤ 1000 := by rw [hOO.out]; have := (chsF_in (l := l) (n := n) r).2.2; omega
    obtain ⟨vb, vo, rfl, hvb, cx⟩ := (HR.out.below hB).at hlt
    obtain ⟨z, hz⟩ : ∃ z, Hid (l.getD r 0 = z) := ⟨_, rfl⟩
    rw [hz.out] at cx
    have HS : Hid (chsF l n (r + 1) = if chsB n z O = true then O else O ++ [z.toNat]) := by show _ = _; rw [← hz.out, hOO.out]; rfl
    have HB : Hid (Below w.heap.size w wr) := hB
    have HO : Hid (OwnI wr w.heap.size 3 (.slice oa O.length oc) O) := hO
    obtain ⟨wo, hwo⟩ : ∃ wo, wo = wr := ⟨_, rfl⟩
    rw [← hwo] at cx HB HO hvb ⊢
    clear hwo hO hB
    go_upto_region 5 with fail
    go_cut [7] from 15 to 27 (fun s7 wx => s7 = .bool (chsB n z (O.take 0)) ∧ wx = wo)
    case first =>
      by_cases h1 : z < 0
      · have E : Hid (chsB n z (O.take 0) = true) := by show _ = _; rw [chsB_zero]; exact decide_eq_true (Or.inl h1)
        go_wp2
        go_meet
        case rel => exact ⟨by rw [E.out], rfl⟩
      · by_cases h2 : (n : Int) ≤ z
        · have E : Hid (chsB n z (O.take 0) = true) := by show _ = _; rw [chsB_zero]; exact decide_eq_true (Or.inr h2)
          have h2' : z ≥ (n : Int) := h2
          have h2'' : decide ((n : Int) ≤ z) = true := decide_eq_true h2
          go_wp2
          go_meet
          case rel => exact ⟨by rw [E.out], rfl⟩
        · have E : Hid (chsB n z (O.take 0) = false) := by show _ = _; rw [chsB_zero]; exact decide_eq_false (fun q => q.elim h1 h2)
          have h2' : ¬ z ≥ (n : Int) := h2
          have h2'' : decide ((n : Int) ≤ z) = false := decide_eq_false h2
          go_wp2
          go_meet
          case rel => exact ⟨by rw [E.out], rfl⟩
    case rest =>
      obtain ⟨rfl, rfl⟩ := hcut
      go_wp2
      go_loopw [7, 8] (fun tv i wz => ∃ k : Nat, k ≤ O.length ∧ i = .int .i64 (k : Int) ∧ tv = .bool (chsB n z (O.take k)) ∧ Below wc.heap.size wc wz) (fun _ i _ => O.length - (intOf i).toNat)
      case atStart => exact ⟨0, Nat.zero_le _, rfl, rfl, Below.refl _ _⟩
      case round =>
        obtain ⟨k, hk, rfl, rfl, bw⟩ := hrel
        obtain ⟨t0, ht0⟩ : ∃ t0, Hid (chsB n z (O.take k) = t0) := ⟨_, rfl⟩
        rw [ht0.out]
        have HBW : Hid (Below wc.heap.size wc wr) := bw
        have cxr := (bw.cell (p := ⟨vb, vo + r, none⟩) hvb).trans cx
        have HOr : Hid (OwnI wr w.heap.size 3 (.slice oa O.length oc) O) := HO.out.later bw
        by_cases hkl : k < O.length
        · have hkl' : (k : Int) < (O.length : Int) := by omega
          have g2 : IntKind.i64.wrap ((k : Int) + 1) = ((k + 1 : Nat) : Int) := by rw [IntKind.wrap_i64]; omega
          obtain ⟨og, rfl, _, _, co⟩ := HOr.out.cell hkl
          obtain ⟨q, hq⟩ : ∃ q, Hid (O.getD k 0 = q) := ⟨_, rfl⟩
          rw [hq.out] at co
          have HT : Hid (chsB n z (O.take (k + 1)) = (t0 || decide ((q : Int) = z))) := by show _ = _; rw [chsB_take hkl, ht0.out, hq.out]
          clear bw
          cases t0 with
          | true =>
            have E2 : Hid (chsB n z (O.take (k + 1)) = true) := by show _ = _; rw [HT.out]; rfl
            clear HT
            go_wp2_with fail
            go_quiet (fail)
            have HB2 := fun m => (HBW.out.drewN m)
            go_wp2
            go_roundw
            case rel => exact ⟨k + 1, by omega, by go_num, by rw [E2.out], by first | exact HB2 _ | exact HBW.out | exact HBW.out.drew⟩
            case measure => simp [intOf]; omega
          | false =>
            by_cases hqz : (q : Int) = z
            · have E2 : Hid (chsB n z (O.take (k + 1)) = true) := by show _ = _; rw [HT.out, decide_eq_true hqz]; rfl
              have hqz' : ((q : Int) == z) = true := by simp [hqz]
              clear HT
              go_wp2_with fail
              go_quiet (fail)
              have HB2 := fun m => (HBW.out.drewN m)
              go_wp2
              go_roundw
              case rel => exact ⟨k + 1, by omega, by go_num, by rw [E2.out], by first | exact HB2 _ | exact HBW.out | exact HBW.out.drew⟩
              case measure => simp [intOf]; omega
            · have E2 : Hid (chsB n z (O.take (k + 1)) = false) := by show _ = _; rw [HT.out, decide_eq_false hqz]; rfl
              have hqz' : ((q : Int) == z) = false := beq_eq_false_iff_ne.2 hqz
              clear HT
              go_wp2_with fail
              go_quiet (fail)
              have HB2 := fun m => (HBW.out.drewN m)
              go_wp2
              go_roundw
              case rel => exact ⟨k + 1, by omega, by go_num, by rw [E2.out], by first | exact HB2 _ | exact HBW.out | exact HBW.out.drew⟩
              case measure => simp [intOf]; omega
        · obtain rfl : k = O.length := by omega
          have hkl' : ¬ (O.length : Int) < (O.length : Int) := by omega
          have ht1 : Hid (chsB n z O = t0) := by show _ = _; rw [← ht0.out, List.take_of_length_le (Nat.le_refl _)]
          have BWr : Below w.heap.size w wr := HB.out.stepL HBW.out HB.out.size
          cases t0 with
          | true =>
            have E3 : Hid (OwnI wr w.heap.size 3 (.slice oa O.length oc) (chsF l n (r + 1)) ∧ Below w.heap.size w wr) := ⟨by rw [HS.out, if_pos ht1.out]; exact HOr.out, BWr⟩
            clear BWr HOr
            go_wp2
            go_roundw
            case rel => exact ⟨r + 1, by omega, by go_num, E3.out.1, E3.out.2⟩
            case measure => simp [intOf]; omega
          | false =>
            have hzn : 0 ≤ z ∧ z < (n : Int) := by
              have := ht1.out
              unfold chsB at this
              rw [Bool.or_eq_false_iff] at this
              have := of_decide_eq_false this.1
              omega
            obtain ⟨zn, hzz⟩ : ∃ zn : Nat, z = (zn : Int) := ⟨z.toNat, by omega⟩
            have P2 : Hid (chsF l n (r + 1) = O ++ [zn]) := by show _ = _; rw [HS.out, if_neg (by rw [ht1.out]; decide), hzz]; rfl
            rw [hzz] at cxr
            have hsz := BWr.size
            have hO := HOr.out
            clear ht1 hzz hzn cx HS hz
            go_wp2_with (at_builtin; go_loud (refine wpList_append_int rfl (.tmp 48) (.tmp 53) 45 rfl w.heap.size 3 i0 Tryz.underlying45 hi hz0 hz1 hz2 (.slice oa O.length oc) O rfl hO zn _ 1 rfl (by omega) hsz ?_); intro v9 w9 h9 b9)
            have E3 : Hid (OwnI w9 w.heap.size 3 v9 (chsF l n (r + 1)) ∧ Below w.heap.size w w9) := ⟨by rw [P2.out]; exact h9, BWr.trans b9⟩
            clear h9 b9 hO BWr HOr cxr
            go_wp2
            go_roundw
            case rel => exact ⟨r + 1, by omega, by go_num, E3.out.1, E3.out.2⟩
            case measure => simp [intOf]; omega
end Go.Proofs.YtddnfhfangfgeaaGreat.Gf
