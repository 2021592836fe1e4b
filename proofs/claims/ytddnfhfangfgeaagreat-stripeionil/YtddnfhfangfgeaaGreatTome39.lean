/- TEXTS JOINED: StLM, StCA, StTl, StTold. -/
import Derived.Test.YtddnfhfangfgeaaGreatChecked
import GoSem.Claim
import GoSem.ClaimJoined
import GoSem.ClaimMapViews
import Derived.JoinedTies
import Derived.KernelRfl
import Derived.WalkKit
import Derived.Deep.QuietTactic
import Derived.BigQuiet
import Derived.WalkLawsBesides
import Derived.WalkSpells
import Derived.OpenShut
import Derived.Deep.AppendLies
import Derived.Laws.CopyOwn
import Derived.Laws.AppendOwnNone
import Derived.Deep.RegionHeld3
import Derived.WalkMore
import Derived.Deep.RegionLaw
import Derived.Deep.RegionWith
import Derived.Deep.OwnRows
import Derived.Deep.CutRange
import Derived.Deep.Slices
import Derived.Lib.SmallJoins
import Derived.Below
import Derived.Test.YtddnfhfangfgeaaGreatRows
import Derived.Test.YtddnfhfangfgeaaGreatTome36
import Derived.Test.YtddnfhfangfgeaaGreatTome2
import Derived.Test.YtddnfhfangfgeaaGreatTome10
import Derived.Test.YtddnfhfangfgeaaGreatTome13
import Derived.Test.YtddnfhfangfgeaaGreatTome20
import Derived.Test.YtddnfhfangfgeaaGreatTome21
import Derived.Test.YtddnfhfangfgeaaGreatTome27
import Derived.Test.YtddnfhfangfgeaaGreatTome31
import Derived.Test.YtddnfhfangfgeaaGreatTome34
import Derived.Test.YtddnfhfangfgeaaGreatTome37
import Derived.Test.YtddnfhfangfgeaaGreatTome3
import Derived.Test.YtddnfhfangfgeaaGreatTome8
import Derived.Test.YtddnfhfangfgeaaGreatTome11
import Derived.Test.YtddnfhfangfgeaaGreatTome1
import Derived.Maps.OwnSet
import Derived.Maps.Ext
import Derived.Lib.SliceRun
import Derived.Maps.RangeWalk
import Derived.Shelf.SlIterI.Nil
import Derived.Shelf.SortM.Plain
import Derived.Shelf.SortM.SortNone
import Derived.Ground.GgzProg
import Derived.Ground.SlgmProg
import Derived.Test.YtddnfhfangfgeaaGreatTome33
namespace Go.Proofs.YtddnfhfangfgeaaGreat.Gf
set_option linter.unusedVariables false
set_option linter.unusedSimpArgs false
theorem rdAB_len {a : ArS} (h : a.Ok) (i ad : Int) : (rdAB a i ad).length ≤ 100000 := by
  unfold rdAB
  split
  · simp
  · split
    · rename_i ht
      have hd := h.each _ (di_mem ht)
      unfold rdB
      split
      · unfold atD
        cases e : (diA a i).wait ad with
        | some b => have := hd.iw ad b e; show b.length ≤ _; omega
        | none =>
          cases e2 : (diA a i).last ad with
          | some b => have := hd.il ad b e2; show b.length ≤ _; omega
          | none => simp
      · simp
    · simp
theorem rdAX_crash {a : ArS} {i ad : Int} : rdAX a i ad = 130 ↔ a.off = true := by
  unfold rdAX
  cases h : a.off
  · rw [if_neg (by decide)]
    refine ⟨fun e => ?_, fun e => by cases e⟩
    exfalso
    split at e
    · rcases faX_in (diA a i) ad with q | q | q <;> rw [q] at e <;> cases e
    · cases e
  · rw [if_pos rfl]
    exact ⟨fun _ => rfl, fun _ => rfl⟩
theorem rdAB_no {a : ArS} {i ad : Int} (h : ¬ rdAX a i ad = 0) : rdAB a i ad = [] := by
  unfold rdAX at h
  unfold rdAB
  split
  · rfl
  · rename_i ho
    rw [if_neg ho] at h
    split
    · rename_i ht
      rw [if_pos ht] at h
      unfold rdB
      rw [if_neg h]
    · rfl
open Classical in
noncomputable def rtR (a : ArS) (g : GeoS) (st ep : Int) : List (List UInt8) := if rtX a g st ep = 0 then alR a g st ep else []
theorem rtX_off {a : ArS} {g : GeoS} {st ep : Int} (hT : OkT g st ep) (h : a.off = true) : rtX a g st ep = 130 ∧ rtR a g st ep = [] ∧ rtB a g st ep = [] := by
  have e : rtX a g st ep = 130 := by unfold rtX alX; rw [if_pos hT, if_pos h]
  refine ⟨e, ?_, ?_⟩
  · unfold rtR; rw [e, if_neg (by decide)]
  · unfold rtB; rw [e, if_neg (by decide)]
theorem rtR_row {a : ArS} {g : GeoS} {st ep : Int} (hT : OkT g st ep) (h0 : rtX a g st ep = 0) : (rtR a g st ep).length = nT g ∧ ∀ i, i < nT g → (ro (rtR a g st ep) i).length = g.z.toNat := by
  have z := okG_nat hT.1
  have ea : alX a g st ep = 0 := by unfold rtX at h0; rw [if_pos hT] at h0; exact h0
  have eo : shX g.k g.m (hsT a g st ep) (dsT a g st) = 0 := by
    unfold alX at ea
    split at ea
    · cases ea
    · split at ea
      · assumption
      · cases ea
  have er : rtR a g st ep = rowsP g.k.toNat g.m.toNat (hsT a g st ep) (dsT a g st) (oneX (hsT a g st ep) (dsT a g st)).toNat := by
    unfold rtR alR shR
    rw [if_pos h0, if_pos eo]
  have e1 : oneX (hsT a g st ep) (dsT a g st) ≠ -1 := fun e => by
    have := (sh_shard (hs := hsT a g st ep) (L := dsT a g st) (okG_c hT.1) (fun q => q.2.2 e)).1
    rw [this] at eo
    cases eo
  have e2 : (oneX (hsT a g st ep) (dsT a g st)).toNat = g.z.toNat := by
    rcases oneX_cases (hsT a g st ep) (dsT a g st) with c | ⟨n, c1, c2, i, c3⟩
    · exact absurd c e1
    · have hi : i < nT g := by rw [← hsT_length (a := a) (st := st) (ep := ep)]; exact hb_in c3
      have c4 := c2 i c3
      rw [hsT_hb hi] at c3
      unfold dsT at c4
      rw [ro_mkL hi, has_len hT.1 c3] at c4
      rw [c1, c4]
      simp
  rw [er, e2]
  refine ⟨rowsP_length _ _ _ _ _, fun i hi => ?_⟩
  rw [rowsP_ro hi, upto_length]
section
variable {a : ArS} {g : GeoS} {st ep : Int}
/-- a shard as the program holds it: none, if it is not there -/
def shdF (a : ArS) (g : GeoS) (st ep : Int) (i : Nat) : List UInt8 := if hsF a g st ep i = true then upD (stG g st) (rbT a g st i) else []
def shdT (a : ArS) (g : GeoS) (st ep : Int) : List (List UInt8) := mkL (nT g) (shdF a g st ep)
theorem shdT_length : (shdT a g st ep).length = nT g := mkL_length _ _
theorem ls_sh : shX g.k g.m (hsT a g st ep) (shdT a g st ep) = shX g.k g.m (hsT a g st ep) (dsT a g st) ∧ shR g.k g.m (hsT a g st ep) (shdT a g st ep) = alR a g st ep ∧ shP g.k g.m (hsT a g st ep) (shdT a g st ep) = alP a g st ep :=
  sh_same (by rw [shdT_length, dsT_length]) fun i hi => by
    have hi2 : i < nT g := by rw [← hsT_length (a := a) (st := st) (ep := ep)]; exact hb_in hi
    rw [hsT_hb hi2] at hi
    unfold shdT dsT
    rw [ro_mkL hi2, ro_mkL hi2]
    exact if_pos hi
theorem ls_len (hg : okG g) (i : Nat) : (shdF a g st ep i).length ≤ g.z.toNat := by
  unfold shdF
  by_cases h : hsF a g st ep i = true
  · rw [if_pos h, has_len hg h]; exact Nat.le_refl _
  · rw [if_neg h]; simp
/-- good shards, where those of a list are not -/
def gdF (a : ArS) (g : GeoS) (st ep : Int) (P : List Nat) (i : Nat) : Bool := hsF a g st ep i && !decide (i ∈ P)
theorem gd_nil (i : Nat) : gdF a g st ep [] i = hsF a g st ep i := by simp [gdF]
theorem gd_snoc (P : List Nat) (j i : Nat) : gdF a g st ep (P ++ [j]) i = if i = j then false else gdF a g st ep P i := by
  unfold gdF
  by_cases e : i = j
  · rw [if_pos e, e]; simp
  · rw [if_neg e]; simp [e]
theorem bd_gd (i : Nat) : bdF a g st ep i = (!gdF a g st ep (alP a g st ep) i && lvT a (diG g st (i : Int))) := by
  unfold bdF gdF
  rw [Bool.not_and, Bool.not_not]
theorem shP_in {k m : Int} {hs : List Bool} {L : List (List UInt8)} : ∀ i, i ∈ shP k m hs L → i < k.toNat + m.toNat := fun i hi => by
  unfold shP at hi
  split at hi
  · exact (plc_mem.1 hi).1
  · cases hi
theorem al_ok (ho : a.off = false) : alX a g st ep = if shX g.k g.m (hsT a g st ep) (dsT a g st) = 0 then 0 else 150 := by
  unfold alX
  rw [if_neg (by rw [ho]; decide)]
theorem lv_at {d : Int} (h0 : 0 ≤ d) : lvT a d = (decide (d < (a.D.length : Int)) && !(a.D.getD d.toNat default).dead) := by
  unfold lvT diA
  congr 1
  refine decide_eq_decide.2 ?_
  unfold thA
  exact ⟨fun q => q.2, fun q => ⟨h0, q⟩⟩
end
end Go.Proofs.YtddnfhfangfgeaaGreat.Gf

namespace Go.Proofs.YtddnfhfangfgeaaGreat.Gf
set_option linter.unusedVariables false
set_option linter.unusedSimpArgs false
open Go.RowKit
section
variable {w : World} {pa pf : Option Addr} {g : GeoS} {st ep : Int}
set_option maxRecDepth 100000 in
set_option maxHeartbeats 1000000 in
theorem piss_any {x : Bool} (hx : decide (0 ≤ st ∧ st < g.s) = x) : Calls Tryz.prog 50 #[aggP pa pf g st ep] w fun e w' => e = .returned (.bool x) ∧ Below w.heap.size w w' := by
  subst hx
  obtain ⟨k, m, z, s, t, o⟩ := g
  have L0 := (spot_new w pa pf ⟨k, m, z, s, t, o⟩ st ep 103).all
  simp only [cellsP] at L0
  obtain ⟨x0, x1, x2, x3, x4, x5, x6, x7, x8, x9⟩ := L0
  have F0 := belL w (.cells (cellsP pa pf ⟨k, m, z, s, t, o⟩ st ep) 103)
  simp only [cellsP] at F0
  unfold aggP
  simp only [cellsP]
  by_cases h1 : 0 ≤ st
  · by_cases h2 : st < s
    · rw [decide_eq_true ⟨h1, h2⟩]
      have h1' : st ≥ 0 := h1
      go_enter Tryz.func50, Tryz.ntmps50
      go_wp2
      go_ret
      exact ⟨rfl, F0⟩
    · rw [decide_eq_false (fun q => h2 q.2)]
      have h1' : st ≥ 0 := h1
      go_enter Tryz.func50, Tryz.ntmps50
      go_wp2
      go_ret
      exact ⟨rfl, F0⟩
  · rw [decide_eq_false (fun q => h1 q.1)]
    have h1' : ¬ st ≥ 0 := h1
    go_enter Tryz.func50, Tryz.ntmps50
    go_wp2
    go_ret
    exact ⟨rfl, F0⟩
set_option maxRecDepth 100000 in
set_option maxHeartbeats 1000000 in
theorem pise_any {x : Bool} (hx : decide (0 ≤ ep ∧ ep ≤ 2147483647) = x) : Calls Tryz.prog 51 #[aggP pa pf g st ep] w fun e w' => e = .returned (.bool x) ∧ Below w.heap.size w w' := by
  subst hx
  obtain ⟨k, m, z, s, t, o⟩ := g
  have L0 := (spot_new w pa pf ⟨k, m, z, s, t, o⟩ st ep 103).all
  simp only [cellsP] at L0
  obtain ⟨x0, x1, x2, x3, x4, x5, x6, x7, x8, x9⟩ := L0
  have F0 := belL w (.cells (cellsP pa pf ⟨k, m, z, s, t, o⟩ st ep) 103)
  simp only [cellsP] at F0
  unfold aggP
  simp only [cellsP]
  by_cases h1 : 0 ≤ ep
  · by_cases h2 : ep ≤ 2147483647
    · rw [decide_eq_true ⟨h1, h2⟩]
      have h1' : ep ≥ 0 := h1
      go_enter Tryz.func51, Tryz.ntmps51
      go_wp2
      go_ret
      exact ⟨rfl, F0⟩
    · rw [decide_eq_false (fun q => h2 q.2)]
      have h1' : ep ≥ 0 := h1
      go_enter Tryz.func51, Tryz.ntmps51
      go_wp2
      go_ret
      exact ⟨rfl, F0⟩
  · rw [decide_eq_false (fun q => h1 q.1)]
    have h1' : ¬ ep ≥ 0 := h1
    go_enter Tryz.func51, Tryz.ntmps51
    go_wp2
    go_ret
    exact ⟨rfl, F0⟩
set_option maxRecDepth 100000 in
set_option maxHeartbeats 1000000 in
theorem pcount_any {x : Int} (hx : IntKind.i64.wrap (g.k + g.m) = x) : Calls Tryz.prog 55 #[aggP pa pf g st ep] w fun e w' => e = .returned (.int .i64 x) ∧ Below w.heap.size w w' := by
  obtain ⟨k, m, z, s, t, o⟩ := g
  simp only at hx
  have L0 := (spot_new w pa pf ⟨k, m, z, s, t, o⟩ st ep 103).all
  simp only [cellsP] at L0
  obtain ⟨x0, x1, x2, x3, x4, x5, x6, x7, x8, x9⟩ := L0
  have F0 := belL w (.cells (cellsP pa pf ⟨k, m, z, s, t, o⟩ st ep) 103)
  simp only [cellsP] at F0
  unfold aggP
  simp only [cellsP]
  go_enter Tryz.func55, Tryz.ntmps55
  go_wp2
  go_ret
  exact ⟨rfl, F0⟩
set_option maxRecDepth 100000 in
set_option maxHeartbeats 1000000 in
theorem pplace_any (hg : g.Wf) (hst : (Lit.int .i64 st).wf = true) {x : Int} (hx : stG g st = x) : Calls Tryz.prog 86 #[aggP pa pf g st ep] w fun e w' => e = .returned (.int .i64 x) ∧ Below w.heap.size w w' := by
  have K := fun W => @lstripe_any W g hg st hst x hx
  clear hx
  obtain ⟨k, m, z, s, t, o⟩ := g
  rw [show aggG ⟨k, m, z, s, t, o⟩ = .agg #[.int .i64 k, .int .i64 m, .int .i64 z, .int .i64 s, .int .i64 t, .int .i64 o] from rfl] at K
  have L0 := (spot_new w pa pf ⟨k, m, z, s, t, o⟩ st ep 103).all
  simp only [cellsP] at L0
  obtain ⟨x0, x1, x2, x3, x4, x5, x6, x7, x8, x9⟩ := L0
  have F0 := belL w (.cells (cellsP pa pf ⟨k, m, z, s, t, o⟩ st ep) 103)
  simp only [cellsP] at F0
  unfold aggP
  simp only [cellsP]
  go_enter Tryz.func86, Tryz.ntmps86
  go_wp2_with fail
  refine (K _).mono ?_
  rintro _ w1 ⟨rfl, B1⟩
  have F1 := F0.stepL B1 F0.size
  clear K B1 F0 x0 x1 x2 x3 x4 x5 x6 x7 x8 x9
  go_wp2
  go_ret
  exact ⟨rfl, F1⟩
set_option maxRecDepth 100000 in
set_option maxHeartbeats 1000000 in
theorem pdisk_any (hg : g.Wf) (hst : (Lit.int .i64 st).wf = true) {sh : Int} (hsh : (Lit.int .i64 sh).wf = true) {x : Int} (hx : diG g st sh = x) : Calls Tryz.prog 87 #[aggP pa pf g st ep, .int .i64 sh] w fun e w' => e = .returned (.int .i64 x) ∧ Below w.heap.size w w' := by
  have K := fun W => @ldisk_any W g hg st sh hst hsh x hx
  clear hx
  obtain ⟨k, m, z, s, t, o⟩ := g
  rw [show aggG ⟨k, m, z, s, t, o⟩ = .agg #[.int .i64 k, .int .i64 m, .int .i64 z, .int .i64 s, .int .i64 t, .int .i64 o] from rfl] at K
  have L0 := (spot_new w pa pf ⟨k, m, z, s, t, o⟩ st ep 103).all
  simp only [cellsP] at L0
  obtain ⟨x0, x1, x2, x3, x4, x5, x6, x7, x8, x9⟩ := L0
  have F0 := belL w (.cells (cellsP pa pf ⟨k, m, z, s, t, o⟩ st ep) 103)
  simp only [cellsP] at F0
  unfold aggP
  simp only [cellsP]
  go_enter Tryz.func87, Tryz.ntmps87
  go_wp2_with fail
  refine (K _).mono ?_
  rintro _ w1 ⟨rfl, B1⟩
  have F1 := F0.stepL B1 F0.size
  clear K B1 F0 x0 x1 x2 x3 x4 x5 x6 x7 x8 x9
  go_wp2
  go_ret
  exact ⟨rfl, F1⟩
end
/-- where the first false one stands -/
def IdxB (w : World) (bs : List Bool) (e : Ending) (w' : World) : Prop := ∃ z : Int, e = .returned (.int .i64 z) ∧ (0 ≤ z ↔ false ∈ bs) ∧ w' = w
set_option maxRecDepth 100000 in
set_option maxHeartbeats 1000000 in
theorem idxb_any {w : World} {v : Value} {bs : List Bool} (h : RdB w v bs) (hl : bs.length ≤ 1000) : Calls Tryz.prog 123 #[v, .bool false] w (IdxB w bs) := by
  obtain ⟨a, c, rfl⟩ := h.form
  have H : Hid (RdB w (.slice a bs.length c) bs) := h
  clear h
  go_enter Tryz.func123, Tryz.ntmps123
  go_wp2
  go_loopw [8] (fun i wr => ∃ r : Nat, r ≤ bs.length ∧ i = .int .i64 (r : Int) ∧ wr = w ∧ ∀ j, j < r → hb bs j = true) (fun i _ => bs.length - (intOf i).toNat)
  case atStart => exact ⟨0, Nat.zero_le _, rfl, rfl, fun j hj => absurd hj (Nat.not_lt_zero _)⟩
  case round =>
    obtain ⟨r, hr, rfl, rfl, hall⟩ := hrel
    by_cases hlt : r < bs.length
    · have hlt' : (r : Int) < (bs.length : Int) := by omega
      have g1 : IntKind.i64.wrap ((r : Int) + 1) = ((r + 1 : Nat) : Int) := by rw [IntKind.wrap_i64]; omega
      obtain ⟨b, off, rfl, _, cx⟩ := H.out.at hlt
      cases hx : hb bs r with
      | false =>
        rw [hx] at cx
        have E : Hid (false ∈ bs) := by
          show _ ∈ _
          rw [← hx]
          unfold hb
          rw [show bs.getD r false = bs[r] by simp [List.getD, hlt]]
          exact List.getElem_mem hlt
        clear hall hx
        go_wp2
        go_ret
        exact ⟨_, rfl, ⟨fun _ => E.out, fun _ => by omega⟩, rfl⟩
      | true =>
        rw [hx] at cx
        have E : Hid (∀ j, j < r + 1 → hb bs j = true) := fun j hj => by
          by_cases e : j = r
          · rw [e]; exact hx
          · exact hall j (by omega)
        clear hall hx
        go_wp2
        go_roundw
        case rel => exact ⟨r + 1, by omega, by go_num, by first | rfl | trivial, E.out⟩
        case measure => simp [intOf]; omega
    · obtain rfl : r = bs.length := by omega
      have hlt' : ¬ (bs.length : Int) < (bs.length : Int) := by omega
      have E : Hid (¬ false ∈ bs) := fun hm => by
        obtain ⟨j, hj, e⟩ := List.getElem_of_mem hm
        have := hall j hj
        unfold hb at this
        rw [show bs.getD j false = bs[j] by simp [List.getD, hj], e] at this
        cases this
      clear hall
      go_wp2
      go_ret
      exact ⟨_, rfl, ⟨fun h => by omega, fun h => absurd h E.out⟩, rfl⟩
set_option maxRecDepth 100000 in
theorem contb_any {w : World} {v : Value} {bs : List Bool} (h : RdB w v bs) (hl : bs.length ≤ 1000) : Calls Tryz.prog 84 #[v, .bool false] w fun e w' => e = .returned (.bool (decide (false ∈ bs))) ∧ w' = w := by
  have K := idxb_any h hl
  obtain ⟨a, c, rfl⟩ := h.form
  clear h
  by_cases hm : false ∈ bs
  · rw [decide_eq_true hm]
    go_enter Tryz.func84, Tryz.ntmps84
    go_wp2_with fail
    refine K.mono ?_
    rintro _ wq ⟨z, rfl, hz, hwq⟩
    rw [hwq]
    have z1 : z ≥ 0 := hz.2 hm
    clear hwq wq K hz hm
    go_wp2
    go_ret
    exact ⟨rfl, rfl⟩
  · rw [decide_eq_false hm]
    go_enter Tryz.func84, Tryz.ntmps84
    go_wp2_with fail
    refine K.mono ?_
    rintro _ wq ⟨z, rfl, hz, hwq⟩
    rw [hwq]
    have z1 : z < 0 := by
      by_cases q : 0 ≤ z
      · exact absurd (hz.1 q) hm
      · omega
    have z2 : ¬ 0 ≤ z := by omega
    have z3 : decide (0 ≤ z) = false := decide_eq_false z2
    clear hwq wq K hz hm
    go_wp2
    go_ret
    exact ⟨rfl, rfl⟩
/-- what keeps a call from being done -/
def rfX (g : GeoS) (bs : List Bool) : Int := if okG g then (if false ∈ bs then 1 else 0) else 50
section
variable {w : World} {g : GeoS} {st ep : Int}
set_option maxRecDepth 100000 in
set_option maxHeartbeats 1000000 in
theorem pref_none {pa pf : Option Addr} (hn : pa = none ∨ pf = none) {a : Option Addr} {n c : Nat} : Calls Tryz.prog 49 #[aggP pa pf g st ep, .slice a n c] w fun e w' => e = .returned (.int .i64 1) ∧ Below w.heap.size w w' := by
  obtain ⟨k, m, z, s, t, o⟩ := g
  have L0 := (spot_new w pa pf ⟨k, m, z, s, t, o⟩ st ep 103).all
  simp only [cellsP] at L0
  obtain ⟨x0, x1, x2, x3, x4, x5, x6, x7, x8, x9⟩ := L0
  have F0 := belL w (.cells (cellsP pa pf ⟨k, m, z, s, t, o⟩ st ep) 103)
  simp only [cellsP] at F0
  unfold aggP
  simp only [cellsP]
  cases pa with
  | none =>
    go_enter Tryz.func49, Tryz.ntmps49
    go_wp2
    go_ret
    exact ⟨rfl, F0⟩
  | some A =>
    have e : pf = none := hn.resolve_left (by simp)
    subst e
    go_enter Tryz.func49, Tryz.ntmps49
    go_wp2
    go_ret
    exact ⟨rfl, F0⟩
set_option maxRecDepth 100000 in
set_option maxHeartbeats 1000000 in
theorem pref_any {ab fb : Nat} (hg : g.Wf) {v : Value} {bs : List Bool} (hb : RdB w v bs) (hl : bs.length ≤ 1000) {x : Int} (hx : rfX g bs = x) : Calls Tryz.prog 49 #[aggP (some ⟨ab, 0, none⟩) (some ⟨fb, 0, none⟩) g st ep, v] w fun e w' => e = .returned (.int .i64 x) ∧ Below w.heap.size w w' := by
  have KC := fun W => @lcheck_any W g hg _ rfl
  have KK := fun W (h : RdB W v bs) => contb_any h hl
  by_cases ok : okG g
  · have ec : chG g = 0 := if_pos ok
    rw [ec] at KC
    have ex : rfX g bs = if false ∈ bs then 1 else 0 := if_pos ok
    rw [ex] at hx
    clear ec ex ok
    obtain ⟨k, m, z, s, t, o⟩ := g
    rw [show aggG ⟨k, m, z, s, t, o⟩ = .agg #[.int .i64 k, .int .i64 m, .int .i64 z, .int .i64 s, .int .i64 t, .int .i64 o] from rfl] at KC
    have L0 := (spot_new w (some ⟨ab, 0, none⟩) (some ⟨fb, 0, none⟩) ⟨k, m, z, s, t, o⟩ st ep 103).all
    simp only [cellsP] at L0
    obtain ⟨x0, x1, x2, x3, x4, x5, x6, x7, x8, x9⟩ := L0
    have F0 := belL w (.cells (cellsP (some ⟨ab, 0, none⟩) (some ⟨fb, 0, none⟩) ⟨k, m, z, s, t, o⟩ st ep) 103)
    simp only [cellsP] at F0
    unfold aggP
    simp only [cellsP]
    obtain ⟨va, vc, rfl⟩ := hb.form
    by_cases hm : false ∈ bs
    · rw [decide_eq_true hm] at KK
      rw [if_pos hm] at hx
      subst hx
      clear hm
      go_enter Tryz.func49, Tryz.ntmps49
      go_wp2_with fail
      refine (KC _).mono ?_
      rintro _ w1 ⟨rfl, B1⟩
      have F1 := F0.stepL B1 F0.size
      have K1 := KK _ (hb.below F1)
      clear KC KK B1 F0 x0 x1 x2 x3 x4 x5 x6 x7 x8 x9
      go_wp2_with fail
      refine K1.mono ?_
      rintro _ wq ⟨rfl, hwq⟩
      rw [hwq]
      clear hwq wq K1
      go_wp2
      go_ret
      exact ⟨rfl, F1⟩
    · rw [decide_eq_false hm] at KK
      rw [if_neg hm] at hx
      subst hx
      clear hm
      go_enter Tryz.func49, Tryz.ntmps49
      go_wp2_with fail
      refine (KC _).mono ?_
      rintro _ w1 ⟨rfl, B1⟩
      have F1 := F0.stepL B1 F0.size
      have K1 := KK _ (hb.below F1)
      clear KC KK B1 F0 x0 x1 x2 x3 x4 x5 x6 x7 x8 x9
      go_wp2_with fail
      refine K1.mono ?_
      rintro _ wq ⟨rfl, hwq⟩
      rw [hwq]
      clear hwq wq K1
      go_wp2
      go_ret
      exact ⟨rfl, F1⟩
  · have ec : chG g = 50 := if_neg ok
    rw [ec] at KC
    have ex : rfX g bs = 50 := if_neg ok
    rw [ex] at hx
    subst hx
    clear ec ex ok KK
    obtain ⟨k, m, z, s, t, o⟩ := g
    rw [show aggG ⟨k, m, z, s, t, o⟩ = .agg #[.int .i64 k, .int .i64 m, .int .i64 z, .int .i64 s, .int .i64 t, .int .i64 o] from rfl] at KC
    have L0 := (spot_new w (some ⟨ab, 0, none⟩) (some ⟨fb, 0, none⟩) ⟨k, m, z, s, t, o⟩ st ep 103).all
    simp only [cellsP] at L0
    obtain ⟨x0, x1, x2, x3, x4, x5, x6, x7, x8, x9⟩ := L0
    have F0 := belL w (.cells (cellsP (some ⟨ab, 0, none⟩) (some ⟨fb, 0, none⟩) ⟨k, m, z, s, t, o⟩ st ep) 103)
    simp only [cellsP] at F0
    unfold aggP
    simp only [cellsP]
    obtain ⟨va, vc, rfl⟩ := hb.form
    go_enter Tryz.func49, Tryz.ntmps49
    go_wp2_with fail
    refine (KC _).mono ?_
    rintro _ w1 ⟨rfl, B1⟩
    have F1 := F0.stepL B1 F0.size
    clear KC B1 F0 x0 x1 x2 x3 x4 x5 x6 x7 x8 x9
    go_wp2
    go_ret
    exact ⟨rfl, F1⟩
end
end Go.Proofs.YtddnfhfangfgeaaGreat.Gf

namespace Go.Proofs.YtddnfhfangfgeaaGreat.Gf
set_option linter.unusedVariables false
set_option linter.unusedSimpArgs false
open Go.RowKit
/-- shards in new memory, places, an error -/
def MakesA15 (w : World) (X : Int) (R : List (List UInt8)) (B : List Nat) (e : Ending) (w' : World) : Prop := ∃ va vb, e = .returned (.tuple #[va, vb, .int .i64 X]) ∧ FarL w' w.heap.size va R ∧ OwnI w' w.heap.size 3 vb B ∧ Below w.heap.size w w'
theorem nilA15 {w w' : World} {x : Int} (b : Below w.heap.size w w') {X : Int} {R : List (List UInt8)} {B : List Nat} (h : X = x ∧ R = [] ∧ B = []) : MakesA15 w X R B (.returned (.tuple #[.slice none 0 0, .slice none 0 0, .int .i64 x])) w' := by
  obtain ⟨rfl, rfl, rfl⟩ := h
  exact ⟨_, _, rfl, FarL.nil _ _, OwnI.nil _ _ _, b⟩
/-- .. the data in new memory -/
def MakesL15 (w : World) (X : Int) (D : List UInt8) (B : List Nat) (e : Ending) (w' : World) : Prop := ∃ vd vb, e = .returned (.tuple #[vd, vb, .int .i64 X]) ∧ w'.ownsRow w.heap.size 5 1 vd D.length (D.map Gf.vb) ∧ OwnI w' w.heap.size 3 vb B ∧ Below w.heap.size w w'
structure TwoL (w : World) (gs gh n : Nat) (V : Nat → Value) (L : Nat → List UInt8) (H : Nat → Bool) : Prop where
  rs : w.rowIs gs 36 n V
  rh : w.rowIs gh 4 n (fun i => .bool (H i))
  each : ∀ i, i < n → Rd w (V i) (L i)
  as_ : ∀ i, i < n → Apart gs (V i)
  ah : ∀ i, i < n → Apart gh (V i)
  ne : gs ≠ gh
  n1 : n ≤ 1000
section
variable {w w' : World} {gs gh n : Nat} {V : Nat → Value} {L : Nat → List UInt8} {H : Nat → Bool}
theorem TwoL.below (h : TwoL w gs gh n V L H) (hb : Below w.heap.size w w') : TwoL w' gs gh n V L H :=
  ⟨h.rs.of_block (hb.block gs h.rs.lt), h.rh.of_block (hb.block gh h.rh.lt), fun i hi => (h.each i hi).below hb, h.as_, h.ah, h.ne, h.n1⟩
theorem TwoL.congr {L' : Nat → List UInt8} {H' : Nat → Bool} (h : TwoL w gs gh n V L H) (eL : ∀ i, i < n → L i = L' i) (eH : ∀ i, i < n → H i = H' i) : TwoL w gs gh n V L' H' :=
  ⟨h.rs, h.rh.congr fun i hi => by rw [eH i hi], fun i hi => by rw [← eL i hi]; exact h.each i hi, h.as_, h.ah, h.ne, h.n1⟩
theorem TwoL.made (h1 : w.rowIs gs 36 n (fun _ => .slice none 0 0)) (h2 : w.rowIs gh 4 n (fun _ => .bool false)) (hne : gs ≠ gh) (hn : n ≤ 1000) : TwoL w gs gh n (fun _ => .slice none 0 0) (fun _ => []) (fun _ => false) :=
  ⟨h1, h2, fun _ _ => Or.inl ⟨none, 0, rfl, rfl, Nat.zero_le _, fun _ => rfl⟩, fun _ _ x n c e => by simp at e, fun _ _ x n c e => by simp at e, hne, hn⟩
theorem FarV.apartB {v : Value} {k : Nat} (h : FarV w v) (hk : k < w.heap.size) : Apart k v := fun x n c e => (h x n c e).imp id fun q hq => by rw [hq] at q; omega
/-- a slice is laid at its place -/
theorem TwoL.putS (h : TwoL w gs gh n V L H) {x : Value} {p : List UInt8} (hx : Rd w x p) (hs : Apart gs x) (hh : Apart gh x) (r : Nat) : TwoL (w.setCell ⟨gs, r, none⟩ x) gs gh n (fun i => if i = r then x else V i) (fun i => if i = r then p else L i) H := by
  have O : Only gs w (w.setCell ⟨gs, r, none⟩ x) := (Only.refl gs w).setCell r x
  refine ⟨h.rs.set r x, h.rh.of_block (O.block gh (fun e => h.ne e.symm)), fun i hi => ?_, fun i hi => ?_, fun i hi => ?_, h.ne, h.n1⟩
  · show Rd _ (if i = r then x else V i) (if i = r then p else L i)
    split
    · exact hx.only hs O
    · exact (h.each i hi).only (h.as_ i hi) O
  · show Apart gs (if i = r then x else V i)
    split
    · exact hs
    · exact h.as_ i hi
  · show Apart gh (if i = r then x else V i)
    split
    · exact hh
    · exact h.ah i hi
/-- a bool is laid at its place -/
theorem TwoL.putB (h : TwoL w gs gh n V L H) (r : Nat) (b : Bool) : TwoL (w.setCell ⟨gh, r, none⟩ (.bool b)) gs gh n V L (fun i => if i = r then b else H i) := by
  have O : Only gh w (w.setCell ⟨gh, r, none⟩ (.bool b)) := (Only.refl gh w).setCell r (.bool b)
  refine ⟨h.rs.of_block (O.block gs h.ne), (h.rh.set r (.bool b)).congr fun i hi => ?_, fun i hi => (h.each i hi).only (h.ah i hi) O, h.as_, h.ah, h.ne, h.n1⟩
  by_cases e : i = r
  · simp [e]
  · simp [e]
theorem TwoL.rsOf (h : TwoL w gs gh n V L H) : Rs w (.slice (some ⟨gs, 0, none⟩) n n) (mkL n L) := by
  have hl : (mkL n L).length = n := mkL_length _ _
  refine ⟨some ⟨gs, 0, none⟩, n, by rw [hl], by rw [hl]; exact Nat.le_refl _, by unfold maxLen; have := h.n1; omega, nofun, fun i hi => ?_⟩
  rw [hl] at hi
  exact ⟨gs, 0, V i, rfl, h.rs.lt, by rw [Nat.zero_add]; exact h.rs.cell hi, by rw [ro_mkL hi]; exact h.each i hi⟩
theorem TwoL.rdB (h : TwoL w gs gh n V L H) : RdB w (.slice (some ⟨gh, 0, none⟩) n n) ((List.range n).map H) := by
  have hl : ((List.range n).map H).length = n := by simp
  refine ⟨some ⟨gh, 0, none⟩, n, by rw [hl], by rw [hl]; exact Nat.le_refl _, by unfold maxLen; have := h.n1; omega, nofun, fun i hi => ?_⟩
  rw [hl] at hi
  exact ⟨gh, 0, rfl, h.rh.lt, by rw [Nat.zero_add, h.rh.cell hi]; simp [hb, List.getD, hi]⟩
end
theorem FarL.only {w w' : World} {base gh : Nat} {v : Value} {L : List (List UInt8)} (h : FarL w base v L) (ho : Only gh w w') (hg : gh < base) : FarL w' base v L := by
  obtain ⟨T, u, vals, hv, hr⟩ := h
  have kb : ∀ {e n : Nat} {x : Value} {xs : List Value}, w.ownsRow base e 1 x n xs → w'.ownsRow base e 1 x n xs := fun h => owns_block h fun q hq => ho.block q (fun e => by have := (World.ownsRow.lt h q hq).1; omega)
  exact ⟨T, u, vals, kb hv, ⟨fun i x hx => kb (hr.own i x hx), hr.diff, hr.out⟩⟩
theorem OwnI.only {w w' : World} {base e gh : Nat} {v : Value} {zs : List Nat} (h : OwnI w base e v zs) (ho : Only gh w w') (hg : gh < base) : OwnI w' base e v zs := owns_block h fun q hq => ho.block q (fun e => by have := (World.ownsRow.lt h q hq).1; omega)
/-- places that are read on while the blocks of G turn -/
def ToldI (w : World) (G : Nat → Prop) (v : Value) (zs : List Nat) : Prop := ∃ a c, v = .slice a zs.length c ∧ (zs ≠ [] → ∃ b, a = some ⟨b, 0, none⟩ ∧ b < w.heap.size ∧ ¬ G b ∧ ∀ i, i < zs.length → w.cell? ⟨b, i, none⟩ = some (.int .i64 ((zs.getD i 0 : Nat) : Int)))
section
variable {w w' : World} {G G' : Nat → Prop} {v : Value} {zs : List Nat}
theorem ToldI.of_own {base e : Nat} (h : OwnI w base e v zs) (hG : ∀ k, G k → k < base) : ToldI w G v zs := by
  obtain ⟨a, c, rfl⟩ := h.form
  refine ⟨a, c, rfl, fun h0 => ?_⟩
  obtain ⟨b, e1, h1, h2, _⟩ := h.cell (List.length_pos_iff.2 h0)
  refine ⟨b, e1, h1, fun q => by have := hG b q; omega, fun i hi => ?_⟩
  obtain ⟨b', e2, _, _, h3⟩ := h.cell hi
  rw [e1] at e2
  simp at e2
  rw [e2]
  exact h3
theorem ToldI.of_row {g t n : Nat} {f : Nat → Value} (h : w.rowIs g t n f) (hn : n = zs.length) (hf : ∀ i, i < zs.length → f i = .int .i64 ((zs.getD i 0 : Nat) : Int)) (hg : ¬ G g) : ToldI w G (.slice (some ⟨g, 0, none⟩) n n) zs := by
  subst hn
  exact ⟨_, _, rfl, fun _ => ⟨g, rfl, h.lt, hg, fun i hi => by rw [h.cell hi, hf i hi]⟩⟩
theorem ToldI.form (h : ToldI w G v zs) : ∃ a c, v = .slice a zs.length c := by
  obtain ⟨a, c, e, _⟩ := h
  exact ⟨a, c, e⟩
theorem ToldI.grew (h : ToldI w G v zs) (g : Grew G w G' w') : ToldI w' G' v zs := by
  obtain ⟨a, c, e, h⟩ := h
  refine ⟨a, c, e, fun h0 => ?_⟩
  obtain ⟨b, e1, h1, h2, h3⟩ := h h0
  exact ⟨b, e1, Nat.lt_of_lt_of_le h1 g.turn.size, g.off h1 h2, fun i hi => (g.turn.cell (p := ⟨b, i, none⟩) h1 h2).trans (h3 i hi)⟩
theorem ToldI.below (h : ToldI w G v zs) (hb : Below w.heap.size w w') : ToldI w' G v zs := h.grew (Grew.of_below hb)
theorem ToldI.at {a : Option Addr} {n c : Nat} (h : ToldI w G (.slice a n c) zs) {i : Nat} (hi : i < zs.length) : ∃ b, a = some ⟨b, 0, none⟩ ∧ b < w.heap.size ∧ ¬ G b ∧ w.cell? ⟨b, i, none⟩ = some (.int .i64 ((zs.getD i 0 : Nat) : Int)) := by
  obtain ⟨a', c', e, h⟩ := h
  simp at e
  obtain ⟨rfl, _⟩ := e
  obtain ⟨b, e1, h1, h2, h3⟩ := h (fun e => by rw [e] at hi; simp at hi)
  exact ⟨b, e1, h1, h2, h3 i hi⟩
end
end Go.Proofs.YtddnfhfangfgeaaGreat.Gf

namespace Go.Proofs.YtddnfhfangfgeaaGreat.Gf
set_option linter.unusedVariables false
set_option linter.unusedSimpArgs false
open Go.RowKit
structure ToldL (w : World) (G : Nat → Prop) (v : Value) (L : List (List UInt8)) : Prop where
  rs : Rs w v L
  ap : ∀ (b off n c : Nat), v = .slice (some ⟨b, off, none⟩) n c → L.length = 0 ∨ ¬ G b
  each : ∀ (i b off n c : Nat) (x : Value), i < L.length → v = .slice (some ⟨b, off, none⟩) n c → w.cell? ⟨b, off + i, none⟩ = some x → ApartG G x
section
variable {w w' : World} {G G' : Nat → Prop} {v : Value} {L : List (List UInt8)}
theorem ToldL.spot (h : ToldL w G v L) {i b off n c : Nat} (hi : i < L.length) (e : v = .slice (some ⟨b, off, none⟩) n c) : ∃ xa xc, w.cell? ⟨b, off + i, none⟩ = some (.slice xa (ro L i).length xc) ∧ Told w G (.slice xa (ro L i).length xc) (ro L i) ∧ b < w.heap.size ∧ ¬ G b := by
  have hr := h.rs
  subst e
  obtain ⟨b', off', xa, xc, e1, hb, hc, hR⟩ := hr.at hi
  simp at e1
  obtain ⟨rfl, rfl⟩ := e1
  exact ⟨xa, xc, hc, ⟨hR, h.each i _ _ _ _ _ hi rfl hc⟩, hb, (h.ap _ _ _ _ rfl).resolve_left (by omega)⟩
theorem ToldL.keep (h : ToldL w G v L) (hs : w.heap.size ≤ w'.heap.size) (hc : ∀ k, k < w.heap.size → ¬ G k → w'.heap[k]? = w.heap[k]?) (hG : ∀ k, k < w.heap.size → ¬ G k → ¬ G' k) (hR : ∀ x p, Told w G x p → Told w' G' x p) : ToldL w' G' v L := by
  have hr := h.rs
  obtain ⟨a, cap, h1, h2, h3, h4, h5⟩ := hr
  have cell : ∀ i b off, i < L.length → a = some ⟨b, off, none⟩ → w'.cell? ⟨b, off + i, none⟩ = w.cell? ⟨b, off + i, none⟩ := fun i b off hi e => by
    obtain ⟨_, _, _, _, hb, hg⟩ := h.spot hi (h1.trans (by rw [e]))
    exact World.cell?_of_block (w := w) (hc b hb hg)
  refine ⟨⟨a, cap, h1, h2, h3, h4, fun i hi => ?_⟩, fun b off n c e => ?_, fun i b off n c x hi e hx => ?_⟩
  · obtain ⟨b, off, x, k1, k2, k3, k4⟩ := h5 i hi
    exact ⟨b, off, x, k1, Nat.lt_of_lt_of_le k2 hs, (cell i b off hi k1).trans k3, (hR x _ ⟨k4, h.each i b off _ _ x hi (h1.trans (by rw [k1])) k3⟩).rd⟩
  · rcases Nat.eq_zero_or_pos L.length with e0 | e0
    · exact Or.inl e0
    · obtain ⟨_, _, _, _, hb, hg⟩ := h.spot e0 e
      exact Or.inr (hG b hb hg)
  · have ea : a = some ⟨b, off, none⟩ := by
      rw [h1] at e
      simp at e
      exact e.1
    rw [cell i b off hi ea] at hx
    obtain ⟨xa, xc, hc2, hT, _⟩ := h.spot hi e
    rw [hx] at hc2
    simp at hc2
    subst hc2
    exact (hR _ _ hT).ap
theorem ToldL.below (h : ToldL w G v L) (hb : Below w.heap.size w w') : ToldL w' G v L := h.keep hb.size (fun k hk _ => hb.block k hk) (fun _ _ hg => hg) (fun x p t => t.below hb)
theorem ToldL.grew (h : ToldL w G v L) (g : Grew G w G' w') : ToldL w' G' v L := h.keep g.turn.size (fun k hk hg => g.turn.block k hk hg) (fun k hk hg => g.off hk hg) (fun x p t => t.grew g)
theorem ToldL.far {base : Nat} (h : FarL w base v L) (hG : ∀ k, G k → k < base) : ToldL w G v L := by
  have hr := h.rs
  obtain ⟨T, u, vals, hv, ho⟩ := h
  have hlen : vals.length = L.length := by have := hv.1; omega
  refine ⟨hr, fun b off n c e => ?_, fun i b off n c x hi e hx => ?_⟩
  · refine Or.inr fun hg => ?_
    have := World.ownsRow.lt hv b (by rw [e]; rfl)
    have := hG b hg
    omega
  · obtain ⟨_, ⟨e2, hn⟩ | ⟨g, cap, cur, e2, hgg, hh, hc, hm, hs, ht⟩⟩ := id hv
    · omega
    · rw [e] at e2
      simp at e2
      obtain ⟨⟨rfl, rfl⟩, rfl, rfl⟩ := e2
      rw [e] at hv
      rw [Nat.zero_add, World.ownsRow.cellAt hv i (by omega)] at hx
      have hp := ho.own i x hx
      exact ApartG.own hp (fun k hk => hG k hk)
end
end Go.Proofs.YtddnfhfangfgeaaGreat.Gf
