/- TEXTS JOINED: WdCA, WdSh, WdLawM, WdStr. -/
import Derived.Test.YtddnfhfangfgeaaGreatChecked
import GoSem.Claim
import GoSem.ClaimJoined
import GoSem.ClaimMapViews
import Derived.JoinedTies
import Derived.KernelRfl
import Derived.WalkKit
import Derived.Deep.QuietTactic
import Derived.BigQuiet
import Derived.WalkLawsBesides
import Derived.WalkSpells
import Derived.OpenShut
import Derived.Deep.AppendLies
import Derived.Laws.CopyOwn
import Derived.Laws.AppendOwnNone
import Derived.Deep.RegionHeld3
import Derived.WalkMore
import Derived.Test.YtddnfhfangfgeaaGreatRows
import Derived.Test.YtddnfhfangfgeaaGreatTome2
import Derived.Test.YtddnfhfangfgeaaGreatTome3
import Derived.Test.YtddnfhfangfgeaaGreatTome6
import Derived.Test.YtddnfhfangfgeaaGreatTome9
import Derived.Test.YtddnfhfangfgeaaGreatTome11
import Derived.Test.YtddnfhfangfgeaaGreatTome13
import Derived.Test.YtddnfhfangfgeaaGreatTome20
import Derived.Test.YtddnfhfangfgeaaGreatTome10
import Derived.Deep.RegionLaw
import Derived.Deep.RegionWith
import Derived.Deep.OwnRows
import Derived.Deep.CutRange
namespace Go.Proofs.YtddnfhfangfgeaaGreat.Gf
set_option linter.unusedVariables false
set_option linter.unusedSimpArgs false
open Go.RowKit
theorem info_int10 : (Tryz.prog.info? 3).map (fun i => (i.zero, i.size, i.bytes)) = some (some (.int .i64 0), 1, 8) := by kernel_rfl
theorem info_bool10 : (Tryz.prog.info? 4).map (fun i => (i.zero, i.size, i.bytes)) = some (some (.bool false), 1, 1) := by kernel_rfl
set_option maxRecDepth 100000 in
set_option maxHeartbeats 2000000 in
theorem epl_any {va : Value} {h : List Bool} {w : World} (hH : RdB w va h) (hl : h.length ≤ 300) : Calls Tryz.prog 140 #[va] w fun e w' => ∃ v, e = .returned v ∧ OwnI w' w.heap.size 3 v (plc (hb h) h.length) ∧ Below w.heap.size w w' := by
  obtain ⟨i0, hi, hz0, hz1, hz2⟩ := info_parts info_int10
  obtain ⟨a, c, rfl⟩ := hH.form
  go_enter Tryz.func140, Tryz.ntmps140
  go_wp2
  go_loopw [3, 8] (fun o i wr => ∃ r : Nat, r ≤ h.length ∧ i = .int .i64 r ∧ OwnI wr w.heap.size 3 o (plc (hb h) r) ∧ Below w.heap.size w wr) (fun _ i _ => h.length - (intOf i).toNat)
  case atStart => exact ⟨0, by omega, rfl, OwnI.nil _ _ _, Below.refl _ _⟩
  case round =>
    obtain ⟨r, hr, rfl, hO, hB⟩ := hrel
    have hsz := hB.size
    have hn : Hid ((plc (hb h) r).length ≤ 300) := by show _ ≤ _; rw [plc_length]; have := cnt_le (hb h) r; omega
    by_cases hlt : r < h.length
    · obtain ⟨b, off, rfl, _, c1⟩ := (hH.below hB).at hlt
      have hlt' : (r : Int) < (h.length : Int) := by omega
      obtain ⟨av, cv, rfl⟩ := hO.form
      have E := plc_succ (hb h) r
      cases e : hb h r with
      | false =>
        rw [e] at c1 E
        have E' : Hid (plc (hb h) (r + 1) = plc (hb h) r) := by show _ = _; rw [E]; simp
        clear hH e E
        go_wp2
        go_roundw
        case rel => exact ⟨r + 1, by omega, by go_num, by rw [E'.out]; exact hO, hB⟩
        case measure => simp [intOf]; omega
      | true =>
        rw [e] at c1 E
        have E' : Hid (plc (hb h) (r + 1) = plc (hb h) r ++ [r]) := E
        clear hH e E
        go_wp2_with (at_builtin; go_loud (refine wpList_append_int rfl (.tmp 14) (.tmp 16) 45 rfl w.heap.size 3 i0 Tryz.underlying45 hi hz0 hz1 hz2 (.slice av (plc (hb h) r).length cv) (plc (hb h) r) rfl hO r _ 1 rfl (by have := hn.out; omega) hsz ?_); intro v' w2 hv2 hb2)
        have HO : Hid (OwnI w2 w.heap.size 3 v' (plc (hb h) (r + 1))) := by show OwnI _ _ _ _ _; rw [E'.out]; exact hv2
        have HB : Hid (Below w.heap.size w w2) := hB.trans hb2
        clear hO hv2 hb2 hB c1
        go_wp2
        go_roundw
        case rel => exact ⟨r + 1, by omega, by go_num, HO.out, HB.out⟩
        case measure => simp [intOf]; omega
    · have e : r = h.length := by omega
      subst e
      have hge : ¬ (h.length : Int) < (h.length : Int) := by omega
      clear hH
      go_wp2
      try rw [Exit.noGoto_ret]
      go_ret
      exact ⟨_, rfl, hO, hB⟩
/-- the points of places -/
def ptsL (zs : List Nat) : List UInt8 := zs.map pt
theorem ptsL_length (zs : List Nat) : (ptsL zs).length = zs.length := List.length_map ..
def ptsF (zs : List Nat) (r i : Nat) : UInt8 := if i < r then pt (zs.getD i 0) else 0
theorem ptsF_step (zs : List Nat) (r i : Nat) : ptsF zs (r + 1) i = if i = r then pt (zs.getD r 0) else ptsF zs r i := by
  unfold ptsF
  by_cases e : i = r
  · subst e; rw [if_pos (by omega), if_pos rfl]
  · rw [if_neg e]
    by_cases h : i < r
    · rw [if_pos h, if_pos (by omega)]
    · rw [if_neg h, if_neg (by omega)]
theorem ptsF_all (zs : List Nat) : upto (ptsF zs zs.length) zs.length = ptsL zs := by
  refine co_ext (by rw [upto_length, ptsL_length]) fun i hi => ?_
  rw [upto_length] at hi
  rw [co_upto_in hi]
  unfold ptsF ptsL
  rw [if_pos hi, co_lt (by rw [List.length_map]; exact hi)]
  simp [List.getD, hi]
set_option maxRecDepth 100000 in
set_option maxHeartbeats 2000000 in
theorem ept_any {va : Value} {zs : List Nat} {w : World} (hH : RdI w va (toI zs)) (hl : zs.length ≤ 300) (hz : ∀ i, i < zs.length → zs.getD i 0 < 256) : Calls Tryz.prog 166 #[va] w fun e w' => ∃ v, e = .returned v ∧ Rd w' v (ptsL zs) ∧ Below w.heap.size w w' := by
  obtain ⟨a, c, e⟩ := hH.form
  rw [toI_length] at e
  subst e
  have hz' : Hid _ := hz
  clear hz
  obtain ⟨n, hn⟩ : ∃ n, Hid (n = zs.length) := ⟨_, rfl⟩
  rw [← hn.out] at hl ⊢
  obtain ⟨i0, hi, hz0, hz1, hz2⟩ := info_parts info_u8
  go_enter Tryz.func166, Tryz.ntmps166
  go_wp2_with (at_make; go_loud (refine wpList_make_full _ rfl (.tmp 7) (.tmp 7) 36 rfl w.heap.size 5 i0 (.int .u8 0) 1 Tryz.underlying36 hi hz0 hz1 _ _ _ _ n rfl rfl (by omega) (by omega) (by rw [hz2]; omega) (by unfold maxLen; omega) (Nat.le_refl _) ?_); intro w1 hown1 hgrow1)
  have R1 : Hid (RowF w1 w.heap.size 5 w.heap.size n n (fun _ => 0)) := RowF.made hown1
  have B1 : Hid (Below w.heap.size w w1) := (Below.refl _ _).grown hgrow1 (Nat.le_refl _) (fun k h => by cases h)
  clear hown1 hgrow1
  go_wp2
  go_loopw [11] (fun v wr => ∃ i : Nat, i ≤ n ∧ v = .int .i64 i ∧ RowF wr w.heap.size 5 w.heap.size n n (ptsF zs i) ∧ Below w.heap.size w wr) (fun v _ => n - (intOf v).toNat)
  case atStart => exact ⟨0, by omega, rfl, R1.out.congr fun j hj => (if_neg (Nat.not_lt_zero _)).symm, B1.out⟩
  case round =>
    obtain ⟨i, hi9, rfl, hR, hB⟩ := hrel
    clear R1 B1
    by_cases hlt : i < n
    · have hlt' : (i : Int) < (n : Int) := by omega
      obtain ⟨sb, so, es, _, cs⟩ := (hH.below hB).at (i := i) (by rw [toI_length, ← hn.out]; exact hlt)
      subst es
      rw [toI_getD] at cs
      have hx := hz'.out i (by rw [← hn.out]; exact hlt)
      obtain ⟨x, hxx⟩ : ∃ x, Hid (x = zs.getD i 0) := ⟨_, rfl⟩
      rw [← hxx.out] at cs hx
      have m1 : (x : Int) % 256 = (x : Int) := by omega
      have c1 := hR.cell hlt
      have f1 := hR.unfrozen i
      have HN : Hid (RowF (World.setCell wr ⟨w.heap.size, i, none⟩ (.int .u8 (x : Int))) w.heap.size 5 w.heap.size n n (ptsF zs (i + 1))) := by
        have := hR.store hlt (pt x) (f' := ptsF zs (i + 1)) (fun j => by rw [ptsF_step, hxx.out])
        rw [pt_toNat hx] at this
        exact this
      have HB : Hid (Below w.heap.size w (World.setCell wr ⟨w.heap.size, i, none⟩ (.int .u8 (x : Int)))) := hB.setCell (p := ⟨w.heap.size, i, none⟩) (Nat.le_refl _) _
      clear hR hB hH
      go_wp2
      go_roundw
      case rel => exact ⟨i + 1, by omega, by go_num, HN.out, HB.out⟩
      case measure => simp [intOf]; omega
    · have hge : ¬ (i : Int) < (n : Int) := by omega
      have ei : i = n := by omega
      have Rt : Hid (Rd wr (.slice (some ⟨w.heap.size, 0, none⟩) n n) (ptsL zs)) := by
        show Rd _ _ _
        rw [← ptsF_all, ← hn.out, ← ei]
        have := hR.rd
        rw [ei] at this ⊢
        exact this
      clear ei hR hH
      go_wp2
      go_ret
      exact ⟨_, rfl, Rt.out, hB⟩
/-- true just where others are not -/
def notM (h : List Bool) : List Bool := (List.range h.length).map fun i => !hb h i
theorem notM_length (h : List Bool) : (notM h).length = h.length := by simp [notM]
theorem notM_at {h : List Bool} {i : Nat} (hi : i < h.length) : hb (notM h) i = !hb h i := by simp [notM, hb, List.getD, hi]
def oppF (h : List Bool) (r i : Nat) : Bool := if i < r then !hb h i else false
theorem oppF_zero (h : List Bool) : oppF h 0 = fun _ => false := by funext i; exact if_neg (Nat.not_lt_zero _)
theorem oppF_step (h : List Bool) (r i : Nat) : oppF h (r + 1) i = if i = r then !hb h r else oppF h r i := by
  unfold oppF
  by_cases e : i = r
  · subst e; rw [if_pos (by omega), if_pos rfl]
  · rw [if_neg e]
    by_cases h : i < r
    · rw [if_pos h, if_pos (by omega)]
    · rw [if_neg h, if_neg (by omega)]
theorem oppF_all (h : List Bool) : (List.range h.length).map (oppF h h.length) = notM h := List.map_congr_left fun i hi => if_pos (List.mem_range.1 hi)
set_option maxRecDepth 100000 in
set_option maxHeartbeats 2000000 in
theorem eopp_any {va : Value} {h : List Bool} {w : World} (hH : RdB w va h) (hl : h.length ≤ 300) : Calls Tryz.prog 136 #[va] w fun e w' => ∃ v, e = .returned v ∧ RdB w' v (notM h) ∧ Below w.heap.size w w' := by
  obtain ⟨i0, hi, hz0, hz1, hz2⟩ := info_parts info_bool10
  obtain ⟨a, c, rfl⟩ := hH.form
  obtain ⟨n, hn⟩ : ∃ n, Hid (n = h.length) := ⟨_, rfl⟩
  rw [← hn.out] at hl ⊢
  go_enter Tryz.func136, Tryz.ntmps136
  go_wp2_with (at_make; go_loud (refine wpList_make_full _ rfl (.tmp 7) (.tmp 7) 96 rfl w.heap.size 4 i0 (.bool false) 1 Tryz.underlying96 hi hz0 hz1 _ _ _ _ n rfl rfl (by omega) (by omega) (by rw [hz2]; omega) (by unfold maxLen; omega) (Nat.le_refl _) ?_); intro w1 hown1 hgrow1)
  have R1 : Hid (BoolF w1 w.heap.size 4 w.heap.size n (fun _ => false)) := BoolF.made hown1
  have B1 : Hid (Below w.heap.size w w1) := (Below.refl _ _).grown hgrow1 (Nat.le_refl _) (fun k h => by cases h)
  clear hown1 hgrow1
  go_wp2
  go_loopw [11] (fun v wr => ∃ i : Nat, i ≤ n ∧ v = .int .i64 i ∧ BoolF wr w.heap.size 4 w.heap.size n (oppF h i) ∧ Below w.heap.size w wr) (fun v _ => n - (intOf v).toNat)
  case atStart => exact ⟨0, by omega, rfl, by rw [oppF_zero]; exact R1.out, B1.out⟩
  case round =>
    obtain ⟨i, hi9, rfl, hR, hB⟩ := hrel
    clear R1 B1
    by_cases hlt : i < n
    · have hlt' : (i : Int) < (n : Int) := by omega
      obtain ⟨sb, so, es, _, cs⟩ := (hH.below hB).at (i := i) (by rw [← hn.out]; exact hlt)
      subst es
      have c1 := hR.cell hlt
      have f1 := hR.free i
      have HN : Hid (BoolF (World.setCell wr ⟨w.heap.size, i, none⟩ (.bool (!hb h i))) w.heap.size 4 w.heap.size n (oppF h (i + 1))) := hR.store hlt (!hb h i) fun j _ => oppF_step h i j
      have HB : Hid (Below w.heap.size w (World.setCell wr ⟨w.heap.size, i, none⟩ (.bool (!hb h i)))) := hB.setCell (p := ⟨w.heap.size, i, none⟩) (Nat.le_refl _) _
      clear hR hB hH
      go_wp2
      go_roundw
      case rel => exact ⟨i + 1, by omega, by go_num, HN.out, HB.out⟩
      case measure => simp [intOf]; omega
    · have hge : ¬ (i : Int) < (n : Int) := by omega
      have ei : i = n := by omega
      have Rt : Hid (RdB wr (.slice (some ⟨w.heap.size, 0, none⟩) n n) (notM h)) := by
        show RdB _ _ _
        rw [ei] at hR
        have := hR.rdB (by omega)
        rw [hn.out, oppF_all] at this
        rw [hn.out]
        exact this
      clear ei hR hH
      go_wp2
      go_ret
      exact ⟨_, rfl, Rt.out, hB⟩
/-- .. those at the first r places are true, too -/
def mrkF (f : Nat → Bool) (zs : List Nat) (i : Nat) : Bool := f i || decide (i ∈ zs)
theorem mrkF_step {f : Nat → Bool} {zs : List Nat} {r : Nat} (hr : r < zs.length) (i : Nat) : mrkF f (zs.take (r + 1)) i = if i = zs.getD r 0 then true else mrkF f (zs.take r) i := by
  have e : zs.take (r + 1) = zs.take r ++ [zs.getD r 0] := by
    rw [List.take_add_one, List.getElem?_eq_getElem hr]
    simp [List.getD, hr]
  unfold mrkF
  rw [e]
  by_cases q : i = zs.getD r 0
  · rw [if_pos q, q]; simp
  · rw [if_neg q]
    simp only [List.mem_append, List.mem_singleton, q, or_false]
set_option maxRecDepth 100000 in
set_option maxHeartbeats 2000000 in
theorem emark_any {va : Value} {zs : List Nat} {w : World} {base e g n : Nat} {f : Nat → Bool} (hH : RdI w va (toI zs)) (hl : zs.length ≤ 300) (hz : ∀ i, i < zs.length → zs.getD i 0 < n) (hB : BoolF w base e g n f) (hap : ∀ b off m c, va = .slice (some ⟨b, off, none⟩) m c → b ≠ g) : Calls Tryz.prog 139 #[.slice (some ⟨g, 0, none⟩) n n, va] w fun e' w' => e' = .returned (.tuple #[]) ∧ Only g w w' ∧ BoolF w' base e g n (mrkF f zs) := by
  obtain ⟨a, c, ea⟩ := hH.form
  rw [toI_length] at ea
  subst ea
  have hz' : Hid _ := hz
  clear hz
  obtain ⟨s, hs⟩ : ∃ s, Hid (s = zs.length) := ⟨_, rfl⟩
  rw [← hs.out] at hH hl hap ⊢
  have HC : Hid (∀ wr, Only g w wr → ∀ i, i < s → ∃ b off, a = some ⟨b, off, none⟩ ∧ wr.cell? ⟨b, off + i, none⟩ = some (.int .i64 ((zs.getD i 0 : Nat) : Int))) := fun wr o i hi => by
    obtain ⟨b, off, e1, _, e2⟩ := hH.at (i := i) (by rw [toI_length, ← hs.out]; exact hi)
    rw [toI_getD] at e2
    exact ⟨b, off, e1, (o.cell (p := ⟨b, off + i, none⟩) (hap b off s c (by rw [e1]))).trans e2⟩
  clear hH hap
  go_enter Tryz.func139, Tryz.ntmps139
  go_wp2_with fail
  go_loopw [8] (fun v wr => ∃ i : Nat, i ≤ s ∧ v = .int .i64 i ∧ BoolF wr base e g n (mrkF f (zs.take i)) ∧ Only g w wr) (fun v _ => s - (intOf v).toNat)
  case atStart => exact ⟨0, by omega, rfl, by have e0 : mrkF f (zs.take 0) = f := by { funext i; simp [mrkF] }; rw [e0]; exact hB, Only.refl _ _⟩
  case round =>
    obtain ⟨i, hi9, rfl, hR, hO⟩ := hrel
    clear hB
    by_cases hlt : i < s
    · have hlt' : (i : Int) < (s : Int) := by omega
      obtain ⟨b, off, rfl, cs⟩ := HC.out wr hO i hlt
      have hx := hz'.out i (by rw [← hs.out]; exact hlt)
      have E : Hid _ := mrkF_step (f := f) (zs := zs) (r := i) (by rw [← hs.out]; exact hlt)
      obtain ⟨x, hxx⟩ : ∃ x, Hid (x = zs.getD i 0) := ⟨_, rfl⟩
      rw [← hxx.out] at cs hx E
      have hx' : (x : Int) < (n : Int) := by omega
      have c1 := hR.cell hx
      have f1 := hR.free x
      have HN : Hid (BoolF (World.setCell wr ⟨g, x, none⟩ (.bool true)) base e g n (mrkF f (zs.take (i + 1)))) := hR.store hx true fun j _ => E.out j
      have HO : Hid (Only g w (World.setCell wr ⟨g, x, none⟩ (.bool true))) := hO.setCell x _
      clear hR hO
      go_wp2
      go_roundw
      case rel => exact ⟨i + 1, by omega, by go_num, HN.out, HO.out⟩
      case measure => simp [intOf]; omega
    · have hge : ¬ (i : Int) < (s : Int) := by omega
      have ei : i = s := by omega
      have e2 : zs.take i = zs := by rw [ei, hs.out]; exact List.take_length
      rw [e2] at hR
      clear ei e2
      go_wp2
      go_end0
      exact ⟨rfl, hO, hR⟩
end Go.Proofs.YtddnfhfangfgeaaGreat.Gf

namespace Go.Proofs.YtddnfhfangfgeaaGreat.Gf
set_option linter.unusedVariables false
set_option linter.unusedSimpArgs false
/-- the word at a place: 0 where no shard is there -/
def atF (hs : List Bool) (L : List (List UInt8)) (t i : Nat) : UInt8 := if hb hs i then co (ro L i) t else 0
def wdAt (hs : List Bool) (L : List (List UInt8)) (n t : Nat) : List UInt8 := upto (atF hs L t) n
theorem wdAt_length (hs : List Bool) (L : List (List UInt8)) (n t : Nat) : (wdAt hs L n t).length = n := upto_length _ _
/-- the length of those that are there; -1: none is, or they are not all of one -/
noncomputable def oneX (hs : List Bool) (L : List (List UInt8)) : Int := by
  classical
  exact if EvenH hs L ∧ ∃ i, hb hs i = true then (((ro L ((plc (hb hs) hs.length).getD 0 0)).length : Nat) : Int) else -1
theorem hb_in {hs : List Bool} {i : Nat} (h : hb hs i = true) : i < hs.length := by
  rcases Nat.lt_or_ge i hs.length with k | k
  · exact k
  · rw [hb_ge k] at h; cases h
theorem oneX_ok {hs : List Bool} {L : List (List UInt8)} {n : Nat} (h0 : ∃ i, hb hs i = true) (h : ∀ i, hb hs i = true → (ro L i).length = n) : oneX hs L = (n : Int) := by
  unfold oneX
  rw [if_pos ⟨fun i j hi hj => (h i hi).trans (h j hj).symm, h0⟩]
  obtain ⟨i, hi⟩ := h0
  have hm : 0 < (plc (hb hs) hs.length).length := List.length_pos_of_mem (plc_mem.2 ⟨hb_in hi, hi⟩)
  rw [h _ (plc_mem.1 (getD_mem hm)).2]
theorem oneX_none {hs : List Bool} {L : List (List UInt8)} (h : ¬ ∃ i, hb hs i = true) : oneX hs L = -1 := by unfold oneX; rw [if_neg fun e => h e.2]
theorem oneX_odd {hs : List Bool} {L : List (List UInt8)} {i j : Nat} (hi : hb hs i = true) (hj : hb hs j = true) (h : (ro L i).length ≠ (ro L j).length) : oneX hs L = -1 := by unfold oneX; rw [if_neg fun e => h (e.1 i j hi hj)]
theorem oneX_cases (hs : List Bool) (L : List (List UInt8)) : oneX hs L = -1 ∨ ∃ n : Nat, oneX hs L = (n : Int) ∧ (∀ i, hb hs i = true → (ro L i).length = n) ∧ ∃ i, hb hs i = true := by
  classical
  by_cases h : EvenH hs L ∧ ∃ i, hb hs i = true
  · right
    obtain ⟨i, hi⟩ := h.2
    exact ⟨(ro L i).length, oneX_ok h.2 (fun j hj => h.1 j i hj hi), fun j hj => h.1 j i hj hi, h.2⟩
  · left
    unfold oneX
    rw [if_neg h]
section
variable (k m : Nat) (hs : List Bool) (L : List (List UInt8))
noncomputable def pX (t : Nat) : Int := wdX k m (wdAt hs L (k + m) t) (notM hs)
noncomputable def pR (t : Nat) : List UInt8 := wdR k m (wdAt hs L (k + m) t) (notM hs)
noncomputable def pP (t : Nat) : List Nat := wdP k m (wdAt hs L (k + m) t) (notM hs)
/-- the shards up to a place -/
noncomputable def rowsP (r : Nat) : List (List UInt8) := mkL (k + m) (fun i => upto (fun t => co (pR k m hs L t) i) r)
/-- those that were wrong up to a place -/
noncomputable def hurtP : Nat → Nat → Bool
  | 0, _ => false
  | r + 1, i => mrkF (hurtP r) (pP k m hs L r) i
end
open Classical in
noncomputable def shX (k m : Int) (hs : List Bool) (L : List (List UInt8)) : Int :=
  if OkC k m then (if (hs.length : Int) = k + m ∧ (L.length : Int) = k + m ∧ oneX hs L ≠ -1 then (if ∀ t, t < (oneX hs L).toNat → pX k.toNat m.toNat hs L t = 0 then 0 else 100) else 60) else 50
open Classical in
noncomputable def shR (k m : Int) (hs : List Bool) (L : List (List UInt8)) : List (List UInt8) := if shX k m hs L = 0 then rowsP k.toNat m.toNat hs L (oneX hs L).toNat else []
open Classical in
noncomputable def shP (k m : Int) (hs : List Bool) (L : List (List UInt8)) : List Nat := if shX k m hs L = 0 then plc (hurtP k.toNat m.toNat hs L (oneX hs L).toNat) (k.toNat + m.toNat) else []
theorem sh_no {k m : Int} {hs : List Bool} {L : List (List UInt8)} {x : Int} (h : shX k m hs L = x) (hx : x ≠ 0) : shX k m hs L = x ∧ shR k m hs L = [] ∧ shP k m hs L = [] := by
  refine ⟨h, ?_, ?_⟩
  · unfold shR; rw [h, if_neg hx]
  · unfold shP; rw [h, if_neg hx]
theorem sh_bad {k m : Int} {hs : List Bool} {L : List (List UInt8)} (c : ¬ OkC k m) : shX k m hs L = 50 ∧ shR k m hs L = [] ∧ shP k m hs L = [] := sh_no (by unfold shX; rw [if_neg c]) (by decide)
theorem sh_shard {k m : Int} {hs : List Bool} {L : List (List UInt8)} (c : OkC k m) (d : ¬ ((hs.length : Int) = k + m ∧ (L.length : Int) = k + m ∧ oneX hs L ≠ -1)) : shX k m hs L = 60 ∧ shR k m hs L = [] ∧ shP k m hs L = [] := sh_no (by unfold shX; rw [if_pos c, if_neg d]) (by decide)
theorem sh_many {k m n t : Nat} {hs : List Bool} {L : List (List UInt8)} (c : OkC k m) (h1 : hs.length = k + m) (h2 : L.length = k + m) (h3 : oneX hs L = (n : Int)) (ht : t < n) (hx : pX k m hs L t ≠ 0) : shX k m hs L = 100 ∧ shR k m hs L = [] ∧ shP k m hs L = [] := by
  refine sh_no ?_ (by decide)
  unfold shX
  rw [if_pos c, if_pos ⟨by omega, by omega, by rw [h3]; omega⟩, if_neg]
  intro h
  exact hx (h t (by rw [h3]; exact ht))
theorem sh_ok {k m n : Nat} {hs : List Bool} {L : List (List UInt8)} (c : OkC k m) (h1 : hs.length = k + m) (h2 : L.length = k + m) (h3 : oneX hs L = (n : Int)) (hx : ∀ t, t < n → pX k m hs L t = 0) : shX k m hs L = 0 ∧ shR k m hs L = rowsP k m hs L n ∧ shP k m hs L = plc (hurtP k m hs L n) (k + m) := by
  have h0 : shX k m hs L = 0 := by
    unfold shX
    rw [if_pos c, if_pos ⟨by omega, by omega, by rw [h3]; omega⟩, if_pos]
    intro t ht
    rw [h3] at ht
    exact hx t ht
  refine ⟨h0, ?_, ?_⟩
  · unfold shR; rw [if_pos h0, h3]; rfl
  · unfold shP; rw [if_pos h0, h3]; rfl
/-- what is told of a place -/
theorem pX_told {k m : Nat} {hs : List Bool} {L : List (List UInt8)} {t : Nat} (h1 : 1 ≤ k) (h2 : k + m ≤ 256) (hl : hs.length = k + m) : (pX k m hs L t = 100 ∧ pR k m hs L t = [] ∧ pP k m hs L t = []) ∨ (pX k m hs L t = 0 ∧ (pR k m hs L t).length = k + m ∧ (∀ i, i < (pP k m hs L t).length → (pP k m hs L t).getD i 0 < k + m) ∧ (pP k m hs L t).length ≤ 256) := by
  have okc : OkC (k : Int) (m : Int) := ⟨by omega, by omega, by omega⟩
  have okw : OkW (k : Int) (m : Int) (wdAt hs L (k + m) t) (notM hs) := ⟨by rw [wdAt_length]; omega, by rw [notM_length]; omega⟩
  by_cases h : IsNear k m (wdAt hs L (k + m) t) (notM hs)
  · right
    obtain ⟨c, hc⟩ := h
    obtain ⟨e1, e2, e3⟩ := wd_ok okc okw hc
    refine ⟨e1, ?_, ?_, ?_⟩
    · unfold pR; rw [e2, upto_length]
    · intro i hi
      unfold pP at hi ⊢
      rw [e3] at hi ⊢
      have := List.getElem_mem hi
      have hm : (plc (wrg (co (wdAt hs L (k + m) t)) c (hb (notM hs))) (k + m)).getD i 0 ∈ plc (wrg (co (wdAt hs L (k + m) t)) c (hb (notM hs))) (k + m) := by
        simp only [List.getD, List.getElem?_eq_getElem hi, Option.getD_some]
        exact this
      exact (plc_mem.1 hm).1
    · unfold pP
      rw [e3, plc_length]
      have := cnt_le (wrg (co (wdAt hs L (k + m) t)) c (hb (notM hs))) (k + m)
      omega
  · left
    exact wd_many okc okw h
theorem rowsP_length (k m : Nat) (hs : List Bool) (L : List (List UInt8)) (r : Nat) : (rowsP k m hs L r).length = k + m := mkL_length _ _
theorem rowsP_ro {k m : Nat} {hs : List Bool} {L : List (List UInt8)} {r i : Nat} (hi : i < k + m) : ro (rowsP k m hs L r) i = upto (fun t => co (pR k m hs L t) i) r := ro_mkL hi
theorem rowsP_zero (k m : Nat) (hs : List Bool) (L : List (List UInt8)) : rowsP k m hs L 0 = mkL (k + m) (fun _ => []) := mkL_congr fun i hi => rfl
/-- the rows, of which the first have one byte more -/
noncomputable def layF (R : List (List UInt8)) (p : List UInt8) (r i : Nat) : List UInt8 := if i < r then ro R i ++ [co p i] else ro R i
theorem layF_zero (R : List (List UInt8)) (p : List UInt8) : layF R p 0 = ro R := by funext i; exact if_neg (Nat.not_lt_zero _)
theorem layF_old (R : List (List UInt8)) (p : List UInt8) (r : Nat) : layF R p r r = ro R r := if_neg (Nat.lt_irrefl _)
theorem layF_new (R : List (List UInt8)) (p : List UInt8) (r : Nat) : layF R p (r + 1) r = ro R r ++ [co p r] := if_pos (Nat.lt_succ_self _)
theorem layF_step {R : List (List UInt8)} {p : List UInt8} {r i : Nat} (h : i ≠ r) : layF R p (r + 1) i = layF R p r i := by
  unfold layF
  by_cases e : i < r
  · rw [if_pos e, if_pos (by omega)]
  · rw [if_neg e, if_neg (by omega)]
theorem rowsP_next {k m : Nat} {hs : List Bool} {L : List (List UInt8)} {r i : Nat} (hi : i < k + m) : layF (rowsP k m hs L r) (pR k m hs L r) (k + m) i = ro (rowsP k m hs L (r + 1)) i := by
  unfold layF
  rw [if_pos hi, rowsP_ro hi, rowsP_ro hi]
  unfold upto
  rw [List.range_succ, List.map_append]
  rfl
end Go.Proofs.YtddnfhfangfgeaaGreat.Gf

namespace Go.Proofs.YtddnfhfangfgeaaGreat.Gf
set_option linter.unusedVariables false
set_option linter.unusedSimpArgs false
open Go.RowKit
theorem cnt_none {p : Nat → Bool} {n : Nat} (h : ∀ i, i < n → p i = false) : cnt p n = 0 := by
  induction n with
  | zero => rfl
  | succ n ih => rw [cnt, ih fun i hi => h i (by omega), h n (by omega)]; rfl
theorem plc_none {p : Nat → Bool} {n : Nat} (h : ∀ i, i < n → p i = false) : plc p n = [] := List.length_eq_zero_iff.1 (by rw [plc_length, cnt_none h])
theorem many10 {k m : Nat} {W : List UInt8} {ms : List Bool} (h1 : 1 ≤ k) (h2 : k + m ≤ 256) (hWl : W.length = k + m) (hml : ms.length = k + m) (hf : m < cnt (hb ms) (k + m)) : wdX k m W ms = 100 ∧ wdR k m W ms = [] ∧ wdP k m W ms = [] := by
  have okc : OkC (k : Int) (m : Int) := ⟨by omega, by omega, by omega⟩
  refine wd_many okc ⟨by omega, by omega⟩ ?_
  rintro ⟨c, hc⟩
  have := hc.few
  omega
end Go.Proofs.YtddnfhfangfgeaaGreat.Gf

namespace Go.Proofs.YtddnfhfangfgeaaGreat.Gf
set_option linter.unusedVariables false
set_option linter.unusedSimpArgs false
theorem col_code {k m n t : Nat} {D : List (List UInt8)} (h1 : 1 ≤ k) (h2 : k + m ≤ 256) (hD : D.length = k) (hE : Even D) (hn : (ro D 0).length = n) (ht : t < n) : CodeW k m (fun i => co (ro (encL m k (parF k) D) i) t) := by
  intro l hl
  refine par_syn h2 (fun i hi => ?_) hl
  show co (ro (encL m k (parF k) D) (k + i)) t = _
  rw [enc_row_ge' (by omega) (by omega), show k + i - D.length = i by omega]
  unfold parR
  rw [co_upto_in (by rw [hn]; exact ht)]
  unfold wd
  exact S_congr fun j hj => by rw [enc_row_lt (by omega)]
/-- a shard as it is handed in -/
def mdS (A : List (List UInt8)) (hs bd : List Bool) (y : UInt8) (n i : Nat) : List UInt8 :=
  if hb hs i = false then [y] else if hb bd i = true ∧ 0 < n then (ro A i).set (i % n) (co (ro A i) (i % n) ^^^ y) else ro A i
/-- those that are wrong -/
def wrSt (hs bd : List Bool) (n i : Nat) : Bool := hb hs i && (hb bd i && decide (0 < n))
theorem mds_len {A : List (List UInt8)} {hs bd : List Bool} {y : UInt8} {n i : Nat} (hA : (ro A i).length = n) (h : hb hs i = true) : (mdS A hs bd y n i).length = n := by
  unfold mdS
  rw [if_neg (by rw [h]; decide)]
  split
  · rw [List.length_set]; exact hA
  · exact hA
theorem mds_co {A : List (List UInt8)} {hs bd : List Bool} {y : UInt8} {n i t : Nat} (hA : (ro A i).length = n) (h : hb hs i = true) (ht : t < n) : co (mdS A hs bd y n i) t = if wrSt hs bd n i = true ∧ t = i % n then co (ro A i) t ^^^ y else co (ro A i) t := by
  unfold mdS wrSt
  rw [if_neg (by rw [h]; decide), h, Bool.true_and]
  have hn : 0 < n := by omega
  by_cases q : hb bd i = true
  · rw [if_pos ⟨q, hn⟩, co_at (by rw [hA]; exact Nat.mod_lt _ hn)]
    by_cases e : t = i % n
    · rw [if_pos e, if_pos ⟨by simp [q, hn], e⟩, e]
    · rw [if_neg e, if_neg fun z => e z.2]
  · rw [if_neg fun z => q z.1, if_neg fun z => q (by simpa [hn] using z.1)]
theorem stripes10 {k m n : Nat} {D : List (List UInt8)} {hs bd : List Bool} {y : UInt8} (h1 : 1 ≤ k) (h2 : k + m ≤ 256) (hD : D.length = k) (hE : Even D) (hn : (ro D 0).length = n) (hhs : hs.length = k + m) (hy : y ≠ 0)
    (hex : cnt (fun i => !hb hs i) (k + m) ≠ k + m) (hf : 2 * cnt (wrSt hs bd n) (k + m) + cnt (fun i => !hb hs i) (k + m) ≤ m) :
    shX k m hs (mkL (k + m) (mdS (encL m k (parF k) D) hs bd y n)) = 0 ∧ shR k m hs (mkL (k + m) (mdS (encL m k (parF k) D) hs bd y n)) = encL m k (parF k) D ∧ shP k m hs (mkL (k + m) (mdS (encL m k (parF k) D) hs bd y n)) = plc (wrSt hs bd n) (k + m) := by
  have okc : OkC (k : Int) (m : Int) := ⟨by omega, by omega, by omega⟩
  obtain ⟨A, hA⟩ : ∃ A, A = encL m k (parF k) D := ⟨_, rfl⟩
  obtain ⟨M, hM⟩ : ∃ M, M = mkL (k + m) (mdS A hs bd y n) := ⟨_, rfl⟩
  have hAl : A.length = k + m := by rw [hA, encL_length, hD]
  have hAr : ∀ i, i < k + m → (ro A i).length = n := fun i hi => by rw [hA, enc_len hE (by omega), hn]
  have hMl : M.length = k + m := by rw [hM, mkL_length]
  have hMr : ∀ i, i < k + m → ro M i = mdS A hs bd y n i := fun i hi => by rw [hM, ro_mkL hi]
  have hin : ∀ i, hb hs i = true → i < k + m := fun i hi => by rw [← hhs]; exact hb_in hi
  have hone : oneX hs M = (n : Int) := by
    refine oneX_ok ?_ fun i hi => by rw [hMr i (hin i hi)]; exact mds_len (hAr i (hin i hi)) hi
    refine Classical.byContradiction fun q => hex ?_
    have e : ∀ i, i < k + m → hb hs i = false := fun i _ => by
      cases e9 : hb hs i
      · rfl
      · exact absurd ⟨i, e9⟩ q
    have h9 := cnt_not (hb hs) (k + m)
    rw [cnt_none e] at h9
    omega
  have hz : ∀ t i, t < n → i < k + m → co (wdAt hs M (k + m) t) i = if hb hs i then (if wrSt hs bd n i = true ∧ t = i % n then co (ro A i) t ^^^ y else co (ro A i) t) else 0 := fun t i ht hi => by
    unfold wdAt
    rw [co_upto_in hi]
    unfold atF
    cases e : hb hs i
    · rfl
    · rw [if_pos rfl, if_pos rfl, hMr i hi, mds_co (hAr i hi) e ht]
  have hw : ∀ t i, t < n → i < k + m → wrg (co (wdAt hs M (k + m) t)) (fun i => co (ro A i) t) (hb (notM hs)) i = (wrSt hs bd n i && decide (t = i % n)) := fun t i ht hi => by
    unfold wrg
    rw [notM_at (by omega), hz t i ht hi]
    cases e : hb hs i
    · simp [wrSt, e]
    · rw [if_pos rfl]
      by_cases q : wrSt hs bd n i = true ∧ t = i % n
      · rw [if_pos q, q.1, decide_eq_true q.2]
        have : co (ro A i) t ≠ co (ro A i) t ^^^ y := fun e9 => hy (by
          have e2 := congrArg (fun x => co (ro A i) t ^^^ x) e9
          rw [show co (ro A i) t ^^^ co (ro A i) t = 0 from x_self _, show co (ro A i) t ^^^ (co (ro A i) t ^^^ y) = y from x_cancel _ _] at e2
          exact e2.symm)
        simp [this]
      · rw [if_neg q]
        by_cases q2 : wrSt hs bd n i = true
        · have : ¬ t = i % n := fun e9 => q ⟨q2, e9⟩
          simp [this]
        · simp [q2]
  have hN : ∀ t, t < n → Near k m (co (wdAt hs M (k + m) t)) (hb (notM hs)) (fun i => co (ro A i) t) := fun t ht => by
    refine ⟨by rw [hA]; exact col_code h1 h2 hD hE hn ht, ?_⟩
    have e1 : cnt (wrg (co (wdAt hs M (k + m) t)) (fun i => co (ro A i) t) (hb (notM hs))) (k + m) ≤ cnt (wrSt hs bd n) (k + m) := cnt_mono fun i hi q => by
      rw [hw t i ht hi] at q
      simp at q
      exact q.1
    have e2 : cnt (hb (notM hs)) (k + m) = cnt (fun i => !hb hs i) (k + m) := cnt_congr fun i hi => notM_at (by omega)
    omega
  have hP : ∀ t, t < n → pX k m hs M t = 0 ∧ pR k m hs M t = upto (fun i => co (ro A i) t) (k + m) ∧ pP k m hs M t = plc (fun i => wrSt hs bd n i && decide (t = i % n)) (k + m) := fun t ht => by
    obtain ⟨e1, e2, e3⟩ := wd_ok (z := wdAt hs M (k + m) t) (ms := notM hs) okc ⟨by rw [wdAt_length]; omega, by rw [notM_length]; omega⟩ (hN t ht)
    refine ⟨e1, e2, e3.trans ?_⟩
    unfold plc
    exact List.filter_congr fun i hi => hw t i ht (List.mem_range.1 hi)
  obtain ⟨e1, e2, e3⟩ := sh_ok okc hhs hMl hone fun t ht => (hP t ht).1
  rw [← hA, ← hM]
  refine ⟨e1, e2.trans ?_, e3.trans ?_⟩
  · refine ro_ext (by rw [rowsP_length, hAl]) fun i hi => ?_
    rw [rowsP_length] at hi
    rw [rowsP_ro hi]
    refine co_ext (by rw [upto_length, hAr i hi]) fun t ht => ?_
    rw [upto_length] at ht
    rw [co_upto_in ht, (hP t ht).2.1, co_upto_in hi]
  · have hu : ∀ r, r ≤ n → ∀ i, i < k + m → (hurtP k m hs M r i = true ↔ wrSt hs bd n i = true ∧ i % n < r) := by
      intro r
      induction r with
      | zero => intro _ i _; exact ⟨fun q => (by cases q), fun q => absurd q.2 (Nat.not_lt_zero _)⟩
      | succ r ih =>
        intro hr i hi
        show mrkF (hurtP k m hs M r) (pP k m hs M r) i = true ↔ _
        unfold mrkF
        rw [(hP r (by omega)).2.2, Bool.or_eq_true, decide_eq_true_eq, plc_mem, ih (by omega) i hi]
        constructor
        · rintro (⟨a, b⟩ | ⟨_, b⟩)
          · exact ⟨a, by omega⟩
          · simp at b; exact ⟨b.1, by omega⟩
        · rintro ⟨a, b⟩
          by_cases q : i % n = r
          · right; exact ⟨hi, by simp [a, q]⟩
          · left; exact ⟨a, by omega⟩
    unfold plc
    refine List.filter_congr fun i hi => ?_
    have hi' := List.mem_range.1 hi
    rw [Bool.eq_iff_iff, hu n (Nat.le_refl _) i hi']
    constructor
    · exact fun q => q.1
    · intro q
      refine ⟨q, Nat.mod_lt _ ?_⟩
      unfold wrSt at q
      simp at q
      exact q.2.2
end Go.Proofs.YtddnfhfangfgeaaGreat.Gf
