/- TEXTS JOINED: DkSame, DkLawM, ArLL. -/
import Derived.Test.YtddnfhfangfgeaaGreatChecked
import GoSem.Claim
import GoSem.ClaimJoined
import GoSem.ClaimMapViews
import Derived.JoinedTies
import Derived.KernelRfl
import Derived.WalkKit
import Derived.Deep.QuietTactic
import Derived.BigQuiet
import Derived.WalkLawsBesides
import Derived.WalkSpells
import Derived.OpenShut
import Derived.Laws.CopyOwn
import Derived.Deep.AppendLies
import Derived.Deep.Slices
import Derived.Maps.OwnSet
import Derived.Maps.Ext
import Derived.Laws.AppendOwnNone
import Derived.Lib.SliceRun
import Derived.Deep.RegionHeld3
import Derived.Maps.RangeWalk
import Derived.Shelf.SlIterI.Nil
import Derived.Shelf.SortM.Plain
import Derived.Shelf.SortM.SortNone
import Derived.Ground.GgzProg
import Derived.Ground.SlgmProg
import Derived.Test.YtddnfhfangfgeaaGreatRows
import Derived.Test.YtddnfhfangfgeaaGreatTome2
import Derived.Test.YtddnfhfangfgeaaGreatTome6
import Derived.Test.YtddnfhfangfgeaaGreatTome3
import Derived.Test.YtddnfhfangfgeaaGreatTome33
import Derived.Test.YtddnfhfangfgeaaGreatTome31
import Derived.Lib.SmallJoins
import Derived.Deep.OwnRows
import Derived.Maps.AppendAt
namespace Go.Proofs.YtddnfhfangfgeaaGreat.Gf
set_option linter.unusedVariables false
set_option linter.unusedSimpArgs false
open Go.RowKit
instance : Inhabited TH := ⟨(0, [], undef)⟩
structure HeldAt (w : World) (b off : Nat) (t : TH) : Prop where
  c0 : w.cell? ⟨b, off, none⟩ = some (.int .i64 t.1)
  c1 : w.cell? ⟨b, off + 1, none⟩ = some t.2.2
  rd : Rd w t.2.2 t.2.1
def RdT (w : World) (v : Value) (T : List TH) : Prop :=
  (∃ a c, T = [] ∧ v = .slice a 0 c) ∨ (∃ b off c, T ≠ [] ∧ v = .slice (some ⟨b, off, none⟩) T.length c ∧ T.length ≤ 100000 ∧ b < w.heap.size ∧ ∀ i, i < T.length → HeldAt w b (off + i * 2) (T.getD i default))
theorem RdT.below {w w' : World} {v : Value} {T : List TH} (h : RdT w v T) (hb : Below w.heap.size w w') : RdT w' v T := by
  rcases h with h | ⟨b, off, c, h1, h2, h3, h4, h5⟩
  · exact Or.inl h
  · refine Or.inr ⟨b, off, c, h1, h2, h3, Nat.lt_of_lt_of_le h4 hb.size, fun i hi => ?_⟩
    have h6 := h5 i hi
    exact ⟨(hb.cell (p := ⟨b, off + i * 2, none⟩) h4).trans h6.c0, (hb.cell (p := ⟨b, off + i * 2 + 1, none⟩) h4).trans h6.c1, h6.rd.below hb⟩
theorem RdT.form {w : World} {v : Value} {T : List TH} (h : RdT w v T) : ∃ a c, v = .slice a T.length c := by
  rcases h with ⟨a, c, rfl, rfl⟩ | ⟨b, off, c, _, rfl, _⟩
  · exact ⟨a, c, rfl⟩
  · exact ⟨_, c, rfl⟩
theorem RdT.len {w : World} {v : Value} {T : List TH} (h : RdT w v T) : T.length ≤ 100000 := by
  rcases h with ⟨a, c, rfl, rfl⟩ | ⟨b, off, c, _, rfl, h, _⟩
  · exact Nat.zero_le _
  · exact h
theorem RdT.at {w : World} {a : Option Addr} {c : Nat} {T : List TH} (h : RdT w (.slice a T.length c) T) {k : Nat} (hk : k < T.length) : ∃ b off, a = some ⟨b, off, none⟩ ∧ HeldAt w b (off + k * 2) (T.getD k default) := by
  rcases h with ⟨_, _, h1, _⟩ | ⟨b, off, c, h1, h2, h3, h4, h5⟩
  · rw [h1] at hk; simp at hk
  · simp at h2
    exact ⟨b, off, h2.1, h5 k hk⟩
theorem RdT.drewN {w : World} {v : Value} {T : List TH} (h : RdT w v T) (n : Nat) : RdT (w.drewN n) v T := h.below ((Below.refl _ _).drewN n)
/-- one of one's own -/
theorem cellsT_at (T : List TH) {i : Nat} (hi : i < T.length) : (cellsT T)[i * 2]? = some (.int .i64 (T.getD i default).1) ∧ (cellsT T)[i * 2 + 1]? = some (T.getD i default).2.2 := by
  induction T generalizing i with
  | nil => simp at hi
  | cons t T ih =>
    cases i with
    | zero => exact ⟨rfl, rfl⟩
    | succ i =>
      have h := ih (i := i) (by simpa using hi)
      have e : cellsT (t :: T) = .int .i64 t.1 :: t.2.2 :: cellsT T := by unfold cellsT; simp
      rw [e, show (i + 1) * 2 = i * 2 + 1 + 1 by omega]
      simp only [List.getElem?_cons_succ]
      exact h
theorem OwnT.rd {w : World} {base : Nat} {v : Value} {T : List TH} (h : OwnT w base v T) (hl : T.length ≤ 100000) : RdT w v T := by
  by_cases h0 : T = []
  · subst h0
    obtain ⟨a, c, e⟩ := owns_slice h.row
    exact Or.inl ⟨a, c, rfl, e⟩
  · obtain ⟨_, ⟨_, h1⟩ | ⟨g, cap, cur, hv, hg, hh, hc, hm, hs, ht⟩⟩ := h.row
    · exact absurd (List.length_eq_zero_iff.1 h1) h0
    · refine Or.inr ⟨g, 0, cap, h0, hv, hl, (Array.getElem?_eq_some_iff.1 hh).1, fun i hi => ?_⟩
      have ce : ∀ j, j < T.length * 2 → w.cell? ⟨g, j, none⟩ = (cellsT T)[j]? := by
        intro j hj
        rw [← ht, List.getElem?_take_of_lt hj]
        unfold World.cell?
        rw [hh]
        simp
      obtain ⟨e0, e1⟩ := cellsT_at T hi
      have hm : T.getD i default ∈ T := by
        rw [show T.getD i default = T[i] by simp [List.getD, hi]]
        exact List.getElem_mem hi
      refine ⟨?_, ?_, Rd.owned (h.each _ hm)⟩
      · rw [Nat.zero_add, ce _ (by omega), e0]
      · rw [Nat.zero_add, ce _ (by omega), e1]
def RdH (w : World) (v : Value) (L : List (Int × List UInt8)) : Prop := ∃ T, bareT T = L ∧ RdT w v T
theorem bareT_length (T : List TH) : (bareT T).length = T.length := by simp [bareT]
theorem bareT_eq {T U : List TH} (hl : T.length = U.length) : bareT T = bareT U ↔ ∀ i, i < T.length → (T.getD i default).1 = (U.getD i default).1 ∧ (T.getD i default).2.1 = (U.getD i default).2.1 := by
  constructor
  · intro h i hi
    have h1 := congrArg (fun l => l[i]?) h
    simp only [bareT, List.getElem?_map] at h1
    rw [List.getElem?_eq_getElem hi, List.getElem?_eq_getElem (by omega)] at h1
    simp at h1
    simp [List.getD, hi, show i < U.length by omega, h1]
  · intro h
    refine List.ext_getElem (by simp [bareT, hl]) fun i h1 h2 => ?_
    simp only [bareT_length] at h1 h2
    have h3 := h i h1
    simp [List.getD, h1, h2] at h3
    simp [bareT, h3]
set_option maxRecDepth 100000 in
set_option maxHeartbeats 1000000 in
theorem same12_any {w : World} {va vb : Value} {L M : List (Int × List UInt8)} (hL : RdH w va L) (hM : RdH w vb M) : Calls Tryz.prog 28 #[va, vb] w fun e w' => e = .returned (.bool (decide (L = M))) ∧ ∃ n, w' = w.drewN n := by
  obtain ⟨T, rfl, hT⟩ := hL
  obtain ⟨U, rfl, hU⟩ := hM
  have lt := hT.len
  have lu := hU.len
  obtain ⟨aa, ca, rfl⟩ := hT.form
  obtain ⟨ab, cb, rfl⟩ := hU.form
  by_cases hl : T.length = U.length
  · have q1 : ((T.length : Int) != (U.length : Int)) = false := by rw [hl]; simp
    have q1' : ((T.length : Int) == (U.length : Int)) = true := by rw [hl]; simp
    obtain ⟨X, hX⟩ : ∃ X, Hid (X = decide (bareT T = bareT U)) := ⟨_, rfl⟩
    rw [← hX.out]
    have hl' : Hid (T.length = U.length) := hl
    clear hl
    go_enter Tryz.func28, Tryz.ntmps28
    go_wp2
    go_loopw [5] (fun i wr => ∃ k : Nat, k ≤ T.length ∧ i = .int .i64 (k : Int) ∧ Hid (∀ j, j < k → (T.getD j default).1 = (U.getD j default).1 ∧ (T.getD j default).2.1 = (U.getD j default).2.1) ∧ ∃ m, Hid (wr = w.drewN m)) (fun i _ => T.length - (intOf i).toNat)
    case atStart => exact ⟨0, Nat.zero_le _, rfl, fun j hj => by omega, 0, rfl⟩
    case round =>
      obtain ⟨k, hk, rfl, hs, m, hd⟩ := hrel
      have hT' : RdT wr (.slice aa T.length ca) T := by rw [hd.out]; exact hT.drewN _
      have hU' : RdT wr (.slice ab U.length cb) U := by rw [hd.out]; exact hU.drewN _
      clear hT hU
      by_cases hlt : k < T.length
      · have hltU : k < U.length := by have := hl'.out; omega
        have hlt' : (k : Int) < (T.length : Int) := by omega
        have hlu' : (k : Int) < (U.length : Int) := by omega
        have g1 : IntKind.i64.wrap ((k : Int) + 1) = ((k + 1 : Nat) : Int) := by rw [IntKind.wrap_i64]; omega
        obtain ⟨b, off, rfl, c0, c1, r1⟩ := hT'.at hlt
        obtain ⟨b', off', rfl, d0, d1, r2⟩ := hU'.at hltU
        have NE : Hid (¬ ((T.getD k default).1 = (U.getD k default).1 ∧ (T.getD k default).2.1 = (U.getD k default).2.1) → X = false) := fun h => by
          rw [hX.out]
          exact decide_eq_false (fun e => h ((bareT_eq hl'.out).1 e k hlt))
        have EQ : Hid ((T.getD k default).1 = (U.getD k default).1 ∧ (T.getD k default).2.1 = (U.getD k default).2.1 → ∀ j, j < k + 1 → (T.getD j default).1 = (U.getD j default).1 ∧ (T.getD j default).2.1 = (U.getD j default).2.1) := fun h j hj => by
          by_cases e2 : j = k
          · rw [e2]; exact h
          · exact hs.out j (by omega)
        obtain ⟨t, ht⟩ : ∃ t, t = T.getD k default := ⟨_, rfl⟩
        obtain ⟨u, hu⟩ : ∃ u, u = U.getD k default := ⟨_, rfl⟩
        rw [← ht] at c0 c1 r1
        rw [← hu] at d0 d1 r2
        rw [← ht, ← hu] at NE EQ
        obtain ⟨t1, t2, t3⟩ := t
        obtain ⟨u1, u2, u3⟩ := u
        simp only at c0 c1 r1 d0 d1 r2
        obtain ⟨ta, tc, rfl⟩ := r1.form
        obtain ⟨ua, uc, rfl⟩ := r2.form
        clear ht hu hs hT' hU' hX
        by_cases e1 : t2 = u2
        · have hn : sameB t2 u2 = true := sameB_of e1
          by_cases e2 : t1 = u1
          · have E := EQ.out ⟨e2, e1⟩
            have HS : Hid (∀ j, j < k + 1 → (T.getD j default).1 = (U.getD j default).1 ∧ (T.getD j default).2.1 = (U.getD j default).2.1) := E
            have z1 : (t1 != u1) = false := by rw [e2]; simp
            have z2 : (t1 == u1) = true := by rw [e2]; simp
            clear E EQ NE e1 e2
            go_wp2
            go_quiet ((go_at_call 25; go_loud (exact Calls.quiet_of (same_any (r1.drewN _) (r2.drewN _)))))
            go_wp2
            go_quiet (fail)
            go_wp2
            go_roundw
            case rel => exact ⟨k + 1, by omega, by go_num, HS, _, by show _ = _; first | rw [hd.out, World.drewN_drewN, World.drewN_drewN] | rw [hd.out, World.drewN_drewN] | rw [World.drewN_drewN, hd.out, World.drewN_drewN]⟩
            case measure => simp [intOf]; omega
          · have E := NE.out (fun h => e2 h.1)
            have HE : Hid (X = false) := E
            have z1 : (t1 != u1) = true := by simp [e2]
            have z2 : (t1 == u1) = false := by simp [e2]
            clear E EQ NE e1 e2
            go_wp2
            go_quiet ((go_at_call 25; go_loud (exact Calls.quiet_of (same_any (r1.drewN _) (r2.drewN _)))))
            go_wp2
            go_quiet (fail)
            go_wp2
            go_ret
            exact ⟨by rw [HE.out]; rfl, _, by show _ = _; first | rw [hd.out, World.drewN_drewN, World.drewN_drewN] | rw [hd.out, World.drewN_drewN] | rw [World.drewN_drewN, hd.out, World.drewN_drewN]⟩
        · have hn : sameB t2 u2 = false := decide_eq_false e1
          have E := NE.out (fun h => e1 h.2)
          have HE : Hid (X = false) := E
          clear E EQ NE e1
          go_wp2
          go_quiet ((go_at_call 25; go_loud (exact Calls.quiet_of (same_any (r1.drewN _) (r2.drewN _)))))
          go_wp2
          go_quiet (fail)
          go_wp2
          go_ret
          exact ⟨by rw [HE.out]; rfl, _, by show _ = _; first | rw [hd.out, World.drewN_drewN, World.drewN_drewN] | rw [hd.out, World.drewN_drewN] | rw [World.drewN_drewN, hd.out, World.drewN_drewN]⟩
      · have HE : Hid (X = true) := by
          show X = true
          rw [hX.out]
          exact decide_eq_true ((bareT_eq hl'.out).2 fun i hi => hs.out i (by omega))
        have hge : ¬ (k : Int) < (T.length : Int) := by omega
        clear hs hT' hU' hX
        go_wp2
        go_ret
        exact ⟨by rw [HE.out]; rfl, _, hd.out⟩
  · have q1 : ((T.length : Int) != (U.length : Int)) = true := by simp; omega
    have q1' : ((T.length : Int) == (U.length : Int)) = false := by simp; omega
    have e : decide (bareT T = bareT U) = false := decide_eq_false (fun h => hl (by have := congrArg List.length h; simpa [bareT_length] using this))
    rw [e]
    clear e hT hU
    go_enter Tryz.func28, Tryz.ntmps28
    go_wp2
    go_ret
    exact ⟨rfl, 0, rfl⟩
end Go.Proofs.YtddnfhfangfgeaaGreat.Gf

namespace Go.Proofs.YtddnfhfangfgeaaGreat.Gf
set_option linter.unusedVariables false
set_option linter.unusedSimpArgs false
open Go.RowKit
section
variable {w : World} {db : Nat} {G : Nat → Prop} {d : DkS}
theorem same12_is {va vb : Value} {L M : List (Int × List UInt8)} (hL : RdH w va L) (hM : RdH w vb M) {x : Bool} (hx : decide (L = M) = x) : Calls Tryz.prog 28 #[va, vb] w fun e w' => e = .returned (.bool x) ∧ ∃ n, w' = w.drewN n := by
  rw [← hx]; exact same12_any hL hM
end
end Go.Proofs.YtddnfhfangfgeaaGreat.Gf

namespace Go.Proofs.YtddnfhfangfgeaaGreat.Gf
set_option linter.unusedVariables false
set_option linter.unusedSimpArgs false
open Go.RowKit
theorem OwnH.rdA {w : World} {base : Nat} {v : Value} {L : List (Int × List UInt8)} (h : OwnH w base v L) (hl : L.length ≤ 100000) : RdH w v L := by
  obtain ⟨T, h1, h2⟩ := h
  exact ⟨T, h1, h2.rd (by rw [← h1, bareT_length] at hl; exact hl)⟩
end Go.Proofs.YtddnfhfangfgeaaGreat.Gf
