/-
  A CALLEE OF LAYER 5's STATEMENTS BY CONTRACT: 'rising'; and rows that rise, of the generator, have an inverse.
-/
import Derived.Test.YthfimeddfpchpaaCaLaws
import Derived.BigQuiet
import Derived.Deep.QuietTactic
namespace Go.Proofs.Ythfimeddfpchpaa.Gf
set_option linter.unusedVariables false
set_option linter.unusedSimpArgs false
open Go.RowKit

def RiseK (n : Int) (zs : List Int) (k : Nat) : Prop := (∀ i, i < k → 0 ≤ zs.getD i 0 ∧ zs.getD i 0 < n) ∧ ∀ i, i + 1 < k → zs.getD i 0 < zs.getD (i + 1) 0
theorem RiseK.zero (n : Int) (zs : List Int) : RiseK n zs 0 := ⟨fun i h => by omega, fun i h => by omega⟩
theorem RiseK.step {n : Int} {zs : List Int} {k : Nat} (h : RiseK n zs k) (h1 : 0 ≤ zs.getD k 0) (h2 : zs.getD k 0 < n) (h3 : ∀ q, k = q + 1 → zs.getD q 0 < zs.getD k 0) : RiseK n zs (k + 1) := by
  refine ⟨fun i hi => ?_, fun i hi => ?_⟩
  · by_cases e : i = k
    · subst e; exact ⟨h1, h2⟩
    · exact h.1 i (by omega)
  · by_cases e : i + 1 = k
    · have := h3 i e.symm; rw [e]; exact this
    · exact h.2 i (by omega)
theorem RiseK.lt {n : Int} {zs : List Int} {k : Nat} (h : RiseK n zs k) {i j : Nat} (hij : i < j) (hj : j < k) : zs.getD i 0 < zs.getD j 0 := by
  induction j with
  | zero => omega
  | succ j ih =>
    have h1 := h.2 j hj
    by_cases e : i = j
    · subst e; exact h1
    · have := ih (by omega) (by omega); omega
/-- rows of the generator that rise are no singular matrix -/
theorem rise_gen {k N : Nat} {zs : List Int} (hN : N ≤ 256) (hk : k ≤ N) (hz : zs.length = k) (h : RiseK N zs k) : ¬ IsSing k (en k (flat k k (pickF k (flat N k (genF k)) zs))) := by
  intro hs
  refine gen_rows hN hk (fun i => (zs.getD i 0).toNat) (fun i hi => ?_) (fun i j hi hj hij => ?_) (hs.congr fun i j hi hj => ?_)
  · have := h.1 i hi; omega
  · have h1 := h.1 i hi
    have h2 := h.1 j hj
    rcases Nat.lt_or_gt_of_ne hij with h3 | h3
    · have := h.lt h3 hj; omega
    · have := h.lt h3 hi; omega
  · rw [en_flat _ hi hj]
    have h1 := h.1 i hi
    exact en_flat _ (by omega) hj

def RiseEnd (w : World) (n : Int) (zs : List Int) (e : Ending) (w' : World) : Prop := ∃ t, e = .returned (.bool t) ∧ (t = true → RiseK n zs zs.length) ∧ Below w.heap.size w w'

set_option maxRecDepth 100000 in
set_option maxHeartbeats 4000000 in
theorem rising_any {vr : Value} {zs : List Int} {n : Int} {w : World} (hr : RdI w vr zs) (hl : zs.length ≤ 100000) :
    Calls Try.prog 22 #[vr, .int .i64 n] w (RiseEnd w n zs) := by
  obtain ⟨az, cz, rfl⟩ := hr.form
  go_enter Try.func22, Try.ntmps22
  go_wp2
  go_loopw [5] (fun i wr => ∃ k : Nat, k ≤ zs.length ∧ i = .int .i64 k ∧ Hid (RiseK n zs k) ∧ ∃ d, Hid (wr = w.drewN d)) (fun i _ => zs.length - (intOf i).toNat)
  case atStart => exact ⟨0, by omega, rfl, RiseK.zero _ _, 0, rfl⟩
  case round =>
    obtain ⟨k, hk, rfl, hR, d, hd⟩ := hrel
    by_cases hlt : k < zs.length
    · have hlt' : (k : Int) < (zs.length : Int) := by omega
      rcases hr with ⟨a0, c0, e1, e2⟩ | ⟨bz, oz, c0, hz0, e2, hz1, hz3, hzc⟩
      · subst e1; simp at hlt
      · simp at e2
        obtain ⟨rfl, rfl⟩ := e2
        have c1 : wr.cell? ⟨bz, oz + k, none⟩ = some (.int .i64 (zs.getD k 0)) := by rw [hd.out]; exact hzc k hlt
        obtain ⟨z, hz⟩ : ∃ z, Hid (z = zs.getD k 0) := ⟨_, rfl⟩
        rw [← hz.out] at c1
        have HB : Hid (∀ nq, Below w.heap.size w (wr.drewN nq)) := fun nq => by rw [hd.out]; exact Below.draws (below_draws w d) nq
        by_cases h1 : z < 0
        · have d1 : decide (z < 0) = true := decide_eq_true h1
          clear h1 hzc hR
          go_wp2
          go_quiet (fail)
          go_wp2
          go_ret
          exact ⟨false, rfl, (fun h => by cases h), HB.out _⟩
        have d1 : decide (z < 0) = false := decide_eq_false h1
        by_cases h2 : z ≥ n
        · have d2 : decide (z ≥ n) = true := decide_eq_true h2
          clear h1 h2 hzc hR
          go_wp2
          go_quiet (fail)
          go_wp2
          go_ret
          exact ⟨false, rfl, (fun h => by cases h), HB.out _⟩
        have d2 : decide (z ≥ n) = false := decide_eq_false h2
        by_cases h3 : k = 0
        · have HN : Hid (RiseK n zs (k + 1)) := hR.out.step (by rw [← hz.out]; omega) (by rw [← hz.out]; omega) (fun q hq => by omega)
          have d3 : decide ((k : Int) > 0) = false := decide_eq_false (by omega)
          have d3' : decide (0 < k) = false := decide_eq_false (by omega)
          have d3n : ¬ 0 < k := by omega
          clear h1 h2 hzc hR h3
          go_wp2
          go_quiet (fail)
          go_wp2
          go_roundw
          case rel => exact ⟨k + 1, by omega, by go_num, HN, _, by show _ = _; rw [hd.out, World.drewN_drewN]⟩
          case measure => simp [intOf]; omega
        · obtain ⟨q, rfl⟩ : ∃ q, k = q + 1 := ⟨k - 1, by omega⟩
          have c2 : wr.cell? ⟨bz, oz + q, none⟩ = some (.int .i64 (zs.getD q 0)) := by rw [hd.out]; exact hzc q (by omega)
          obtain ⟨y, hy⟩ : ∃ y, Hid (y = zs.getD q 0) := ⟨_, rfl⟩
          rw [← hy.out] at c2
          have hq' : (q : Int) < (zs.length : Int) := by omega
          have d3 : decide ((q : Int) + 1 > 0) = true := decide_eq_true (by omega)
          by_cases h4 : z ≤ y
          · have d4 : decide (z ≤ y) = true := decide_eq_true h4
            clear h1 h2 h4 hzc hR
            go_wp2
            go_quiet (fail)
            go_wp2
            go_ret
            exact ⟨false, rfl, (fun h => by cases h), HB.out _⟩
          · have d4 : decide (z ≤ y) = false := decide_eq_false h4
            have HN : Hid (RiseK n zs (q + 1 + 1)) := hR.out.step (by rw [← hz.out]; omega) (by rw [← hz.out]; omega) (fun q' hq => by
              obtain rfl : q' = q := by omega
              rw [← hz.out, ← hy.out]; omega)
            clear h1 h2 h4 hzc hR
            go_wp2
            go_quiet (fail)
            go_wp2
            go_roundw
            case rel => exact ⟨q + 1 + 1, by omega, by go_num, HN, _, by show _ = _; rw [hd.out, World.drewN_drewN]⟩
            case measure => simp [intOf]; omega
    · have e : k = zs.length := by omega
      have hge : ¬ (k : Int) < (zs.length : Int) := by omega
      have HB : Hid (Below w.heap.size w wr) := by show Below _ _ _; rw [hd.out]; exact below_draws w d
      rw [e] at hR
      clear e
      go_wp2
      go_ret
      exact ⟨true, rfl, fun _ => hR.out, HB.out⟩

end Go.Proofs.Ythfimeddfpchpaa.Gf
