/-
  THE STATEMENTS' 'times' BY CONTRACT.
-/
import Derived.Test.YtehphjapahdalabBkLaw
import Derived.Deep.RegionWith
namespace Go.Proofs.Ytehphjapahdalab.Gf
set_option linter.unusedVariables false
set_option linter.unusedSimpArgs false
open Go.RowKit

theorem Os.drewT {w : World} {base T u : Nat} {v : Value} {L : List (List UInt8)} (h : Os w base T u v L) (n : Nat) : Os (w.drewN n) base T u v L := by
  obtain ⟨vals, hv, hr⟩ := h
  exact ⟨vals, hv, ⟨fun i x hx => hr.own i x hx, hr.diff, hr.out⟩⟩
/-- the products of the first i shards, and of the shard i the first c places -/
def tmP (A : List (List UInt8)) (y : UInt8) (i c : Nat) : List (List UInt8) := mkL A.length (fun r => upto (fun n => if r < i ∨ (r = i ∧ n < c) then mu (co (ro A r) n) y else co (ro A r) n) (ro A r).length)
theorem tmP_length (A : List (List UInt8)) (y : UInt8) (i c : Nat) : (tmP A y i c).length = A.length := mkL_length _ _
theorem tmP_row {A : List (List UInt8)} {y : UInt8} {i c r : Nat} (h : r < A.length) : (ro (tmP A y i c) r).length = (ro A r).length := by unfold tmP; rw [ro_mkL h, upto_length]
theorem tmP_zero (A : List (List UInt8)) (y : UInt8) : tmP A y 0 0 = A := by
  refine ro_ext (tmP_length _ _ _ _) fun r hr => ?_
  rw [tmP_length] at hr
  unfold tmP
  rw [ro_mkL hr]
  conv => rhs; rw [← upto_co (ro A r)]
  exact upto_congr fun n hn => if_neg (by omega)
theorem tmP_all {A : List (List UInt8)} {y : UInt8} {i : Nat} (h : A.length ≤ i) : tmP A y i 0 = timesL A y := by
  refine mkL_congr fun r hr => upto_congr fun n hn => ?_
  exact if_pos (Or.inl (by omega))
theorem tmP_next {A : List (List UInt8)} {y : UInt8} {i c : Nat} (hi : i < A.length) (h : (ro A i).length ≤ c) : tmP A y i c = tmP A y (i + 1) 0 := by
  refine mkL_congr fun r hr => upto_congr fun n hn => ?_
  by_cases e : r < i
  · rw [if_pos (Or.inl e), if_pos (Or.inl (by omega))]
  · by_cases e2 : r = i
    · subst e2
      rw [if_pos (Or.inr ⟨rfl, by omega⟩), if_pos (show r < r + 1 ∨ _ from Or.inl (by omega))]
    · rw [if_neg (by omega), if_neg (by omega)]
theorem tmP_at {A : List (List UInt8)} {y : UInt8} {i c : Nat} (hi : i < A.length) (hc : c < (ro A i).length) : co (ro (tmP A y i c) i) c = co (ro A i) c := by
  unfold tmP
  rw [ro_mkL hi, co_upto_in hc]
  exact if_neg (by omega)
theorem tmP_step {A : List (List UInt8)} {y : UInt8} {i c : Nat} (hi : i < A.length) (hc : c < (ro A i).length) : setL (tmP A y i c) i c (mu (co (ro A i) c) y) = tmP A y i (c + 1) := by
  refine ro_ext (by rw [setL_length, tmP_length, tmP_length]) fun r hr => ?_
  rw [setL_length, tmP_length] at hr
  unfold setL
  rw [ro_set (by rw [tmP_length]; exact hi)]
  by_cases e : r = i
  · subst e
    rw [if_pos rfl]
    refine co_ext (by rw [List.length_set, tmP_row hr, tmP_row hr]) fun n hn => ?_
    rw [List.length_set, tmP_row hr] at hn
    rw [co_at (by rw [tmP_row hr]; exact hc)]
    unfold tmP
    rw [ro_mkL hr, ro_mkL hr, co_upto_in hn, co_upto_in hn]
    by_cases e2 : n = c
    · subst e2; rw [if_pos rfl, if_pos (Or.inr ⟨rfl, by omega⟩)]
    · rw [if_neg e2]
      by_cases e3 : n < c
      · rw [if_pos (Or.inr ⟨rfl, e3⟩), if_pos (Or.inr ⟨rfl, by omega⟩)]
      · rw [if_neg (by omega), if_neg (by omega)]
  · rw [if_neg e]
    unfold tmP
    rw [ro_mkL hr, ro_mkL hr]
    refine upto_congr fun n hn => ?_
    by_cases e3 : r < i
    · rw [if_pos (Or.inl e3), if_pos (Or.inl e3)]
    · rw [if_neg (by omega), if_neg (by omega)]

set_option maxRecDepth 100000 in
set_option maxHeartbeats 4000000 in
theorem times_any {va : Value} {A : List (List UInt8)} {w : World} {b : Nat} (y : UInt8) {x : Int} (hx : x = ((y.toNat : Nat) : Int)) (hF : FieldAt w b) (hA : Rs w va A) (hS : Small A) : Calls Try.prog 9 #[.pointer (some ⟨b, 0, none⟩), va, .int .u8 x] w fun e w' => ∃ v, e = .returned v ∧ Rs w' v (timesL A y) ∧ Below w.heap.size w w' := by
  subst hx
  obtain ⟨aa, ca, rfl⟩ := hA.form
  have hS1 := hS.1
  have hbw := hF.lt
  have HC := rcop_any hA hS
  go_enter Try.func9, Try.ntmps9
  go_wp2_with fail
  refine HC.mono ?_
  rintro e w1 ⟨v', rfl, hO1, b1⟩
  obtain ⟨oa, oc, rfl⟩ := hO1.form
  have hSr : Hid (∀ i, (ro A i).length ≤ 300) := hS.2
  clear HC hA hS
  have HO1 : Hid (Os w1 w.heap.size 30 5 (.slice oa A.length oc) (tmP A y 0 0)) := by
    show Os _ _ _ _ _ _
    rw [tmP_zero]; exact hO1
  have HB1 : Hid (Below w.heap.size w w1) := b1
  clear hO1 b1
  go_wp2
  go_loopw [8] (fun i wr => ∃ r : Nat, r ≤ A.length ∧ i = .int .i64 r ∧ Os wr w.heap.size 30 5 (.slice oa A.length oc) (tmP A y r 0) ∧ Below w.heap.size w wr) (fun i _ => A.length - (intOf i).toNat)
  case atStart => exact ⟨0, by omega, rfl, HO1.out, HB1.out⟩
  case round =>
    obtain ⟨r, hr, rfl, hO, hBl⟩ := hrel
    clear HO1 HB1
    by_cases hltA : r < A.length
    · have hltA' : (r : Int) < (A.length : Int) := by omega
      go_wp2
      go_loopw [9] (fun i wr => ∃ n : Nat, n ≤ (ro A r).length ∧ i = .int .i64 n ∧ Os wr w.heap.size 30 5 (.slice oa A.length oc) (tmP A y r n) ∧ Below w.heap.size w wr) (fun i _ => (ro A r).length - (intOf i).toNat)
      case atStart => exact ⟨0, by omega, rfl, hO, hBl⟩
      case round =>
        clear hO hBl
        obtain ⟨n, hn, rfl, hO, hBl⟩ := hrel
        have hlnA := hSr.out r
        have hFr := hF.below hBl
        by_cases hn2 : n < (ro A r).length
        · obtain ⟨G, C, g, c, ev, cG, cg, fg, h1, h2, h3, h4, hset⟩ := hO.byte (i := r) (n := n) (by rw [tmP_length]; exact hltA) (by rw [tmP_row hltA]; exact hn2)
          simp at ev
          obtain ⟨eo, e1, e2⟩ := ev
          clear e1 e2
          subst eo
          rw [tmP_row hltA] at cG
          rw [tmP_at hltA hn2] at cg
          have hn2' : (n : Int) < ((ro A r).length : Int) := by omega
          have HOn : Hid (Os (wr.setCell ⟨g, n, none⟩ (.int .u8 (((mu (co (ro A r) n) y).toNat : Nat) : Int))) w.heap.size 30 5 (.slice (some ⟨G, 0, none⟩) A.length oc) (tmP A y r (n + 1))) := by
            show Os _ _ _ _ _ _
            rw [← tmP_step hltA hn2]
            exact hset _
          have HBn : Hid (Below w.heap.size w (wr.setCell ⟨g, n, none⟩ (.int .u8 (((mu (co (ro A r) n) y).toNat : Nat) : Int)))) := hBl.setCell h1 _
          clear hset hO hBl
          go_wp2
          go_region_with ((go_at_call 19; go_loud (refine (fmu_quiet (hFr.drewN _) (co (ro A r) n) y rfl rfl).mono ?_); rintro e w' ⟨rfl, d, rfl⟩))
          all_goals go_wp2
          all_goals
            go_roundw
            case rel => exact ⟨n + 1, by omega, by go_num, HOn.out.drewT _, HBn.out.drewN _⟩
            case measure => simp [intOf]; omega
        · have hn2' : ¬ (n : Int) < ((ro A r).length : Int) := by omega
          obtain ⟨Ga, go, za, zc, eo, hG, cG, rG⟩ := hO.rs.at (i := r) (by rw [tmP_length]; exact hltA)
          subst eo
          rw [tmP_row hltA] at cG
          have HOn : Hid (Os wr w.heap.size 30 5 (.slice (some ⟨Ga, go, none⟩) A.length oc) (tmP A y (r + 1) 0)) := by
            show Os _ _ _ _ _ _
            rw [← tmP_next (c := n) hltA (by omega)]; exact hO
          have HBn : Hid _ := hBl
          clear hO hBl rG
          go_wp2
          go_roundw
          case rel => exact ⟨r + 1, by omega, by go_num, HOn.out, HBn.out⟩
          case measure => simp [intOf]; omega
    · have HR : Hid (Rs wr (.slice oa A.length oc) (timesL A y)) := by
        show Rs _ _ _
        rw [← tmP_all (i := r) (by omega)]; exact hO.rs
      have HBn : Hid _ := hBl
      have hltA' : ¬ (r : Int) < (A.length : Int) := by omega
      clear hO hBl
      go_wp2
      go_ret
      exact ⟨_, rfl, HR.out, HBn.out⟩

end Go.Proofs.Ytehphjapahdalab.Gf
