/-
  THE STATEMENTS' 'added' BY CONTRACT.
-/
import Derived.Test.YtehphjapahdalaaBkCop
import Derived.Test.YtehphjapahdalaaBkAddM
import Derived.Deep.RegionWith
namespace Go.Proofs.Ytehphjapahdalaa.Gf
set_option linter.unusedVariables false
set_option linter.unusedSimpArgs false
open Go.RowKit

theorem Os.drew {w : World} {base T u : Nat} {v : Value} {L : List (List UInt8)} (h : Os w base T u v L) : Os w.drew base T u v L := by
  obtain ⟨vals, hv, hr⟩ := h
  exact ⟨vals, World.ownsRow.drew hv, ⟨fun i x hx => World.ownsRow.drew (hr.own i x hx), hr.diff, hr.out⟩⟩
theorem Os.drewN {w : World} {base T u : Nat} {v : Value} {L : List (List UInt8)} (h : Os w base T u v L) (n : Nat) : Os (w.drewN n) base T u v L := by
  obtain ⟨vals, hv, hr⟩ := h
  exact ⟨vals, hv, ⟨fun i x hx => hr.own i x hx, hr.diff, hr.out⟩⟩
set_option maxRecDepth 100000 in
set_option maxHeartbeats 4000000 in
theorem added_any {va vb : Value} {A B : List (List UInt8)} {w : World} (hA : Rs w va A) (hB : Rs w vb B) (hS : Small A) : Calls Try.prog 19 #[va, vb] w fun e w' => ∃ v, e = .returned v ∧ Rs w' v (addL A B) ∧ Below w.heap.size w w' := by
  obtain ⟨aa, ca, rfl⟩ := hA.form
  obtain ⟨ab, cb, rfl⟩ := hB.form
  have hlB := hB.len
  unfold maxLen at hlB
  have hS1 := hS.1
  have HC := rcop_any hA hS
  go_enter Try.func19, Try.ntmps19
  go_wp2_with fail
  refine HC.mono ?_
  rintro e w1 ⟨v', rfl, hO1, b1⟩
  obtain ⟨oa, oc, rfl⟩ := hO1.form
  have hSr : Hid (∀ i, (ro A i).length ≤ 300) := hS.2
  clear HC hA hS
  have HO1 : Hid (Os w1 w.heap.size 35 5 (.slice oa A.length oc) (adP A B 0 0)) := by
    show Os _ _ _ _ _ _
    rw [adP_zero]; exact hO1
  have HB1 : Hid (Below w.heap.size w w1) := b1
  clear hO1 b1
  go_wp2
  go_loopw [6] (fun i wr => ∃ r : Nat, r ≤ A.length ∧ i = .int .i64 r ∧ Os wr w.heap.size 35 5 (.slice oa A.length oc) (adP A B r 0) ∧ Below w.heap.size w wr) (fun i _ => A.length - (intOf i).toNat)
  case atStart => exact ⟨0, by omega, rfl, HO1.out, HB1.out⟩
  case round =>
    obtain ⟨r, hr, rfl, hO, hBl⟩ := hrel
    clear HO1 HB1
    by_cases hlt : r < A.length ∧ r < B.length
    · obtain ⟨hltA, hltB⟩ := hlt
      have hltA' : (r : Int) < (A.length : Int) := by omega
      have hltB' : (r : Int) < (B.length : Int) := by omega
      go_wp2
      go_loopw [7] (fun i wr => ∃ n : Nat, n ≤ (ro A r).length ∧ i = .int .i64 n ∧ Os wr w.heap.size 35 5 (.slice oa A.length oc) (adP A B r n) ∧ Below w.heap.size w wr) (fun i _ => (ro A r).length - (intOf i).toNat)
      case atStart => exact ⟨0, by omega, rfl, hO, hBl⟩
      case round =>
        clear hO hBl
        obtain ⟨n, hn, rfl, hO, hBl⟩ := hrel
        obtain ⟨bb, bo, ya, yc, eab, hbb, cB, rB⟩ := (hB.below hBl).at hltB
        subst eab
        have hlnA := hSr.out r
        have hlnB := rB.len
        unfold maxLen at hlnB
        by_cases hn2 : n < (ro A r).length
        · obtain ⟨G, C, g, c, ev, cG, cg, fg, h1, h2, h3, h4, hset⟩ := hO.byte (i := r) (n := n) (by rw [adP_length]; exact hltA) (by rw [adP_row hltA]; exact hn2)
          simp at ev
          obtain ⟨eo, _, _⟩ := ev
          subst eo
          rw [adP_row hltA] at cG
          rw [adP_at hltA hn2] at cg
          have hn2' : (n : Int) < ((ro A r).length : Int) := by omega
          by_cases hn3 : n < (ro B r).length
          · have hn3' : (n : Int) < ((ro B r).length : Int) := by omega
            obtain ⟨qb, qo, eya, hqb, cq⟩ := rB.byte hn3
            subst eya
            have E := xor_u8 (co (ro A r) n) (co (ro B r) n)
            have HOn : Hid (Os (wr.setCell ⟨g, n, none⟩ (.int .u8 (((co (ro A r) n).toNat ^^^ (co (ro B r) n).toNat : Nat) : Int))) w.heap.size 35 5 (.slice (some ⟨G, 0, none⟩) A.length oc) (adP A B r (n + 1))) := by
              show Os _ _ _ _ _ _
              rw [← UInt8.toNat_xor, ← adP_step hltA hn2]
              exact hset _
            have HBn : Hid (Below w.heap.size w (wr.setCell ⟨g, n, none⟩ (.int .u8 (((co (ro A r) n).toNat ^^^ (co (ro B r) n).toNat : Nat) : Int)))) := hBl.setCell h1 _
            clear hset hO hBl hB rB
            go_wp2
            go_region
            all_goals
              go_wp2
              go_roundw
              case rel => exact ⟨n + 1, by omega, by go_num, HOn.out.drew, HBn.out.drew⟩
              case measure => simp [intOf]; omega
          · have hn3' : ¬ (n : Int) < ((ro B r).length : Int) := by omega
            have HOn : Hid (Os wr w.heap.size 35 5 (.slice (some ⟨G, 0, none⟩) A.length oc) (adP A B (r + 1) 0)) := by
              show Os _ _ _ _ _ _
              rw [← adP_next (c := n) hltA (Or.inr (by omega))]; exact hO
            have HBn : Hid _ := hBl
            clear hset hO hBl hB rB
            go_wp2
            go_roundw
            case rel => exact ⟨r + 1, by omega, by go_num, HOn.out, HBn.out⟩
            case measure => simp [intOf]; omega
        · have hn2' : ¬ (n : Int) < ((ro A r).length : Int) := by omega
          obtain ⟨Ga, go, za, zc, eo, hG, cG, rG⟩ := hO.rs.at (i := r) (by rw [adP_length]; exact hltA)
          subst eo
          rw [adP_row hltA] at cG
          have HOn : Hid (Os wr w.heap.size 35 5 (.slice (some ⟨Ga, go, none⟩) A.length oc) (adP A B (r + 1) 0)) := by
            show Os _ _ _ _ _ _
            rw [← adP_next (c := n) hltA (Or.inl (by omega))]; exact hO
          have HBn : Hid _ := hBl
          clear hO hBl hB rB rG
          go_wp2
          go_roundw
          case rel => exact ⟨r + 1, by omega, by go_num, HOn.out, HBn.out⟩
          case measure => simp [intOf]; omega
    · have HR : Hid (Rs wr (.slice oa A.length oc) (addL A B)) := by
        show Rs _ _ _
        rw [← adP_all (i := r) (by omega)]; exact hO.rs
      have HBn : Hid _ := hBl
      clear hO hBl hB
      by_cases hlt2 : r < A.length
      · have hltA' : (r : Int) < (A.length : Int) := by omega
        have hltB' : ¬ (r : Int) < (B.length : Int) := by omega
        clear hlt
        go_wp2
        go_ret
        exact ⟨_, rfl, HR.out, HBn.out⟩
      · have hltA' : ¬ (r : Int) < (A.length : Int) := by omega
        clear hlt
        go_wp2
        go_ret
        exact ⟨_, rfl, HR.out, HBn.out⟩

end Go.Proofs.Ytehphjapahdalaa.Gf
