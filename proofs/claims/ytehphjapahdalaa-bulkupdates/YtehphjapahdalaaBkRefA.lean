/-
  THE DOCUMENT's ANSWER FOR LAYER 6 (package aumbryref06) BY CONTRACT: 'Alike'.
-/
import Derived.Test.YtehphjapahdalaaBkEven
namespace Go.Proofs.Ytehphjapahdalaa.Gf
set_option linter.unusedVariables false
set_option linter.unusedSimpArgs false
open Go.RowKit

set_option maxRecDepth 100000 in
set_option maxHeartbeats 1000000 in
theorem alike_any {v : Value} {L : List (List UInt8)} {w : World} (h : Rs w v L) {x : Int} : Calls Try.prog 27 #[v, .int .i64 x] w fun e w' => e = .returned (.bool (alikeB L x)) ∧ ∃ n, w' = w.drewN n := by
  obtain ⟨a, c, rfl⟩ := h.form
  have hl := h.len
  unfold maxLen at hl
  by_cases hx : (L.length : Int) = x
  · have hb : ((L.length : Int) != x) = false := by simp [hx]
    go_enter Try.func27, Try.ntmps27
    go_wp2
    clear hb
    go_loopw [5] (fun i wr => ∃ k : Nat, 1 ≤ k ∧ k ≤ L.length + 1 ∧ i = .int .i64 k ∧ Hid (∀ j, j < k → j < L.length → (ro L j).length = (ro L 0).length) ∧ ∃ n, wr = w.drewN n) (fun i _ => L.length + 1 - (intOf i).toNat)
    case atStart => exact ⟨1, by omega, by omega, rfl, fun j hj hj2 => by rw [show j = 0 by omega], 0, rfl⟩
    case round =>
      obtain ⟨k, hk1, hk, rfl, hs, nd, rfl⟩ := hrel
      by_cases hlt : k < L.length
      · obtain ⟨b, off, xa, xc, rfl, hb, c1, r1⟩ := h.at hlt
        obtain ⟨ya, yc, c0, r0⟩ := h.get (i := 0) (by omega)
        rw [Nat.add_zero] at c0
        have hlt' : (k : Int) < (L.length : Int) := by omega
        have h0' : (0 : Int) < (L.length : Int) := by omega
        by_cases e : (ro L k).length = (ro L 0).length
        · have hn : (((ro L k).length : Int) != ((ro L 0).length : Int)) = false := by simp [e]
          have HS : Hid (∀ j, j < k + 1 → j < L.length → (ro L j).length = (ro L 0).length) := fun j hj hj2 => by
            by_cases e2 : j = k
            · rw [e2]; exact e
            · exact hs.out j (by omega) hj2
          clear e hs h r1 r0
          go_wp2
          go_quiet (fail)
          go_wp2
          go_roundw
          case rel => exact ⟨k + 1, by omega, by omega, by go_num, HS, _, rfl⟩
          case measure => simp [intOf]; omega
        · have hn : (((ro L k).length : Int) != ((ro L 0).length : Int)) = true := by simp; omega
          have E : Hid (alikeB L x = false) := alikeB_false2 fun h => e (h k hlt)
          clear e hs h r1 r0
          go_wp2
          go_quiet (fail)
          go_wp2
          go_ret
          exact ⟨by rw [E.out]; rfl, _, World.drewN_drewN _ _ _⟩
      · have E : Hid (alikeB L x = true) := alikeB_true hx fun i hi => hs.out i (by omega) hi
        have hge : ¬ (k : Int) < (L.length : Int) := by omega
        clear hs h
        go_wp2
        go_ret
        exact ⟨by rw [E.out]; rfl, _, rfl⟩
  · have hb : ((L.length : Int) != x) = true := by simp [hx]
    have E : Hid (alikeB L x = false) := alikeB_false1 hx
    clear h hx
    go_enter Try.func27, Try.ntmps27
    go_wp2
    go_ret
    exact ⟨by rw [E.out]; rfl, 0, rfl⟩

end Go.Proofs.Ytehphjapahdalaa.Gf
