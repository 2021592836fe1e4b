/-
  SHARDS OF ONE LENGTH; THE DOCUMENT's ANSWER FOR LAYER 6 (package aumbryref06) BY CONTRACT: 'Same'.
-/
import Derived.Test.YtehphjapahdalaaBkRd
namespace Go.Proofs.Ytehphjapahdalaa.Gf
set_option linter.unusedVariables false
set_option linter.unusedSimpArgs false
open Go.RowKit

/-- all of one length -/
def Even (L : List (List UInt8)) : Prop := ∀ i, i < L.length → (ro L i).length = (ro L 0).length
instance (L : List (List UInt8)) : Decidable (Even L) := inferInstanceAs (Decidable (∀ i, i < L.length → (ro L i).length = (ro L 0).length))
def alikeB (L : List (List UInt8)) (n : Int) : Bool := decide ((L.length : Int) = n ∧ Even L)
theorem alikeB_true {L : List (List UInt8)} {n : Int} (h1 : (L.length : Int) = n) (h2 : Even L) : alikeB L n = true := decide_eq_true ⟨h1, h2⟩
theorem alikeB_false1 {L : List (List UInt8)} {n : Int} (h1 : ¬ (L.length : Int) = n) : alikeB L n = false := decide_eq_false fun h => h1 h.1
theorem alikeB_false2 {L : List (List UInt8)} {n : Int} (h1 : ¬ Even L) : alikeB L n = false := decide_eq_false fun h => h1 h.2
def sameL (A B : List (List UInt8)) : Bool := decide (A = B)

set_option maxRecDepth 100000 in
set_option maxHeartbeats 1000000 in
theorem same6_any {va vb : Value} {A B : List (List UInt8)} {w : World} (hA : Rs w va A) (hB : Rs w vb B) : Calls Try.prog 16 #[va, vb] w fun e w' => e = .returned (.bool (sameL A B)) ∧ ∃ n, w' = w.drewN n := by
  obtain ⟨a, c, rfl⟩ := hA.form
  obtain ⟨a', c', rfl⟩ := hB.form
  have hl := hA.len
  unfold maxLen at hl
  by_cases hx : A.length = B.length
  · have hb : ((A.length : Int) != (B.length : Int)) = false := by simp [hx]
    have hx' : Hid (A.length = B.length) := hx
    clear hx
    go_enter Try.func16, Try.ntmps16
    go_wp2
    clear hb
    go_loopw [5] (fun i wr => ∃ k : Nat, k ≤ A.length ∧ i = .int .i64 k ∧ Hid (∀ j, j < k → ro A j = ro B j) ∧ ∃ n, wr = w.drewN n) (fun i _ => A.length - (intOf i).toNat)
    case atStart => exact ⟨0, by omega, rfl, fun j hj => by omega, 0, rfl⟩
    case round =>
      obtain ⟨k, hk, rfl, hs, nd, hd0⟩ := hrel
      have hd : Hid (wr = w.drewN nd) := hd0
      have hA' : Rs wr (.slice a A.length c) A := by rw [hd0]; exact hA.drewN nd
      have hB' : Rs wr (.slice a' B.length c') B := by rw [hd0]; exact hB.drewN nd
      clear hd0 hA hB
      by_cases hlt : k < A.length
      · have hltB : k < B.length := by have := hx'.out; omega
        obtain ⟨b, off, xa, xc, rfl, hb, c1, r1⟩ := hA'.at hlt
        obtain ⟨b', off', ya, yc, rfl, hb', c0, r0⟩ := hB'.at hltB
        have hlt' : (k : Int) < (A.length : Int) := by omega
        have h0' : (k : Int) < (B.length : Int) := by omega
        by_cases e : ro A k = ro B k
        · have hn : sameB (ro A k) (ro B k) = true := sameB_of e
          have HS : Hid (∀ j, j < k + 1 → ro A j = ro B j) := fun j hj => by
            by_cases e2 : j = k
            · rw [e2]; exact e
            · exact hs.out j (by omega)
          clear e hs hA' hB'
          go_wp2
          go_quiet ((go_at_call 32; go_loud (exact Calls.quiet_of (same_any (r1.drewN _) (r0.drewN _)))))
          go_wp2
          go_roundw
          case rel => exact ⟨k + 1, by omega, by go_num, HS, _, by show _ = _; rw [hd.out, World.drewN_drewN]⟩
          case measure => simp [intOf]; omega
        · have hn : sameB (ro A k) (ro B k) = false := decide_eq_false e
          have E : Hid (sameL A B = false) := decide_eq_false fun h => e (by rw [h])
          clear e hs hA' hB'
          go_wp2
          go_quiet ((go_at_call 32; go_loud (exact Calls.quiet_of (same_any (r1.drewN _) (r0.drewN _)))))
          go_wp2
          go_ret
          exact ⟨by rw [E.out]; rfl, _, by show _ = _; rw [hd.out, World.drewN_drewN]⟩
      · have E : Hid (sameL A B = true) := decide_eq_true (ro_ext hx'.out fun i hi => hs.out i (by omega))
        have hge : ¬ (k : Int) < (A.length : Int) := by omega
        clear hs hA' hB'
        go_wp2
        go_ret
        exact ⟨by rw [E.out]; rfl, _, hd.out⟩
  · have hb : ((A.length : Int) != (B.length : Int)) = true := by simp; omega
    have E : Hid (sameL A B = false) := decide_eq_false fun h => hx (by rw [h])
    clear hA hB hx
    go_enter Try.func16, Try.ntmps16
    go_wp2
    go_ret
    exact ⟨by rw [E.out]; rfl, 0, rfl⟩

end Go.Proofs.Ytehphjapahdalaa.Gf
