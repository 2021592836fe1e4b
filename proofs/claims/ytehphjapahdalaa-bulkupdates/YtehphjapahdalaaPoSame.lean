/-
  THE DOCUMENT's ANSWER FOR LAYER 2 (package aumbryref02) BY CONTRACT: 'Same' tells whether two lists of bytes are one.
-/
import Derived.Test.YtehphjapahdalaaPoRd
namespace Go.Proofs.Ytehphjapahdalaa.Gf
set_option linter.unusedVariables false
set_option linter.unusedSimpArgs false
open Go.RowKit

def sameB (p q : List UInt8) : Bool := decide (p = q)
theorem sameB_self (p : List UInt8) : sameB p p = true := decide_eq_true rfl
theorem sameB_of {p q : List UInt8} (h : p = q) : sameB p q = true := decide_eq_true h

set_option maxRecDepth 100000 in
set_option maxHeartbeats 1000000 in
/-- of unlike lengths -/
theorem same_len (a b : Option Addr) (n m c d : Nat) (w : World) (h : n ≠ m) :
    Calls Try.prog 32 #[.slice a n c, .slice b m d] w fun e w' => e = .returned (.bool false) ∧ w' = w := by
  have hb : ((n : Int) != (m : Int)) = true := by simp; omega
  go_enter Try.func32, Try.ntmps32
  go_wp2
  go_ret
  exact ⟨rfl, rfl⟩

set_option maxRecDepth 100000 in
set_option maxHeartbeats 1000000 in
/-- of nothing -/
theorem same_nil (a b : Option Addr) (c d : Nat) (w : World) :
    Calls Try.prog 32 #[.slice a 0 c, .slice b 0 d] w fun e w' => e = .returned (.bool true) ∧ w' = w := by
  go_enter Try.func32, Try.ntmps32
  go_wp2
  go_loop [5] (fun i => i = .int .i64 0) (fun _ => 0)
  case atStart => rfl
  case round =>
    subst hrel
    go_wp2
    go_ret
    exact ⟨rfl, rfl⟩

set_option maxRecDepth 100000 in
set_option maxHeartbeats 1000000 in
theorem same_main (b off b' off' c d : Nat) (p q : List UInt8) (w : World) (hl : q.length = p.length) (hm : p.length ≤ 9223372036854775807)
    (hp : ∀ i, i < p.length → w.cell? ⟨b, off + i, none⟩ = some (.int .u8 ((co p i).toNat : Nat)))
    (hq : ∀ i, i < p.length → w.cell? ⟨b', off' + i, none⟩ = some (.int .u8 ((co q i).toNat : Nat))) :
    Calls Try.prog 32 #[.slice (some ⟨b, off, none⟩) p.length c, .slice (some ⟨b', off', none⟩) p.length d] w fun e w' => e = .returned (.bool (sameB p q)) ∧ ∃ n, w' = w.drewN n := by
  have hb : ((p.length : Int) != (p.length : Int)) = false := by simp
  go_enter Try.func32, Try.ntmps32
  go_wp2
  clear hb
  go_loopw [5] (fun i wr => ∃ k : Nat, k ≤ p.length ∧ i = .int .i64 k ∧ Hid (∀ j, j < k → co p j = co q j) ∧ ∃ n, wr = w.drewN n) (fun i _ => p.length - (intOf i).toNat)
  case atStart => exact ⟨0, by omega, rfl, fun j hj => by omega, 0, rfl⟩
  case round =>
    obtain ⟨k, hk, rfl, hs, nd, rfl⟩ := hrel
    by_cases hlt : k < p.length
    · have c1 := hp k hlt
      have c2 := hq k hlt
      by_cases e : co p k = co q k
      · have hn : ((((co p k).toNat : Nat) : Int) != (((co q k).toNat : Nat) : Int)) = false := by rw [ne_u8]; simp [e]
        have HS : Hid (∀ j, j < k + 1 → co p j = co q j) := fun j hj => by
          by_cases e2 : j = k
          · rw [e2]; exact e
          · exact hs.out j (by omega)
        clear e hp hq hs
        go_wp2
        go_quiet (fail)
        go_wp2
        go_roundw
        case rel => exact ⟨k + 1, by omega, by go_num, HS, _, rfl⟩
        case measure => simp [intOf]; omega
      · have hn : ((((co p k).toNat : Nat) : Int) != (((co q k).toNat : Nat) : Int)) = true := by rw [ne_u8]; simp [e]
        have E : Hid (sameB p q = false) := by
          refine decide_eq_false (fun h => e ?_)
          rw [h]
        clear e hp hq hs
        go_wp2
        go_quiet (fail)
        go_wp2
        go_ret
        exact ⟨by rw [E.out]; rfl, _, World.drewN_drewN _ _ _⟩
    · have E : Hid (sameB p q = true) := sameB_of (co_ext hl.symm (fun i hi => hs.out i (by omega)))
      clear hp hq hs
      go_wp2
      go_ret
      exact ⟨by rw [E.out]; rfl, _, rfl⟩

theorem same_any {va vb : Value} {p q : List UInt8} {w : World} (hp : Rd w va p) (hq : Rd w vb q) :
    Calls Try.prog 32 #[va, vb] w fun e w' => e = .returned (.bool (sameB p q)) ∧ ∃ n, w' = w.drewN n := by
  have l1 := hp.len
  have l2 := hq.len
  unfold maxLen at l1 l2
  by_cases hl : p.length = q.length
  · rcases hp with ⟨a, c, rfl, rfl, _⟩ | ⟨b, off, c, hp0, rfl, _, _, _, hpc⟩
    · have : q = [] := List.length_eq_zero_iff.1 (by simpa using hl.symm)
      subst this
      rcases hq with ⟨a', c', _, rfl, _⟩ | ⟨_, _, _, h, _⟩
      · exact (same_nil a a' c c' w).mono fun e w' ⟨he, hw⟩ => ⟨by rw [he, sameB_self], 0, hw⟩
      · exact absurd rfl h
    · rcases hq with ⟨a', c', rfl, rfl, _⟩ | ⟨b', off', c', hq0, rfl, _, _, _, hqc⟩
      · exact absurd (List.length_eq_zero_iff.1 hl) hp0
      · rw [← hl]
        exact same_main b off b' off' c c' p q w hl.symm (by omega) hpc (fun i hi => hqc i (by omega))
  · have E : sameB p q = false := decide_eq_false (fun h => hl (by rw [h]))
    have key : ∃ a n c, va = .slice a n c ∧ n = p.length := by
      rcases hp with ⟨a, c, rfl, rfl, _⟩ | ⟨b, off, c, hp0, rfl, _⟩
      · exact ⟨_, _, _, rfl, rfl⟩
      · exact ⟨_, _, _, rfl, rfl⟩
    have key2 : ∃ a n c, vb = .slice a n c ∧ n = q.length := by
      rcases hq with ⟨a, c, rfl, rfl, _⟩ | ⟨b, off, c, hp0, rfl, _⟩
      · exact ⟨_, _, _, rfl, rfl⟩
      · exact ⟨_, _, _, rfl, rfl⟩
    obtain ⟨a, n, c, rfl, rfl⟩ := key
    obtain ⟨a', n', c', rfl, rfl⟩ := key2
    exact (same_len a a' _ _ c c' w hl).mono fun e w' ⟨he, hw⟩ => ⟨by rw [he, E], 0, hw⟩

/-- the same, for a caller: the world behind it is a new letter -/
theorem same_b {va vb : Value} {p q : List UInt8} {w : World} (hp : Rd w va p) (hq : Rd w vb q) :
    Calls Try.prog 32 #[va, vb] w fun e w' => e = .returned (.bool (sameB p q)) ∧ Below w.heap.size w w' :=
  (same_any hp hq).mono fun e w' ⟨he, n, hw⟩ => ⟨he, by rw [hw]; exact ⟨rfl, rfl, rfl, Nat.le_refl _, fun _ _ => rfl⟩⟩

end Go.Proofs.Ytehphjapahdalaa.Gf
