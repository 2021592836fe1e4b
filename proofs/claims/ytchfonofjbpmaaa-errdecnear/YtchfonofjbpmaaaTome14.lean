/- TEXTS JOINED: WdLaw. -/
import Derived.Test.YtchfonofjbpmaaaTome13
/-
  WHAT THE STATEMENTS OF LAYER 10 ASK, BY CONTRACT: 'count'; lists of places.
-/

namespace Go.Proofs.Ytchfonofjbpmaaa.Gf
set_option linter.unusedVariables false
set_option linter.unusedSimpArgs false
open Go.RowKit

theorem wdP_small (k m : Int) (z : List UInt8) (ms : List Bool) : (wdP k m z ms).length ≤ 1000000 := by
  classical
  unfold wdP
  split
  · rename_i h
    obtain ⟨k', m', rfl, rfl, h1, h2⟩ := h.1.nat
    rw [plc_length]
    have := cnt_le (wrg (co z) (nearF (k' : Int).toNat (m' : Int).toNat z ms) (hb ms)) ((k' : Int).toNat + (m' : Int).toNat)
    have e1 : (k' : Int).toNat = k' := rfl
    have e2 : (m' : Int).toNat = m' := rfl
    omega
  · simp

/-- what is told of a word of the right length -/
theorem wd_two {k m : Nat} {z : List UInt8} {ms : List Bool} (h1 : 1 ≤ k) (h2 : k + m ≤ 256) (hz : z.length = k + m) (hm : ms.length = k + m) :
    (wdX k m z ms = 100 ∧ wdR k m z ms = [] ∧ wdP k m z ms = []) ∨ ∃ c, Near k m (co z) (hb ms) c ∧ wdX k m z ms = 0 ∧ wdR k m z ms = upto c (k + m) ∧ wdP k m z ms = plc (wrg (co z) c (hb ms)) (k + m) := by
  have okc : OkC (k : Int) (m : Int) := ⟨by omega, by omega, by omega⟩
  have okw : OkW (k : Int) (m : Int) z ms := ⟨by omega, by omega⟩
  by_cases h : IsNear k m z ms
  · right
    obtain ⟨c, hc⟩ := h
    obtain ⟨e1, e2, e3⟩ := wd_ok okc okw hc
    exact ⟨c, hc, e1, e2, e3⟩
  · exact Or.inl (wd_many okc okw h)

set_option maxRecDepth 100000 in
set_option maxHeartbeats 1000000 in
theorem lcnt_any {va : Value} {h : List Bool} {w : World} (hH : RdB w va h) : Calls Try.prog 23 #[va] w fun e w' => e = .returned (.int .i64 ((cnt (hb h) h.length : Nat) : Int)) ∧ w' = w := by
  obtain ⟨a, c, rfl⟩ := hH.form
  have hl := hH.len
  unfold maxLen at hl
  go_enter Try.func23, Try.ntmps23
  go_wp2
  go_loop [3, 4] (fun x i => ∃ k : Nat, k ≤ h.length ∧ i = .int .i64 k ∧ x = .int .i64 ((cnt (hb h) k : Nat) : Int)) (fun _ i => h.length - (intOf i).toNat)
  case atStart => exact ⟨0, by omega, rfl, rfl⟩
  case round =>
    obtain ⟨k, hk, rfl, rfl⟩ := hrel
    have hq := cnt_le (hb h) k
    by_cases hlt : k < h.length
    · obtain ⟨b, off, rfl, _, c1⟩ := hH.at hlt
      have hlt' : (k : Int) < (h.length : Int) := by omega
      cases e : hb h k with
      | false =>
        rw [e] at c1
        have E : Hid (cnt (hb h) (k + 1) = cnt (hb h) k) := by show _ = _; rw [cnt, e]; rfl
        clear hH e
        go_wp2
        go_round
        case rel => exact ⟨k + 1, by omega, by go_num, by rw [E.out]⟩
        case measure => simp [intOf]; omega
      | true =>
        rw [e] at c1
        have E : Hid (cnt (hb h) (k + 1) = cnt (hb h) k + 1) := by show _ = _; rw [cnt, e]; rfl
        have gw : IntKind.i64.wrap (((cnt (hb h) k : Nat) : Int) + 1) = ((cnt (hb h) k : Nat) : Int) + 1 := by rw [IntKind.wrap_i64]; omega
        clear hH e
        go_wp2
        go_round
        case rel => exact ⟨k + 1, by omega, by go_num, by rw [E.out]; go_num⟩
        case measure => simp [intOf]; omega
    · have e : k = h.length := by omega
      subst e
      have hge : ¬ (h.length : Int) < (h.length : Int) := by omega
      clear hH
      go_wp2
      go_ret
      exact ⟨rfl, rfl⟩
theorem lcnt_b {va : Value} {h : List Bool} {w : World} (hH : RdB w va h) : Calls Try.prog 23 #[va] w fun e w' => e = .returned (.int .i64 ((cnt (hb h) h.length : Nat) : Int)) ∧ Below w.heap.size w w' :=
  (lcnt_any hH).mono fun e w' ⟨h1, h2⟩ => ⟨h1, by rw [h2]; exact Below.refl _ _⟩
theorem ints_t {va vb : Value} {xs ys : List Int} {w : World} (ha : RdI w va xs) (hb : RdI w vb ys) (hl : xs.length ≤ 1000000) (hl2 : ys.length ≤ 1000000) (h : xs = ys) : Calls Try.prog 15 #[va, vb] w fun e w' => e = .returned (.bool true) ∧ Below w.heap.size w w' :=
  (rints_any ha hb hl hl2).mono fun e w' ⟨h1, h2⟩ => ⟨by rw [h1, decide_eq_true h], h2⟩

end Go.Proofs.Ytchfonofjbpmaaa.Gf

