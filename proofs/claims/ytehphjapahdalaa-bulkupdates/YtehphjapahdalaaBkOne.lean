/-
  THE PROGRAM's 'oneLength' BY CONTRACT.
-/
import Derived.Test.YtehphjapahdalaaBkEven
import Derived.WalkMore
namespace Go.Proofs.Ytehphjapahdalaa.Gf
set_option linter.unusedVariables false
set_option linter.unusedSimpArgs false
open Go.RowKit

/-- the length that the first shard has; of none -1 -/
def fl (L : List (List UInt8)) : Int := if L.length = 0 then -1 else (((ro L 0).length : Nat) : Int)
theorem fl_nil : fl [] = -1 := rfl
theorem fl_pos {L : List (List UInt8)} (h : 0 < L.length) : fl L = (((ro L 0).length : Nat) : Int) := if_neg (by omega)
theorem even_nil : Even [] := fun i hi => by simp at hi
theorem Even.push {L : List (List UInt8)} {p : List UInt8} (h : Even L) (hp : 0 < L.length → p.length = (ro L 0).length) : Even (L ++ [p]) := by
  intro i hi
  rw [List.length_append] at hi
  simp at hi
  by_cases h0 : L.length = 0
  · have : L = [] := List.length_eq_zero_iff.1 h0
    subst this
    rw [show i = 0 by simp at hi; omega]
  · rw [ro_append_left (i := 0) (by omega)]
    by_cases e : i < L.length
    · rw [ro_append_left e]; exact h i e
    · rw [ro_append_right (by omega), show i - L.length = 0 by omega]; exact hp (by omega)
theorem fl_push {L : List (List UInt8)} {p : List UInt8} : fl (L ++ [p]) = if L.length = 0 then ((p.length : Nat) : Int) else fl L := by
  rw [fl_pos (by simp)]
  by_cases h0 : L.length = 0
  · rw [if_pos h0]
    have : L = [] := List.length_eq_zero_iff.1 h0
    subst this; rfl
  · rw [if_neg h0, ro_append_left (by omega), fl_pos (by omega)]
theorem Even.left {L M : List (List UInt8)} (h : Even (L ++ M)) : Even L := fun i hi => by
  have := h i (by rw [List.length_append]; omega)
  rwa [ro_append_left hi, ro_append_left (by omega)] at this
theorem take_push {M : List (List UInt8)} {k : Nat} (h : k < M.length) : M.take (k + 1) = M.take k ++ [ro M k] := by
  rw [List.take_add_one, ro_some h]; rfl
theorem Even.take {L M : List (List UInt8)} {k : Nat} (h : Even (L ++ M)) : Even (L ++ M.take k) := by
  have : L ++ M = (L ++ M.take k) ++ M.drop k := by rw [List.append_assoc, List.take_append_drop]
  rw [this] at h
  exact h.left
/-- where a shard has another length -/
theorem not_even {L M : List (List UInt8)} {k : Nat} (hk : k < M.length) (h0 : 0 < (L ++ M.take k).length) (hne : (ro M k).length ≠ (ro (L ++ M.take k) 0).length) : ¬ Even (L ++ M) := by
  intro h
  have h1 := h (L.length + k) (by rw [List.length_append]; omega)
  rw [ro_append_right (by omega), show L.length + k - L.length = k by omega] at h1
  apply hne
  rw [h1]
  have : L ++ M = (L ++ M.take k) ++ M.drop k := by rw [List.append_assoc, List.take_append_drop]
  rw [this, ro_append_left h0]

/-- the lists that were asked ahead of the list c -/
def ahead (A B : List (List UInt8)) (c : Nat) : List (List UInt8) := if c = 0 then [] else if c = 1 then A else A ++ B
def nth (A B : List (List UInt8)) (c : Nat) : List (List UInt8) := if c = 0 then A else B
theorem ahead_step {A B : List (List UInt8)} {c : Nat} (h : c < 2) : ahead A B c ++ nth A B c = ahead A B (c + 1) := by
  rcases c with _ | _ | c
  · rfl
  · rfl
  · omega
theorem ahead_all {A B : List (List UInt8)} {c : Nat} (h : c < 2) (hE : Even (A ++ B)) : Even (ahead A B c ++ nth A B c) := by
  rw [ahead_step h]
  rcases c with _ | _ | c
  · exact hE.left
  · exact hE
  · omega

set_option maxRecDepth 100000 in
set_option maxHeartbeats 2000000 in
theorem one_any {v0 v1 : Value} {A B : List (List UInt8)} {w : World} {g : Nat} (hA : Rs w v0 A) (hB : Rs w v1 B) (k0 : w.cell? ⟨g, 0, none⟩ = some v0) (k1 : w.cell? ⟨g, 1, none⟩ = some v1) :
    Calls Try.prog 37 #[.slice (some ⟨g, 0, none⟩) 2 2] w fun e w' => e = .returned (.bool (decide (Even (A ++ B)))) ∧ w' = w := by
  have hN : Hid (∀ c, c < 2 → ∃ a n, n = (nth A B c).length ∧ ∃ cap, w.cell? ⟨g, c, none⟩ = some (.slice a n cap) ∧ Rs w (.slice a n cap) (nth A B c)) := by
    intro c hc
    rcases c with _ | _ | c
    · obtain ⟨a, cap, rfl⟩ := hA.form; exact ⟨a, _, rfl, cap, k0, hA⟩
    · obtain ⟨a, cap, rfl⟩ := hB.form; exact ⟨a, _, rfl, cap, k1, hB⟩
    · omega
  clear hA hB k0 k1
  go_enter Try.func37, Try.ntmps37
  go_wp2
  go_step3
  go_wp2
  go_step3
  go_wp2
  go_loop [3, 4, 11] (fun x s i => ∃ c : Nat, c ≤ 2 ∧ i = .int .i64 c ∧ s = .bool true ∧ x = .int .i64 (fl (ahead A B c)) ∧ Hid (Even (ahead A B c))) (fun _ _ i => 2 - (intOf i).toNat)
  case atStart => exact ⟨0, by omega, rfl, rfl, rfl, even_nil⟩
  case round =>
    obtain ⟨c, hc, rfl, rfl, rfl, hE⟩ := hrel
    by_cases hlt : c < 2
    · obtain ⟨a, n, hn, cap, kc, hM⟩ := hN.out c hlt
      obtain ⟨M, hMM⟩ : ∃ M, Hid (M = nth A B c) := ⟨_, rfl⟩
      obtain ⟨J, hJ⟩ : ∃ J, Hid (J = ahead A B c) := ⟨_, rfl⟩
      rw [← hMM.out] at hM hn
      rw [← hJ.out] at hE ⊢
      subst hn
      have hml := hM.len
      unfold maxLen at hml
      have hlt' : (c : Int) < 2 := by omega
      go_wp2
      go_loop [3, 4, 17] (fun x s i => ∃ k : Nat, k ≤ M.length ∧ i = .int .i64 k ∧ s = .bool true ∧ x = .int .i64 (fl (J ++ M.take k)) ∧ Hid (Even (J ++ M.take k))) (fun _ _ i => M.length - (intOf i).toNat)
      case atStart => exact ⟨0, by omega, rfl, rfl, by simp, by simpa using hE⟩
      case round =>
        obtain ⟨k, hk, rfl, rfl, rfl, hE2⟩ := hrel
        clear hE
        by_cases hkm : k < M.length
        · obtain ⟨b, off, xa, xc, rfl, hb, c1, r1⟩ := hM.at hkm
          have hkm' : (k : Int) < (M.length : Int) := by omega
          by_cases h0 : (J ++ M.take k).length = 0
          · have e1 : fl (J ++ M.take k) = -1 := if_pos h0
            have e2 : Hid (fl (J ++ M.take (k + 1)) = (((ro M k).length : Nat) : Int)) := by
              show _ = _
              rw [take_push hkm, ← List.append_assoc, fl_push, if_pos h0]
            have e3 : Hid (Even (J ++ M.take (k + 1))) := by
              show Even _
              rw [take_push hkm, ← List.append_assoc]
              exact hE2.out.push fun h => by omega
            rw [e1]
            clear e1 h0 hE2 hM r1
            go_wp2
            go_round
            case rel => exact ⟨k + 1, by omega, by go_num, rfl, by rw [e2.out], e3⟩
            case measure => simp [intOf]; omega
          · have e1 : fl (J ++ M.take k) = (((ro (J ++ M.take k) 0).length : Nat) : Int) := fl_pos (by omega)
            have hneg : ¬ (((ro (J ++ M.take k) 0).length : Nat) : Int) < 0 := by omega
            by_cases e : (ro M k).length = (ro (J ++ M.take k) 0).length
            · have e2 : Hid (fl (J ++ M.take (k + 1)) = (((ro (J ++ M.take k) 0).length : Nat) : Int)) := by
                show _ = _
                rw [take_push hkm, ← List.append_assoc, fl_push, if_neg h0, e1]
              have e3 : Hid (Even (J ++ M.take (k + 1))) := by
                show Even _
                rw [take_push hkm, ← List.append_assoc]
                exact hE2.out.push fun h => e
              rw [e1]
              generalize (ro (J ++ M.take k) 0).length = f0 at *
              have hb : (((ro M k).length : Int) != (f0 : Int)) = false := by simp [e]
              clear e1 h0 hE2 hM r1 e
              go_wp2
              go_round
              case rel => exact ⟨k + 1, by omega, by go_num, rfl, by rw [e2.out], e3⟩
              case measure => simp [intOf]; omega
            · have E : Hid (decide (Even (A ++ B)) = false) := by
                refine decide_eq_false fun h => ?_
                have := ahead_all hlt h
                rw [← hJ.out, ← hMM.out] at this
                exact not_even hkm (by omega) e this
              rw [e1]
              generalize (ro (J ++ M.take k) 0).length = f0 at *
              have hb : (((ro M k).length : Int) != (f0 : Int)) = true := by simp; omega
              clear e1 h0 hE2 hM r1 e
              go_wp2
              go_ret
              exact ⟨by rw [E.out]; rfl, rfl⟩
        · have hge : ¬ (k : Int) < (M.length : Int) := by omega
          have hkk : k = M.length := by omega
          have e2 : Hid (J ++ M.take k = ahead A B (c + 1)) := by
            show _ = _
            rw [hkk, List.take_length, hJ.out, hMM.out]; exact ahead_step hlt
          rw [e2.out] at hE2 ⊢
          clear hM hkk
          go_wp2
          go_round
          case rel => exact ⟨c + 1, by omega, by go_num, rfl, rfl, hE2⟩
          case measure => simp [intOf]; omega
    · have hge : ¬ (c : Int) < 2 := by omega
      have E : Hid (decide (Even (A ++ B)) = true) := by
        rw [show c = 2 by omega] at hE
        exact decide_eq_true hE.out
      clear hN hE
      go_wp2
      go_ret
      exact ⟨by rw [E.out]; rfl, rfl⟩

end Go.Proofs.Ytehphjapahdalaa.Gf
