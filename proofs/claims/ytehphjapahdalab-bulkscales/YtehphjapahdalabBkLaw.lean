/-
  CONTRACTS AS THE STATEMENTS OF LAYER 6 NEED THEM.
-/
import Derived.Test.YtehphjapahdalabBkAwake
import Derived.Test.YtehphjapahdalabBkFew
import Derived.Test.YtehphjapahdalabBkCop
import Derived.Test.YtehphjapahdalabBkLin
namespace Go.Proofs.Ytehphjapahdalab.Gf
set_option linter.unusedVariables false
set_option linter.unusedSimpArgs false
open Go.RowKit

theorem Rs.lenEq {w : World} {a : Option Addr} {n c : Nat} {L : List (List UInt8)} (h : Rs w (.slice a n c) L) : n = L.length := by
  obtain ⟨a', c', e⟩ := h.form
  simp at e
  exact e.2.1
theorem Rs.capLe {w : World} {a : Option Addr} {n c : Nat} {L : List (List UInt8)} (h : Rs w (.slice a n c) L) : L.length ≤ c ∧ c ≤ maxLen := by
  obtain ⟨a', c', e, h1, h2, _⟩ := h
  simp at e
  obtain ⟨_, _, rfl⟩ := e
  exact ⟨h1, h2⟩
theorem Os.somewhere {w : World} {base T u : Nat} {v : Value} {L : List (List UInt8)} (h : Os w base T u v L) (h0 : 0 < L.length) : ∃ G C, v = .slice (some ⟨G, 0, none⟩) L.length C ∧ base ≤ G ∧ G < w.heap.size := by
  obtain ⟨vals, hv, hr⟩ := h
  have hv' := hv
  obtain ⟨_, ⟨e, hn⟩ | ⟨G, cap, cur, e, _⟩⟩ := hv
  · omega
  · subst e
    have := World.ownsRow.lt hv' G rfl
    exact ⟨G, cap, rfl, this.1, this.2⟩
theorem same6_t {va vb : Value} {A B : List (List UInt8)} {w : World} (hA : Rs w va A) (hB : Rs w vb B) (h : A = B) : Calls Try.prog 10 #[va, vb] w fun e w' => e = .returned (.bool true) ∧ Below w.heap.size w w' :=
  (same6_any hA hB).mono fun e w' ⟨he, n, hw⟩ => ⟨by rw [he]; exact congrArg (fun b => Ending.returned (.bool b)) (decide_eq_true h), by rw [hw]; exact (Below.refl _ _).drewN n⟩
theorem same6_b {va vb : Value} {A B : List (List UInt8)} {w : World} (hA : Rs w va A) (hB : Rs w vb B) : Calls Try.prog 10 #[va, vb] w fun e w' => ∃ t, e = .returned (.bool t) ∧ Below w.heap.size w w' :=
  (same6_any hA hB).mono fun e w' ⟨he, n, hw⟩ => ⟨_, he, by rw [hw]; exact (Below.refl _ _).drewN n⟩
theorem fits_t {b : Nat} {k m : Nat} {v : Value} {L : List (List UInt8)} {w : World} (hF : FieldAt w b) (h1 : 1 ≤ k) (h2 : k + m ≤ 256) (hL : L.length = k) (hE : Even L) (hS : Small L) (h : Rs w v (encL m k (parF k) L)) {x y : Int} (hx : x = (k : Int)) (hy : y = (m : Int)) :
    Calls Try.prog 11 #[.pointer (some ⟨b, 0, none⟩), .int .i64 x, .int .i64 y, v] w (MakesB w true 0) := by
  have := fits_ok hF h1 h2 h (by rw [encL_length, hL]) (enc_even hE (by omega)) (enc_small hE (by omega) hS) hx hy
  rw [enc_take hL] at this
  have e : sameL (encL m k (parF k) L) (encL m k (parF k) L) = true := decide_eq_true rfl
  rwa [e] at this
theorem enc_zeroN {k m : Nat} {L : List (List UInt8)} (h : encX k m L = 0) : 1 ≤ k ∧ k + m ≤ 256 ∧ L.length = k ∧ Even L := by
  obtain ⟨k', m', e1, e2, h1, h2, h3, h4, _⟩ := enc_zero h
  have e1' : k = k' := by omega
  have e2' : m = m' := by omega
  subst e1' e2'
  exact ⟨h1, h2, h3, h4⟩

end Go.Proofs.Ytehphjapahdalab.Gf
