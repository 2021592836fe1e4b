/- TEXTS JOINED: CtNr. -/
import Derived.Test.YtndlfmofjmieaaaTome5
namespace Go.Proofs.Ytndlfmofjmieaaa.Gf
set_option linter.unusedVariables false
set_option linter.unusedSimpArgs false
open Go.RowKit
theorem near_old19 {wo : World} {c : ObV} (h : ObOk wo c) {lim : Nat} (hl : wo.heap.size ≤ lim) {v : Value} (hv : ∀ q, v.ownBlock = some q → wo.heap.size ≤ q) : NearR 0 lim v c.vs := fun x n k e => by
  rcases h.rs with ⟨ao, cap, _, e1⟩ | ⟨b, off, cap, _, e1, _, q, _⟩
  · rw [e1] at e
    simp at e
    exact Or.inl e.2.1.symm
  · rw [e1] at e
    simp at e
    obtain ⟨rfl, _⟩ := e
    refine Or.inr ⟨Nat.zero_le _, by show b < lim; omega, fun e2 => ?_⟩
    have h3 : wo.heap.size ≤ b := hv _ e2
    omega
theorem ob19_after {wo W w1 : World} {v0 v1 : Value} (b : Below wo.heap.size wo W) (q : ∀ k, v0.ownBlock = some k → wo.heap.size ≤ k) (g : Gro W v0 w1 v1) : Below wo.heap.size wo w1 ∧ ∀ k, v1.ownBlock = some k → wo.heap.size ≤ k := by
  refine ⟨b.grown g.gr b.size q, fun k e => ?_⟩
  rcases g.pl with h | ⟨j, h, hj⟩
  · rw [h] at e; exact q k e
  · rw [h] at e
    simp at e
    have := b.size
    omega
end Go.Proofs.Ytndlfmofjmieaaa.Gf
