/- TEXTS JOINED: DkOwnL. -/
import Derived.Test.YtabcbmabimommaaTome5
/-
  WHAT A CALLER DOES TO WHAT A DISK TOLD: bytes that are written in blocks that are not the disk's.
-/

namespace Go.Proofs.Ytabcbmabimommaa.Gf
set_option linter.unusedVariables false
set_option linter.unusedSimpArgs false
open Go.RowKit

section
variable {w : World} {N db : Nat} {G : Nat → Prop} {d : DkS}
theorem setC_block (w : World) (g j : Nat) (u : Value) {k : Nat} (h : k ≠ g) : (w.setCell ⟨g, j, none⟩ u).heap[k]? = w.heap[k]? := Below.heap_setCell w ⟨g, j, none⟩ u k h
/-- the disk, behind a byte that was written elsewhere -/
theorem DkB.off (h : DkB w N db G d) {g : Nat} (hg : ¬ G g) (j : Nat) (u : Value) : DkB (w.setCell ⟨g, j, none⟩ u) N db G d :=
  ⟨h.at_.keep (fun k hk => setC_block w g j u (fun e => hg (by rw [← e]; exact hk))) (by simp), h.low, by simpa using h.size⟩
theorem set_below {g : Nat} (hg : N ≤ g) (j : Nat) (u : Value) : Below N w (w.setCell ⟨g, j, none⟩ u) := (Below.refl _ _).setCell hg u
/-- a list whose bytes may have been changed -/
structure LoT (w : World) (base : Nat) (v : Value) (T : List TH) : Prop where
  row : w.ownsRow base 55 2 v T.length (cellsT T)
  each : ∀ t ∈ T, ∃ q : List UInt8, q.length = t.2.1.length ∧ w.ownsRow base 5 1 t.2.2 q.length (q.map vb)
theorem OwnT.loose {base : Nat} {v : Value} {T : List TH} (h : OwnT w base v T) : LoT w base v T := ⟨h.row, fun t ht => ⟨t.2.1, rfl, h.each t ht⟩⟩
theorem LoT.after {base : Nat} {v : Value} {T : List TH} {w' : World} (h : LoT w base v T) (hb : Below w.heap.size w w') : LoT w' base v T :=
  ⟨owns_after h.row hb, fun t ht => by obtain ⟨q, h1, h2⟩ := h.each t ht; exact ⟨q, h1, owns_after h2 hb⟩⟩
theorem LoT.set {base : Nat} {v : Value} {T : List TH} (h : LoT w base v T) {t : TH} (ht : t ∈ T) {g n c : Nat} (hv : t.2.2 = .slice (some ⟨g, 0, none⟩) n c) (y : UInt8) : LoT (w.setCell ⟨g, 0, none⟩ (vb y)) base v T := by
  obtain ⟨q0, _, hq0⟩ := h.each t ht
  have hg0 := row_at hq0 (g := g) (by rw [hv]; rfl)
  refine ⟨owns_block h.row (fun k hk => setC_block w g 0 _ (fun e => ?_)), fun t' ht' => ?_⟩
  · obtain ⟨_, _, cur, h1⟩ := row_at h.row hk
    obtain ⟨_, _, cur', h2⟩ := hg0
    rw [e, h2] at h1
    simp at h1
  · obtain ⟨q, h1, h2⟩ := h.each t' ht'
    by_cases e : t'.2.2.ownBlock = some g
    · obtain ⟨a', c', e'⟩ := owns_slice h2
      have hz : ∃ c2, t'.2.2 = .slice (some ⟨g, 0, none⟩) q.length c2 := by
        obtain ⟨_, ⟨h3, _⟩ | ⟨g', cap, cur, h3, _⟩⟩ := h2
        · rw [h3] at e; cases e
        · rw [h3] at e
          cases e
          exact ⟨cap, h3⟩
      obtain ⟨c2, e2⟩ := hz
      rw [e2] at h2 ⊢
      have h4 := (World.ownsRow.stored h2 0 (vb y)).1
      refine ⟨q.set 0 y, by rw [List.length_set]; exact h1, ?_⟩
      rw [List.length_set, List.map_set]
      exact h4
    · exact ⟨q, h1, owns_block h2 (fun k hk => setC_block w g 0 _ (fun e2 => e (by rw [hk, e2])))⟩
/-- an element, and its first byte -/
theorem LoT.at {base : Nat} {a : Option Addr} {c : Nat} {T : List TH} (h : LoT w base (.slice a T.length c) T) {k : Nat} (hk : k < T.length) : ∃ g, a = some ⟨g, 0, none⟩ ∧ w.cell? ⟨g, k * 2 + 1, none⟩ = some (T.getD k default).2.2 ∧ w.cell? ⟨g, k * 2, none⟩ = some (.int .i64 (T.getD k default).1) := by
  obtain ⟨_, ⟨h1, h2⟩ | ⟨g, cap, cur, hv, hg, hh, hc, hm, hs, ht⟩⟩ := h.row
  · omega
  · have e : a = some ⟨g, 0, none⟩ := by simp at hv; exact hv.1
    obtain ⟨e0, e1⟩ := cellsT_at T hk
    have ce : ∀ j, j < T.length * 2 → w.cell? ⟨g, j, none⟩ = (cellsT T)[j]? := by
      intro j hj
      rw [← ht, List.getElem?_take_of_lt hj]
      unfold World.cell?
      rw [hh]
      simp
    exact ⟨g, e, by rw [ce _ (by omega), e1], by rw [ce _ (by omega), e0]⟩
end
end Go.Proofs.Ytabcbmabimommaa.Gf

