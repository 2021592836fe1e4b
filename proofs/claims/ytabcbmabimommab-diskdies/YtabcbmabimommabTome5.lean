/- TEXTS JOINED: DkLawN. -/
import Derived.Test.YtabcbmabimommabTome4
/-
  WHAT THE STATEMENTS OF LAYER 12 ASK: what a flush, a crash, a failure leave; contracts with their answers written out.
-/

namespace Go.Proofs.Ytabcbmabimommab.Gf
set_option linter.unusedVariables false
set_option linter.unusedSimpArgs false
open Go.RowKit

theorem fl_wait {d : DkS} (h : d.Ok) : (flS d).wait = noneI := by
  unfold flS
  by_cases hc : d.dead = true
  · rw [if_pos hc]; exact h.dw hc
  · rw [if_neg hc]
theorem fl_dead (d : DkS) : (flS d).dead = d.dead := by
  unfold flS
  by_cases hc : d.dead = true
  · rw [if_pos hc]
  · rw [if_neg hc]
theorem cr_none {d : DkS} (h : d.wait = noneI) (K : List Int) : crS d K = d := by
  unfold crS
  rw [h, onlyB_none, overB_none]
  obtain ⟨s, l, w, x⟩ := d
  simp at h
  rw [h]
theorem wr_no {d : DkS} {a : Int} {b : List UInt8} (h : wrX d a b ≠ 0) : wrS d a b = d := by
  unfold wrS
  rw [if_neg]
  rintro ⟨h1, h2⟩
  apply h
  unfold wrX
  rw [if_pos h1, if_pos h2]
theorem wr_cases (d : DkS) (a : Int) (b : List UInt8) : (wrX d a b = 0 ∧ faX d a = 0 ∧ OkB b) ∨ (wrX d a b = 120 ∧ d.dead = true) ∨ ((wrX d a b = 1 ∨ wrX d a b = 121) ∧ d.dead = false) := by
  unfold wrX
  by_cases h : faX d a = 0
  · rw [if_pos h]
    by_cases h2 : OkB b
    · rw [if_pos h2]; exact Or.inl ⟨rfl, h, h2⟩
    · rw [if_neg h2]; exact Or.inr (Or.inr ⟨Or.inl rfl, (faX_zero h).1⟩)
  · rw [if_neg h]
    by_cases hd : d.dead = true
    · exact Or.inr (Or.inl ⟨faX_dead hd a, hd⟩)
    · have hd' : d.dead = false := by simpa using hd
      by_cases h3 : 0 ≤ a ∧ a < (d.s : Int)
      · exact absurd (faX_ok hd' h3) h
      · exact Or.inr (Or.inr ⟨Or.inr (faX_out hd' h3), hd'⟩)
theorem wr_fa (d : DkS) (a : Int) (b : List UInt8) (x : Int) : faX (wrS d a b) x = faX d x := by
  unfold wrS
  split <;> rfl
theorem wr_dead (d : DkS) (a : Int) (b : List UInt8) : (wrS d a b).dead = d.dead := by
  unfold wrS
  split <;> rfl
theorem wr_rd {d : DkS} {a : Int} {b : List UInt8} (h : faX d a = 0) (hb : OkB b) : rdB (wrS d a b) a = b := by
  unfold rdB
  rw [wr_fa, if_pos h]
  unfold wrS atD
  rw [if_pos ⟨h, hb⟩]
  simp [putB]
theorem wr_other {d : DkS} {a x : Int} (b : List UInt8) (h : x ≠ a) : rdB (wrS d a b) x = rdB d x := by
  unfold rdB
  rw [wr_fa]
  have : atD (wrS d a b) x = atD d x := by
    unfold wrS
    by_cases hc : faX d a = 0 ∧ OkB b
    · rw [if_pos hc]
      show (match putB d.wait a b x with | some b => some b | none => d.last x) = atD d x
      rw [show putB d.wait a b x = d.wait x from if_neg h]
      rfl
    · rw [if_neg hc]
  rw [this]
theorem fa_read (d : DkS) (a : Int) : faX (faS d) a = 120 := faX_dead rfl a
theorem fa_rd (d : DkS) (a : Int) : rdB (faS d) a = [] := by unfold rdB; rw [fa_read]; rfl
theorem fa_wr (d : DkS) (a : Int) (b : List UInt8) : wrX (faS d) a b = 120 := by unfold wrX; rw [fa_read]; rfl
theorem fa_wrS (d : DkS) (a : Int) (b : List UInt8) : wrS (faS d) a b = faS d := wr_no (by rw [fa_wr]; decide)
theorem fa_fl (d : DkS) : flX (faS d) = 120 := rfl
theorem fa_flS (d : DkS) : flS (faS d) = faS d := rfl
theorem fa_cr (d : DkS) (L : List Int) : crS (faS d) L = faS d := cr_none rfl L
theorem re_read {d : DkS} {a : Int} (h : 0 ≤ a ∧ a < (d.s : Int)) : faX (reS (faS d)) a = 0 := faX_ok rfl h
theorem re_rd {d : DkS} {a : Int} (h : 0 ≤ a ∧ a < (d.s : Int)) : rdB (reS (faS d)) a = [] := by unfold rdB; rw [re_read h]; rfl
theorem re_wr {d : DkS} {a : Int} (h : 0 ≤ a ∧ a < (d.s : Int)) (b : List UInt8) : wrX (reS (faS d)) a b = if OkB b then 0 else 1 := by unfold wrX; rw [re_read h]; rfl
theorem re_last (d : DkS) (a : Int) (b : List UInt8) : (wrS (reS (faS d)) a b).last = noneI := by unfold wrS; split <;> rfl
theorem re_dead (d : DkS) (a : Int) (b : List UInt8) : (wrS (reS (faS d)) a b).dead = false := by unfold wrS; split <;> rfl
section
variable {w : World} {db : Nat} {G : Nat → Prop} {d : DkS}
theorem dcrash_is (h : DiskAt w db G d) {v : Value} {L : List Int} (hL : RdI w v L) (hw : ∀ z ∈ L, (Lit.int .i64 z).wf = true) (hA : ApartG G v) (hl : L.length ≤ 1000000) {d' : DkS} (hd : crS d L = d') :
    Calls Try.prog 7 #[.pointer (some ⟨db, 0, none⟩), v] w (Leaves w db G d' (.tuple #[])) := by
  rw [← hd]; exact dcrash_any h hL hw hA hl
theorem apart_old {w0 : World} {v : Value} {L : List Int} (h : DkB w w0.heap.size db G d) (hr : RdI w0 v L) : ApartG G v := by
  intro x n c e
  rcases hr with ⟨a, c', h1, h2⟩ | ⟨b, off, cap, h1, h2, h3, h4, h5⟩
  · subst h2; simp at e; exact Or.inl e.2.1.symm
  · subst h2
    simp at e
    obtain ⟨rfl, rfl, rfl⟩ := e
    exact Or.inr (fun h6 => by have := h.low _ h6; simp at this; omega)
end
end Go.Proofs.Ytabcbmabimommab.Gf

