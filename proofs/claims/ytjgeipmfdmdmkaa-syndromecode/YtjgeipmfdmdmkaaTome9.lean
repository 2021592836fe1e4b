/- TEXTS JOINED: SyLawC. -/
import Derived.Test.YtjgeipmfdmdmkaaTome6
/-
  WORDS AS SHARDS OF ONE BYTE EACH: what is encoded has no syndromes; a word fits just if it has none. No program's function is named here.
-/

namespace Go.Proofs.Ytjgeipmfdmdmkaa.Gf
set_option linter.unusedVariables false
set_option linter.unusedSimpArgs false
open Go.RowKit

/-- the first bytes of a slice -/
theorem Rd.first {w : World} {b off n c k : Nat} {p : List UInt8} (h : Rd w (.slice (some ⟨b, off, none⟩) n c) p) (hk : k ≤ p.length) (h0 : 1 ≤ k) : Rd w (.slice (some ⟨b, off, none⟩) k c) (p.take k) := by
  rcases h with ⟨a, c', e, _⟩ | ⟨b', off', c', h1, h2, h3, h4, h5, h6⟩
  · subst e; simp at hk; omega
  · simp at h2
    obtain ⟨⟨rfl, rfl⟩, rfl, rfl⟩ := h2
    have hl : (p.take k).length = k := by rw [List.length_take]; omega
    refine Or.inr ⟨b, off, c, fun e => by rw [e] at hl; simp at hl; omega, by rw [hl], by omega, h4, h5, fun i hi => ?_⟩
    rw [hl] at hi
    rw [h6 i (by omega), co_take hi]
theorem Rd.place {w : World} {v : Value} {p : List UInt8} (h : Rd w v p) (h0 : 0 < p.length) : ∃ b off c, v = .slice (some ⟨b, off, none⟩) p.length c ∧ p.length ≤ c ∧ c ≤ maxLen := by
  rcases h with ⟨a, c', e, _⟩ | ⟨b', off', c', h1, h2, h3, h4, h5, h6⟩
  · subst e; simp at h0
  · exact ⟨b', off', c', h2, h3, h4⟩
theorem colL_length (p : List UInt8) : (colL p).length = p.length := mkL_length _ _
theorem colL_row {p : List UInt8} {i : Nat} (h : i < p.length) : ro (colL p) i = [co p i] := ro_mkL h
theorem colL_even (p : List UInt8) : Even (colL p) := fun i hi => by
  rw [colL_length] at hi
  rw [colL_row hi, colL_row (by omega)]; rfl
theorem colL_small {p : List UInt8} (h : p.length ≤ 300) : Small (colL p) := ⟨by rw [colL_length]; exact h, fun i => by
  by_cases e : i < p.length
  · rw [colL_row e]; simp
  · rw [ro_ge (by rw [colL_length]; omega)]; simp⟩
theorem colL_take {p : List UInt8} {k : Nat} (h : k ≤ p.length) : (colL p).take k = colL (p.take k) := by
  have hl : (p.take k).length = k := by rw [List.length_take]; omega
  refine ro_ext (by rw [List.length_take, colL_length, colL_length, hl]; omega) fun i hi => ?_
  rw [List.length_take, colL_length] at hi
  rw [ro_take (by omega), colL_row (by omega), colL_row (by omega), co_take (by omega)]
theorem encC_len {p : List UInt8} {k m i : Nat} (hk : p.length = k) (h1 : 1 ≤ k) (hi : i < k + m) : (ro (encL m k (parF k) (colL p)) i).length = 1 := by
  rw [enc_len (colL_even p) (by rw [colL_length]; omega), colL_row (by omega)]; rfl
theorem encC_data {p : List UInt8} {k m i : Nat} (hk : p.length = k) (hi : i < k) : co (ro (encL m k (parF k) (colL p)) i) 0 = co p i := by
  rw [enc_row_lt (by rw [colL_length]; omega), colL_row (by omega)]; rfl
theorem encC_par {p : List UInt8} {k m i : Nat} (hk : p.length = k) (h1 : 1 ≤ k) (hi : i < m) : co (ro (encL m k (parF k) (colL p)) (k + i)) 0 = S k (fun j => mu (parF k i j) (co p j)) := by
  rw [enc_row_ge' (by rw [colL_length]; omega) (by rw [colL_length]; omega), colL_length, hk, show k + i - k = i by omega]
  unfold parR
  rw [colL_row (by omega), co_upto_in (by simp)]
  exact S_congr fun l hl => by rw [colL_row (by omega)]; rfl
theorem line_len {p : List UInt8} {k m : Nat} (hk : p.length = k) : (lineL (encL m k (parF k) (colL p))).length = k + m := by
  unfold lineL
  rw [upto_length, encL_length, colL_length, hk]
/-- what is encoded has no syndromes -/
theorem line_nought {p : List UInt8} {k m : Nat} (h1 : 1 ≤ k) (h2 : k + m ≤ 256) (hk : p.length = k) : noughtB (upto (synF k m (co (lineL (encL m k (parF k) (colL p))))) m) = true := by
  refine decide_eq_true fun l hl => ?_
  rw [upto_length] at hl
  rw [co_upto_in hl]
  have hc : ∀ i, i < k + m → co (lineL (encL m k (parF k) (colL p))) i = co (ro (encL m k (parF k) (colL p)) i) 0 := fun i hi => by
    unfold lineL
    rw [co_upto_in (by rw [encL_length, colL_length]; omega)]
  refine par_syn h2 (fun i hi => ?_) hl
  rw [hc _ (by omega), encC_par hk h1 hi]
  exact S_congr fun j hj => by rw [hc _ (by omega), encC_data hk hj]
/-- a word fits just if it has none -/
theorem fit_nought {z : List UInt8} {k m : Nat} (h1 : 1 ≤ k) (h2 : k + m ≤ 256) (hl : z.length = k + m) : sameL (encL m k (parF k) ((colL z).take k)) (colL z) = noughtB (upto (synF k m (co z)) m) := by
  have hk : (z.take k).length = k := by rw [List.length_take]; omega
  rw [colL_take (by omega)]
  unfold sameL noughtB
  rw [Bool.eq_iff_iff, decide_eq_true_eq, decide_eq_true_eq]
  constructor
  · intro e l hl2
    rw [upto_length] at hl2
    rw [co_upto_in hl2]
    refine par_syn h2 (fun i hi => ?_) hl2
    have e1 := encC_par (m := m) hk h1 hi
    rw [e, colL_row (by omega)] at e1
    have e2 : co z (k + i) = S k (fun j => mu (parF k i j) (co (z.take k) j)) := e1
    rw [e2]
    exact S_congr fun j hj => by rw [co_take hj]
  · intro h
    refine ro_ext (by rw [encL_length, colL_length, colL_length, hk, hl]) fun i hi => ?_
    rw [encL_length, colL_length, hk] at hi
    refine co_ext (by rw [encC_len hk h1 hi, colL_row (by omega)]; rfl) fun n hn => ?_
    rw [encC_len hk h1 hi] at hn
    obtain rfl : n = 0 := by omega
    rw [colL_row (by omega)]
    show _ = co z i
    by_cases e : i < k
    · rw [encC_data hk e, co_take e]
    · obtain ⟨r, rfl⟩ : ∃ r, i = k + r := ⟨i - k, by omega⟩
      rw [encC_par hk h1 (by omega), syn_par (z := co z) h2 (fun l hl3 => ?_) (show r < m by omega)]
      · exact S_congr fun j hj => by rw [co_take hj]
      · have := h l (by rw [upto_length]; exact hl3)
        rwa [co_upto_in hl3] at this

end Go.Proofs.Ytjgeipmfdmdmkaa.Gf

