/-
  THE PROGRAM's 'Mul' BY CONTRACT.
-/
import Derived.Test.YtjojcdikkgnfgaaPoTimes
import Derived.Deep.RegionWith
namespace Go.Proofs.Ytjojcdikkgnfgaa.Gf
set_option linter.unusedVariables false
set_option linter.unusedSimpArgs false
open Go.RowKit

set_option maxRecDepth 100000 in
set_option maxHeartbeats 1000000 in
theorem pmul_nil {va vq : Value} {p q : List UInt8} {w : World} (hp : Rd w va p) (hq : Rd w vq q) (hl : p.length ≤ 400000) (hl2 : q.length ≤ 400000) :
    Calls Try.prog 17 #[.pointer none, va, vq] w (Makes w []) := by
  obtain ⟨ao, c, rfl⟩ := hp.form
  obtain ⟨ao', c', rfl⟩ := hq.form
  go_enter Try.func17, Try.ntmps17
  go_wp2_with fail
  refine (top_any hp (by omega)).mono ?_
  rintro e w ⟨rfl, rfl⟩
  go_wp2_with fail
  refine (top_any hq (by omega)).mono ?_
  rintro e w ⟨rfl, rfl⟩
  go_wp2
  go_ret
  exact ⟨_, rfl, rd_nil_any, Below.refl _ _⟩

theorem pmulP_empty {p q : List UInt8} (h : norm p = [] ∨ norm q = []) : mulP p q = [] := by
  have e := mulP_length p q
  rw [if_pos (by rcases h with h | h <;> simp [h])] at e
  exact List.length_eq_zero_iff.1 e

set_option maxRecDepth 100000 in
set_option maxHeartbeats 1000000 in
theorem pmul_empty {b : Nat} {va vq : Value} {p q : List UInt8} {w : World} (hp : Rd w va p) (hq : Rd w vq q) (hl : p.length ≤ 400000) (hl2 : q.length ≤ 400000) (h : norm p = [] ∨ norm q = []) :
    Calls Try.prog 17 #[.pointer (some ⟨b, 0, none⟩), va, vq] w (Makes w (mulP p q)) := by
  rw [pmulP_empty h]
  obtain ⟨ao, c, rfl⟩ := hp.form
  obtain ⟨ao', c', rfl⟩ := hq.form
  have h' : (norm p).length = 0 ∨ ((norm p).length ≠ 0 ∧ (norm q).length = 0) := by
    by_cases h1 : (norm p).length = 0
    · exact Or.inl h1
    · rcases h with h | h
      · rw [h] at h1; exact absurd rfl h1
      · exact Or.inr ⟨h1, by rw [h]; rfl⟩
  clear h
  go_enter Try.func17, Try.ntmps17
  go_wp2_with fail
  refine (top_any hp (by omega)).mono ?_
  rintro e w ⟨rfl, rfl⟩
  go_wp2_with fail
  refine (top_any hq (by omega)).mono ?_
  rintro e w ⟨rfl, rfl⟩
  generalize (norm p).length = n at h' ⊢
  generalize (norm q).length = m at h' ⊢
  rcases h' with rfl | ⟨h1, rfl⟩
  · go_wp2
    go_ret
    exact ⟨_, rfl, rd_nil_any, Below.refl _ _⟩
  · have h2 : ((n : Int) == 0) = false := by simp; omega
    go_wp2
    go_ret
    exact ⟨_, rfl, rd_nil_any, Below.refl _ _⟩

theorem apart_block {g b off n c : Nat} (h : b ≠ g) : Apart g (.slice (some ⟨b, off, none⟩) n c) := by
  intro x n' c' e
  simp at e
  obtain ⟨rfl, _⟩ := e
  exact Or.inr h
theorem pc_step (v : Value) (p q : List UInt8) (k : Nat) : addAll (pc (co p) (co q) k) k [(v, mulBy q (co p k))] = pc (co p) (co q) (k + 1) := by
  funext t
  show pc (co p) (co q) k t ^^^ (if k ≤ t then co (mulBy q (co p k)) (t - k) else 0) = _
  rw [co_mulBy, mu_comm]
  rfl

set_option maxRecDepth 100000 in
set_option maxHeartbeats 2000000 in
theorem pmul_main {b : Nat} {va vq : Value} {p q : List UInt8} {w : World} (hF : FieldAt w b) (hp : Rd w va p) (hq : Rd w vq q) (hl : p.length ≤ 400000) (hl2 : q.length ≤ 400000) (h1 : norm p ≠ []) (h2 : norm q ≠ []) :
    Calls Try.prog 17 #[.pointer (some ⟨b, 0, none⟩), va, vq] w (Makes w (mulP p q)) := by
  obtain ⟨i0, hi, hz0, hz1, hz2⟩ := info_parts info_u8
  obtain ⟨ao, c, rfl⟩ := hp.form
  obtain ⟨ao', c', rfl⟩ := hq.form
  have hP := hp.part
  have hQ := hq.part
  have hle := norm_length_le p
  have hle2 := norm_length_le q
  have hL := mulP_length p q
  have hpos : 0 < (norm p).length := List.length_pos_iff.2 h1
  have hpos2 : 0 < (norm q).length := List.length_pos_iff.2 h2
  rw [if_neg (by omega)] at hL
  have HM : Hid (upto (conv (co (norm p)) (co (norm q))) ((norm p).length + (norm q).length - 1) = mulP p q) := by
    show _ = _
    rw [co_norm, co_norm, ← hL]
    refine co_ext (upto_length _ _) fun i hi => ?_
    rw [upto_length] at hi
    rw [co_mulP]
    exact co_map_range _ hi
  go_enter Try.func17, Try.ntmps17
  go_wp2_with fail
  refine (top_any hp (by omega)).mono ?_
  rintro e w ⟨rfl, rfl⟩
  go_wp2_with fail
  refine (top_any hq (by omega)).mono ?_
  rintro e w ⟨rfl, rfl⟩
  generalize norm p = p' at *
  generalize norm q = q' at *
  clear hp hq h1 h2 hL
  obtain ⟨L, hL⟩ : ∃ L, Hid (L = p'.length + q'.length - 1) := ⟨_, rfl⟩
  rw [← hL.out] at HM
  have hL' := hL.out
  have g0 : ((p'.length : Int) == 0) = false := by rw [beq_eq_false_iff_ne]; omega
  have g1 : ((q'.length : Int) == 0) = false := by rw [beq_eq_false_iff_ne]; omega
  have g2 : (p'.length : Int) + (q'.length : Int) - 1 = (L : Int) := by omega
  clear hL'
  go_wp2_with (at_make; go_loud (refine wpList_make_full _ rfl (.tmp 30) (.tmp 30) 23 rfl w.heap.size 5 i0 (.int .u8 0) 1 Try.underlying23 hi hz0 hz1 _ _ _ _ L rfl rfl (by omega) (by omega) (by rw [hz2]; omega) (by unfold maxLen; omega) (Nat.le_refl _) ?_); intro w1 hown1 hgrow1)
  have R1 := RowF.made hown1
  have B1 : Below w.heap.size w w1 := (Below.refl _ _).grown hgrow1 (Nat.le_refl _) (fun k h => by cases h)
  clear hown1 hgrow1
  go_loopw [34] (fun i wr => ∃ k : Nat, k ≤ p'.length ∧ i = .int .i64 k ∧ RowF wr w.heap.size 5 w.heap.size L L (pc (co p') (co q') k) ∧ Below w.heap.size w wr) (fun i _ => p'.length - (intOf i).toNat)
  case atStart => exact ⟨0, by omega, rfl, R1.congr (fun t _ => rfl), B1⟩
  case round =>
    obtain ⟨k, hk, rfl, hR, hB⟩ := hrel
    clear R1 B1
    by_cases hlt : k < p'.length
    · rcases hP with ⟨a, cc, e1, e2, hc, hnn⟩ | ⟨bb, off, cc, hq0, e2, h1, h2, h3, hpc⟩
      · subst e1; simp at hlt
      · simp at e2; obtain ⟨rfl, rfl⟩ := e2
        have hLL := hL.out
        have c1 := (hB.cell (p := ⟨bb, off + k, none⟩) h3).trans (hpc k hlt)
        have hF1 : FieldAt wr.drew b := hF.below hB.drew
        have hQ1 : Rd wr.drew (.slice ao' q'.length c') q' := hQ.below hB.drew
        have hR1 := hR.drew
        have hlt2 := hR.lt
        have hAp : ∀ n c, Apart w.heap.size (.slice (some ⟨wr.drew.heap.size, 0, none⟩) n c) := fun n c => apart_block (by show wr.heap.size ≠ w.heap.size; omega)
        have hkl : k ≤ L := by omega
        have hkq : q'.length ≤ L - k := by omega
        have hkk : k + (L - k) ≤ L := by omega
        have hL9 : L ≤ 1000000 := by omega
        have HP : Hid _ := fun v => pc_step v p' q' k
        clear hpc hR hLL hlt2
        go_wp2
        go_region_with (first
          | (go_at_call 31; refine (times_any hF1 hQ1 (by omega) (co p' k) rfl).mono ?_; rintro e w2 ⟨rfl, hT, hb2⟩)
          | (go_at_call 29; refine (sum_terms [(_, mulBy q' (co p' k))] (hR1.later hb2) hkk hL9 rfl rfl (by simp) (by intro x hx; simp at hx; subst hx; exact ⟨hT, hAp _ _, by rw [mulBy_length]; exact hkq⟩)).mono ?_; rintro e w3 ⟨rfl, hO, hR3⟩))
        all_goals go_wp2
        all_goals
          go_roundw
          case rel => exact ⟨k + 1, by omega, by go_num, by rw [← HP.out _]; exact hR3, (below_lit (Below.next hB.drew hb2) _).trans (hO.below (Nat.le_refl _))⟩
          case measure => simp [intOf]; omega
    · have e : k = p'.length := by omega
      subst e
      rw [pc_whole (co_fin p')] at hR
      have hRd := hR.rd
      rw [HM.out] at hRd
      clear hR
      go_wp2
      go_ret
      exact ⟨_, rfl, hRd, hB⟩

theorem pmul_any {b : Nat} {va vq : Value} {p q : List UInt8} {w : World} (hF : FieldAt w b) (hp : Rd w va p) (hq : Rd w vq q) (hl : p.length ≤ 400000) (hl2 : q.length ≤ 400000) :
    Calls Try.prog 17 #[.pointer (some ⟨b, 0, none⟩), va, vq] w (Makes w (mulP p q)) := by
  by_cases h1 : norm p = []
  · exact pmul_empty hp hq hl hl2 (Or.inl h1)
  · by_cases h2 : norm q = []
    · exact pmul_empty hp hq hl hl2 (Or.inr h2)
    · exact pmul_main hF hp hq hl hl2 h1 h2

end Go.Proofs.Ytjojcdikkgnfgaa.Gf
