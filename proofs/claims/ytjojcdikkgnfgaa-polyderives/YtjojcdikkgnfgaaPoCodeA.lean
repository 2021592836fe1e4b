/-
  THE PROGRAM's 'Norm' AND 'Add' BY CONTRACT.
-/
import Derived.Test.YtjojcdikkgnfgaaPoSumInto
namespace Go.Proofs.Ytjojcdikkgnfgaa.Gf
set_option linter.unusedVariables false
set_option linter.unusedSimpArgs false
open Go.RowKit

theorem addAll_one (v : Value) (p : List UInt8) : addAll (fun _ => 0) 0 [(v, p)] = co p := by
  funext t
  simp [addAll, addAt]
theorem addAll_two (v v' : Value) (p q : List UInt8) : addAll (fun _ => 0) 0 [(v, p), (v', q)] = addF (co p) (co q) := by
  funext t
  simp [addAll, addAt, addF]

set_option maxRecDepth 100000 in
set_option maxHeartbeats 1000000 in
theorem pnorm_own {v : Value} {p : List UInt8} {w : World} (hp : Rd w v p) (hl : p.length ≤ 1000000) :
    Calls Try.prog 13 #[v] w fun e w' => e = .returned (.slice (some ⟨w.heap.size, 0, none⟩) (norm p).length (norm p).length) ∧ RowF w' w.heap.size 5 w.heap.size (norm p).length (norm p).length (co p) ∧ Below w.heap.size w w' := by
  obtain ⟨i0, hi, hz0, hz1, hz2⟩ := info_parts info_u8
  obtain ⟨ao, c, rfl⟩ := hp.form
  have hP := hp.part
  have hle := norm_length_le p
  have HC := co_norm p
  have HC' : Hid _ := HC
  clear HC
  go_enter Try.func13, Try.ntmps13
  go_wp2_with fail
  refine (top_any hp hl).mono ?_
  rintro e w ⟨rfl, rfl⟩
  obtain ⟨q, hq⟩ : ∃ q, q = norm p := ⟨_, rfl⟩
  rw [← hq] at hP hle HC'
  simp only [← hq]
  have HQ : Hid (q = norm p) := hq
  clear hq
  go_wp2_with (at_make; go_loud (refine wpList_make_full _ rfl (.tmp 7) (.tmp 7) 23 rfl w.heap.size 5 i0 (.int .u8 0) 1 Try.underlying23 hi hz0 hz1 _ _ _ _ q.length rfl rfl (by omega) (by omega) (by rw [hz2]; omega) (by unfold maxLen; omega) (Nat.le_refl _) ?_); intro w1 hown1 hgrow1)
  have R1 := RowF.made hown1
  have B1 : Below w.heap.size w w1 := (Below.refl _ _).grown hgrow1 (Nat.le_refl _) (fun k h => by cases h)
  clear hown1 hgrow1
  have hA : Apart w.heap.size (.slice ao q.length c) := hP.apart (Nat.le_refl _)
  have hP1 := hP.below B1
  go_wp2_with (go_at_call 29; refine (sum_terms [(.slice ao q.length c, q)] R1 (by omega) (by omega) rfl rfl (by simp) (by intro x hx; simp at hx; subst hx; exact ⟨hP1, hA, Nat.le_refl _⟩)).mono ?_; rintro e w' ⟨rfl, hO, hR⟩)
  go_ret
  rw [addAll_one, HC'.out] at hR
  exact ⟨by rw [← HQ.out]; rfl, by rw [← HQ.out]; exact hR, (below_lit B1 _).trans (hO.below (Nat.le_refl _))⟩

theorem pnorm_any {v : Value} {p : List UInt8} {w : World} (hp : Rd w v p) (hl : p.length ≤ 400000) :
    Calls Try.prog 13 #[v] w (Makes w (norm p)) := by
  refine (pnorm_own hp (by omega)).mono ?_
  rintro e w' ⟨rfl, hR, hB⟩
  have e1 : upto (co p) (norm p).length = norm p := co_ext (upto_length _ _) fun i hi => by
    rw [upto_length] at hi; rw [co_norm]; exact co_map_range _ hi
  exact ⟨_, rfl, by have := hR.rd; rwa [e1] at this, hB⟩

set_option maxRecDepth 100000 in
set_option maxHeartbeats 1000000 in
theorem padd_any {va vq : Value} {p q : List UInt8} {w : World} (hp : Rd w va p) (hq : Rd w vq q) (hl : p.length ≤ 400000) (hl2 : q.length ≤ 400000) :
    Calls Try.prog 15 #[va, vq] w (Makes w (addP p q)) := by
  obtain ⟨i0, hi, hz0, hz1, hz2⟩ := info_parts info_u8
  obtain ⟨ao, c, rfl⟩ := hp.form
  obtain ⟨ao', c', rfl⟩ := hq.form
  obtain ⟨n, hn⟩ : ∃ n, (p.length < q.length ∧ n = q.length) ∨ (¬ p.length < q.length ∧ n = p.length) := by
    by_cases h : p.length < q.length
    · exact ⟨_, Or.inl ⟨h, rfl⟩⟩
    · exact ⟨_, Or.inr ⟨h, rfl⟩⟩
  have hpn : p.length ≤ n := by omega
  have hqn : q.length ≤ n := by omega
  have hnn : n ≤ 400000 := by omega
  have HN : Hid (norm (upto (addF (co p) (co q)) n) = addP p q) := norm_upto (((co_fin p).mono (by omega)).add ((co_fin q).mono (by omega))) (fin_add p q)
  have HU : Hid ((upto (addF (co p) (co q)) n).length = n) := upto_length _ _
  rcases hn with ⟨hlt, rfl⟩ | ⟨hlt, rfl⟩
  · go_enter Try.func15, Try.ntmps15
    go_wp2_with (at_make; go_loud (refine wpList_make_full _ rfl (.tmp 10) (.tmp 10) 23 rfl w.heap.size 5 i0 (.int .u8 0) 1 Try.underlying23 hi hz0 hz1 _ _ _ _ q.length rfl rfl (by omega) (by omega) (by rw [hz2]; omega) (by unfold maxLen; omega) (Nat.le_refl _) ?_); intro w1 hown1 hgrow1)
    have R1 := RowF.made hown1
    have B1 : Below w.heap.size w w1 := (Below.refl _ _).grown hgrow1 (Nat.le_refl _) (fun k h => by cases h)
    clear hown1 hgrow1
    have hA := hp.apart (Nat.le_refl _)
    have hA2 := hq.apart (Nat.le_refl _)
    have hP1 := hp.below B1
    have hQ1 := hq.below B1
    go_wp2_with fail
    refine (sum_terms [(.slice ao p.length c, p), (.slice ao' q.length c', q)] R1 (by omega) (by omega) rfl rfl (by simp) (by intro x hx; simp at hx; rcases hx with rfl | rfl; exact ⟨hP1, hA, hpn⟩; exact ⟨hQ1, hA2, hqn⟩)).mono ?_
    rintro e w' ⟨rfl, hO, hR⟩
    rw [addAll_two] at hR
    have B2 := (below_lit B1 _).trans (hO.below (Nat.le_refl _))
    have hRd := hR.rd
    clear hR hO hP1 hQ1
    have hRN := hRd.part
    go_wp2_with fail
    refine (top_any hRd (by rw [HU.out]; omega)).mono ?_
    rintro e w'' ⟨rfl, rfl⟩
    go_wp2
    go_ret
    rw [← HN.out]
    exact ⟨_, rfl, hRN, B2⟩
  · go_enter Try.func15, Try.ntmps15
    go_wp2_with (at_make; go_loud (refine wpList_make_full _ rfl (.tmp 10) (.tmp 10) 23 rfl w.heap.size 5 i0 (.int .u8 0) 1 Try.underlying23 hi hz0 hz1 _ _ _ _ p.length rfl rfl (by omega) (by omega) (by rw [hz2]; omega) (by unfold maxLen; omega) (Nat.le_refl _) ?_); intro w1 hown1 hgrow1)
    have R1 := RowF.made hown1
    have B1 : Below w.heap.size w w1 := (Below.refl _ _).grown hgrow1 (Nat.le_refl _) (fun k h => by cases h)
    clear hown1 hgrow1
    have hA := hp.apart (Nat.le_refl _)
    have hA2 := hq.apart (Nat.le_refl _)
    have hP1 := hp.below B1
    have hQ1 := hq.below B1
    go_wp2_with fail
    refine (sum_terms [(.slice ao p.length c, p), (.slice ao' q.length c', q)] R1 (by omega) (by omega) rfl rfl (by simp) (by intro x hx; simp at hx; rcases hx with rfl | rfl; exact ⟨hP1, hA, hpn⟩; exact ⟨hQ1, hA2, hqn⟩)).mono ?_
    rintro e w' ⟨rfl, hO, hR⟩
    rw [addAll_two] at hR
    have B2 := (below_lit B1 _).trans (hO.below (Nat.le_refl _))
    have hRd := hR.rd
    clear hR hO hP1 hQ1
    have hRN := hRd.part
    go_wp2_with fail
    refine (top_any hRd (by rw [HU.out]; omega)).mono ?_
    rintro e w'' ⟨rfl, rfl⟩
    go_wp2
    go_ret
    rw [← HN.out]
    exact ⟨_, rfl, hRN, B2⟩

end Go.Proofs.Ytjojcdikkgnfgaa.Gf
