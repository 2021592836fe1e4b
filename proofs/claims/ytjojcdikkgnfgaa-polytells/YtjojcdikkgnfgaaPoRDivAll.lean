/-
  THE DOCUMENT's ANSWER FOR LAYER 2 (package aumbryref02) BY CONTRACT: 'Divide', whatever the two polynomials.
-/
import Derived.Test.YtjojcdikkgnfgaaPoRDivide
namespace Go.Proofs.Ytjojcdikkgnfgaa.Gf
set_option linter.unusedVariables false
set_option linter.unusedSimpArgs false
open Go.RowKit

set_option maxRecDepth 100000 in
set_option maxHeartbeats 2000000 in
theorem rdivide_less {va vq : Value} {p q : List UInt8} {w : World} (hp : Rd w va p) (hq : Rd w vq q) (hl : p.length ≤ 400000) (hl2 : q.length ≤ 400000) (h0 : 0 < (norm q).length) (h1 : (norm p).length < (norm q).length) :
    Calls Try.prog 22 #[va, vq] w fun e w' => ∃ vs vr s r, e = .returned (.tuple #[vs, vr, .int .i64 0]) ∧ IsDiv p q s r ∧ Rd w' vs s ∧ Rd w' vr r ∧ Below w.heap.size w w' := by
  obtain ⟨i0, hi, hz0, hz1, hz2⟩ := info_parts info_u8
  have hdq : (norm q).length ≤ q.length := by rw [norm, mk_length]; exact deg_le _ _
  have hdp : (norm p).length ≤ p.length := by rw [norm, mk_length]; exact deg_le _ _
  have hpf : Fin0 (co p) (norm p).length := by rw [norm, mk_length]; exact deg_fin (co_fin p)
  have D0 : DivInv (co p) (co q) (fun _ => 0) (co p) (norm p).length (norm q).length 0 := DivInv.start hpf _ (by omega)
  have HD : Hid (IsDiv p q (mk (fun _ => 0) (norm p).length) (mk (co p) (norm p).length)) := div_done D0 rfl h0 hdp hpf
  have HN1 : Hid (norm (upto (fun _ => 0) (norm p).length) = mk (fun _ => 0) (norm p).length) := norm_upto (fun _ _ => rfl) (fun _ _ => rfl)
  have HN2 : Hid (norm (norm p) = mk (co p) (norm p).length) := norm_of hpf (fun i => by rw [co_norm])
  have HPL : Hid ((norm p).length ≤ 400000) := by show _ ≤ _; omega
  clear D0 hpf
  go_enter Try.func22, Try.ntmps22
  go_wp2_with fail
  refine (rnorm_any hq (by omega)).mono ?_
  rintro e w1 ⟨v1, rfl, hown1, hb1⟩
  obtain ⟨a1, c1, e1⟩ := (Rd.owned hown1).form
  clear hown1
  subst e1
  obtain ⟨m, hm⟩ : ∃ m, m = (norm q).length := ⟨_, rfl⟩
  rw [← hm] at h0 h1 hdq
  simp only [← hm]
  clear hm
  have hm0 : ((m : Int) == 0) = false := by simp; omega
  have hp1 := hp.below hb1
  go_wp2_with fail
  refine (rnorm_any hp1 (by omega)).mono ?_
  rintro e w2 ⟨v2, rfl, hown2, hb2⟩
  have R2 := Rd.owned hown2
  obtain ⟨a2, c2, e2⟩ := R2.form
  clear hown2
  subst e2
  have s1 := hb1.size
  have s2 := hb2.size
  have B2 : Below w.heap.size w w2 := hb1.trans (hb2.mono s1)
  clear hb1 hb2 hp1
  go_wp2_with (at_make; go_loud (refine wpList_make_full _ rfl (.tmp 21) (.tmp 21) 23 rfl w2.heap.size 5 i0 (.int .u8 0) 1 Try.underlying23 hi hz0 hz1 _ _ _ _ (norm p).length rfl rfl (by omega) (by omega) (by rw [hz2]; omega) (by unfold maxLen; omega) (Nat.le_refl _) ?_); intro w3 hown3 hgrow3)
  have Rs := (RowF.made hown3).rd
  have B23 : Below w2.heap.size w2 w3 := (Below.refl _ _).grown hgrow3 (Nat.le_refl _) (fun k h => by cases h)
  clear hown3 hgrow3
  have B3 : Below w.heap.size w w3 := B2.trans (B23.mono (by omega))
  have R3 := R2.below B23
  clear B2 B23 R2
  go_loop [9] (fun i => i = .int .i64 (((norm p).length : Int) - (m : Int))) (fun _ => 0)
  case atStart => rfl
  case round =>
    subst hrel
    have hneg : ((norm p).length : Int) - (m : Int) < 0 := by omega
    go_wp2_with fail
    refine (rnorm_any Rs (by rw [upto_length]; exact Nat.le_trans HPL.out (by decide))).mono ?_
    rintro e w5 ⟨v5, rfl, hown5, hb5⟩
    have r2' := R3.below hb5
    go_wp2_with fail
    refine (rnorm_any r2' (Nat.le_trans HPL.out (by decide))).mono ?_
    rintro e w6 ⟨v6, rfl, hown6, hb6⟩
    have z5 := (Rd.owned hown5).below hb6
    have z6 := Rd.owned hown6
    have sB := B3.size
    have s5 := hb5.size
    go_wp2
    go_ret3
    refine ⟨v5, v6, _, _, rfl, HD.out, ?_, ?_, (B3.trans (hb5.mono sB)).trans (hb6.mono (by omega))⟩
    · rw [← HN1.out]; exact z5
    · rw [← HN2.out]; exact z6

theorem rdivide_any {va vq : Value} {p q : List UInt8} {w : World} (hp : Rd w va p) (hq : Rd w vq q) (hl : p.length ≤ 400000) (hl2 : q.length ≤ 400000) (h0 : norm q ≠ []) :
    Calls Try.prog 22 #[va, vq] w fun e w' => ∃ vs vr s r, e = .returned (.tuple #[vs, vr, .int .i64 0]) ∧ IsDiv p q s r ∧ Rd w' vs s ∧ Rd w' vr r ∧ Below w.heap.size w w' := by
  have hpos : 0 < (norm q).length := List.length_pos_iff.2 h0
  by_cases h1 : (norm q).length ≤ (norm p).length
  · exact rdivide_main hp hq hl hl2 hpos h1
  · exact rdivide_less hp hq hl hl2 hpos (by omega)

end Go.Proofs.Ytjojcdikkgnfgaa.Gf
