/-
  THE DOCUMENT's ANSWER FOR LAYER 2 (package aumbryref02) BY CONTRACT: 'Mul'.
-/
import Derived.Test.YtjojcdikkgnfgaaPoRMul
namespace Go.Proofs.Ytjojcdikkgnfgaa.Gf
set_option linter.unusedVariables false
set_option linter.unusedSimpArgs false
open Go.RowKit

theorem mulP_empty {p q : List UInt8} (h : p = [] ∨ q = []) : mulP p q = [] := by
  have hz : ∀ i, conv (co p) (co q) i = 0 := by
    rcases h with rfl | rfl
    · intro i; rw [conv_comm]; exact conv_zero co_nil i
    · exact conv_zero co_nil
  have e : mulP p q = mk (fun _ => 0) 0 := mk_same (fin_conv p q) (fun _ _ => rfl) hz
  rw [e]; rfl
theorem norm_zeros (L : Nat) : norm (upto (fun _ => 0) L) = [] := by
  have e : norm (upto (fun _ => 0) L) = mk (fun _ => 0) 0 := norm_upto (fun _ _ => rfl) (fun _ _ => rfl)
  rw [e]; rfl

set_option maxRecDepth 100000 in
set_option maxHeartbeats 2000000 in
theorem rpmul_empty (a a' : Option Addr) (n m c c' : Nat) (w : World) (hn : n ≤ 400000) (hm : m ≤ 400000) (h0 : n = 0 ∨ m = 0) :
    Calls Try.prog 18 #[.slice a n c, .slice a' m c'] w fun e w' => ∃ v, e = .returned v ∧ w'.ownsRow w.heap.size 5 1 v 0 [] ∧ Below w.heap.size w w' := by
  obtain ⟨i0, hi, hz0, hz1, hz2⟩ := info_parts info_u8
  go_enter Try.func18, Try.ntmps18
  go_wp2_with (at_make; go_loud (refine wpList_make_full _ rfl (.tmp 12) (.tmp 12) 23 rfl w.heap.size 5 i0 (.int .u8 0) 1 Try.underlying23 hi hz0 hz1 _ _ _ _ (n + m) rfl rfl (by omega) (by omega) (by rw [hz2]; omega) (by unfold maxLen; omega) (Nat.le_refl _) ?_); intro w1 hown1 hgrow1)
  have R1 := RowF.made hown1
  have B1 : Below w.heap.size w w1 := (Below.refl _ _).grown hgrow1 (Nat.le_refl _) (fun k h => by cases h)
  clear hown1 hgrow1
  go_loopw [6] (fun i wr => ∃ k : Nat, k ≤ n ∧ i = .int .i64 k ∧ wr = w1) (fun i _ => n - (intOf i).toNat)
  case atStart => exact ⟨0, by omega, rfl, rfl⟩
  case round =>
    obtain ⟨k, hk, rfl, rfl⟩ := hrel
    by_cases hlt : k < n
    · have hm0 : m = 0 := by omega
      subst hm0
      go_wp2
      go_loop [7] (fun j => j = .int .i64 0) (fun _ => 0)
      case atStart => rfl
      case round =>
        subst hrel
        go_wp2
        exact ⟨⟨k + 1, by omega, by omega⟩, by simp [intOf]; omega⟩
    · have hRd := R1.rd
      have hsz := B1.size
      have HN := norm_zeros (n + m)
      have HE : Hid _ := HN
      clear R1 HN
      go_wp2_with fail
      refine (rnorm_any hRd (by rw [upto_length]; omega)).mono ?_
      rintro e w2 ⟨v2, rfl, hown2, hb2⟩
      go_wp2
      go_ret
      refine ⟨_, rfl, ?_, B1.trans (hb2.mono hsz)⟩
      rw [HE.out] at hown2
      exact ownsRow_base hown2 hsz

theorem rpmul_any {va vq : Value} {p q : List UInt8} {w : World} (hp : Rd w va p) (hq : Rd w vq q) (hl : p.length ≤ 400000) (hl2 : q.length ≤ 400000) :
    Calls Try.prog 18 #[va, vq] w fun e w' => ∃ v, e = .returned v ∧ w'.ownsRow w.heap.size 5 1 v (mulP p q).length ((mulP p q).map vb) ∧ Below w.heap.size w w' := by
  by_cases h0 : p = [] ∨ q = []
  · obtain ⟨a, c, rfl⟩ := hp.form
    obtain ⟨a', c', rfl⟩ := hq.form
    rw [mulP_empty h0]
    exact rpmul_empty a a' p.length q.length c c' w hl hl2 (by rcases h0 with rfl | rfl <;> simp)
  · rcases hp with ⟨a, c, rfl, rfl, hc, hn⟩ | ⟨b, off, c, hp0, rfl, h1, h2, h3, hpc⟩
    · exact absurd (Or.inl rfl) h0
    · rcases hq with ⟨a, c, rfl, rfl, hc, hn⟩ | ⟨b', off', c', hq0, rfl, h1', h2', h3', hqc⟩
      · exact absurd (Or.inr rfl) h0
      · exact rpmul_main b off b' off' c c' p q w hl hl2 h3 h3' hpc hqc

end Go.Proofs.Ytjojcdikkgnfgaa.Gf
