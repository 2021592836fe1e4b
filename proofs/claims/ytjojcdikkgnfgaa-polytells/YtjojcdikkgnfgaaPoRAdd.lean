/-
  THE DOCUMENT's ANSWER FOR LAYER 2 (package aumbryref02) BY CONTRACT: 'Add'.
-/
import Derived.Test.YtjojcdikkgnfgaaPoRNorm
import Derived.Test.YtjojcdikkgnfgaaPoREval
namespace Go.Proofs.Ytjojcdikkgnfgaa.Gf
set_option linter.unusedVariables false
set_option linter.unusedSimpArgs false
open Go.RowKit

set_option maxRecDepth 100000 in
set_option maxHeartbeats 1000000 in
theorem radd_any {va vq : Value} {p q : List UInt8} {w : World} (hp : Rd w va p) (hq : Rd w vq q) (hl : p.length ≤ 1000000) (hl2 : q.length ≤ 1000000) :
    Calls Try.prog 16 #[va, vq] w fun e w' => ∃ v, e = .returned v ∧ w'.ownsRow w.heap.size 5 1 v (addP p q).length ((addP p q).map vb) ∧ Below w.heap.size w w' := by
  obtain ⟨i0, hi, hz0, hz1, hz2⟩ := info_parts info_u8
  obtain ⟨a, c, rfl⟩ := hp.form
  obtain ⟨a', c', rfl⟩ := hq.form
  go_enter Try.func16, Try.ntmps16
  go_wp2
  go_loopw [5, 6] (fun v i wr => ∃ k : Nat, (k ≤ p.length ∨ k ≤ q.length) ∧ i = .int .i64 k ∧ wr.ownsRow w.heap.size 5 1 v k ((upto (addF (co p) (co q)) k).map vb) ∧ Below w.heap.size w wr) (fun _ i _ => p.length + q.length - (intOf i).toNat)
  case atStart => exact ⟨0, by omega, rfl, World.ownsRow_nil _ _ _ _, Below.refl _ _⟩
  case round =>
    obtain ⟨k, hk, rfl, hown, hbel⟩ := hrel
    have hsz := hbel.size
    have hp1 := hp.below hbel
    have hq1 := hq.below hbel
    have E : Hid (bits .xor .u8 (((co p k).toNat : Nat) : Int) (((co q k).toNat : Nat) : Int) = (((addF (co p) (co q) k).toNat : Nat) : Int)) := xor_u8 _ _
    have hkk : k ≤ 1000000 := by omega
    by_cases hlt : k < p.length ∨ k < q.length
    · have step : ∀ (v' : Value) (w1 : World), w1.ownsRow w.heap.size 5 1 v' (k + 1) ((upto (addF (co p) (co q)) k).map vb ++ [.int .u8 (((addF (co p) (co q) k).toNat : Nat) : Int)]) → w1.ownsRow w.heap.size 5 1 v' (k + 1) ((upto (addF (co p) (co q)) (k + 1)).map vb) := fun v' w1 h => by rw [upto_vb_succ]; exact h
      have HS : Hid _ := step
      clear step
      have E' := E.out
      by_cases h1 : k < p.length
      all_goals
        go_wp2_with fail
        refine (at_any hp1 k rfl).mono ?_
        rintro e w' ⟨rfl, rfl⟩
        go_wp2_with fail
        refine (at_any hq1 k rfl).mono ?_
        rintro e w' ⟨rfl, rfl⟩
        go_wp2_with (at_builtin; go_loud (refine wpList_append_own _ rfl (.tmp 19) (.tmp 27) 23 rfl w.heap.size 5 i0 (.int .u8 0) 1 1 Try.underlying23 hi hz0 hz1 hz2 rfl (by decide) _ k _ rfl (hown.alloc _) ⟨_, 0, none⟩ 1 1 [.int .u8 (((addF (co p) (co q) k).toNat : Nat) : Int)] rfl rfl (cell_one_new _ _ _) (by simp [Value.oneCell']) (by unfold maxLen; omega) (by omega) (by simp; omega) ?_); intro v' w1 hown' hgrow _)
        have RB := grow_below hbel hown hgrow
        go_roundw
        case rel => exact ⟨k + 1, by omega, by go_num, HS.out _ _ hown', RB⟩
        case measure => simp [intOf]; omega
    · have hF : Fin0 (addF (co p) (co q)) k := ((co_fin p).mono (by omega)).add ((co_fin q).mono (by omega))
      have hR : Rd wr _ (upto (addF (co p) (co q)) k) := Rd.owned (base := w.heap.size) (e := 5) (by rw [upto_length]; exact hown)
      have HN : Hid (norm (upto (addF (co p) (co q)) k) = addP p q) := norm_upto hF (fin_add p q)
      clear hown hF
      have h1 : ¬ k < p.length := by omega
      have h2 : ¬ k < q.length := by omega
      go_wp2_with fail
      refine (rnorm_any hR (by rw [upto_length]; omega)).mono ?_
      rintro e w2 ⟨v2, rfl, hown2, hb2⟩
      go_wp2
      go_ret
      refine ⟨_, rfl, ?_, hbel.trans (hb2.mono hsz)⟩
      rw [← HN.out]
      exact ownsRow_base hown2 hsz

end Go.Proofs.Ytjojcdikkgnfgaa.Gf
