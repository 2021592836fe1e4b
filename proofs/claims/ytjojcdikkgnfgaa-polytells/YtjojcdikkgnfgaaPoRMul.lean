/-
  THE DOCUMENT's ANSWER FOR LAYER 2 (package aumbryref02) BY CONTRACT: 'Mul'.
-/
import Derived.Test.YtjojcdikkgnfgaaPoRNorm
import Derived.Test.YtjojcdikkgnfgaaPoREval
import Derived.Test.YtjojcdikkgnfgaaPoMulMath
import Derived.Deep.RegionWith
namespace Go.Proofs.Ytjojcdikkgnfgaa.Gf
set_option linter.unusedVariables false
set_option linter.unusedSimpArgs false
open Go.RowKit

set_option maxRecDepth 100000 in
set_option maxHeartbeats 2000000 in
theorem rpmul_main (b off b' off' c c' : Nat) (p q : List UInt8) (w : World) (hl : p.length ≤ 400000) (hl2 : q.length ≤ 400000) (hb : b < w.heap.size) (hb' : b' < w.heap.size)
    (hpc : ∀ i, i < p.length → w.cell? ⟨b, off + i, none⟩ = some (.int .u8 ((co p i).toNat : Nat)))
    (hqc : ∀ i, i < q.length → w.cell? ⟨b', off' + i, none⟩ = some (.int .u8 ((co q i).toNat : Nat))) :
    Calls Try.prog 18 #[.slice (some ⟨b, off, none⟩) p.length c, .slice (some ⟨b', off', none⟩) q.length c'] w fun e w' => ∃ v, e = .returned v ∧ w'.ownsRow w.heap.size 5 1 v (mulP p q).length ((mulP p q).map vb) ∧ Below w.heap.size w w' := by
  obtain ⟨i0, hi, hz0, hz1, hz2⟩ := info_parts info_u8
  go_enter Try.func18, Try.ntmps18
  go_wp2_with (at_make; go_loud (refine wpList_make_full _ rfl (.tmp 12) (.tmp 12) 23 rfl w.heap.size 5 i0 (.int .u8 0) 1 Try.underlying23 hi hz0 hz1 _ _ _ _ (p.length + q.length) rfl rfl (by omega) (by omega) (by rw [hz2]; omega) (by unfold maxLen; omega) (Nat.le_refl _) ?_); intro w1 hown1 hgrow1)
  have R1 := RowF.made hown1
  have B1 : Below w.heap.size w w1 := (Below.refl _ _).grown hgrow1 (Nat.le_refl _) (fun k h => by cases h)
  clear hown1 hgrow1
  go_loopw [6] (fun i wr => ∃ k : Nat, k ≤ p.length ∧ i = .int .i64 k ∧ RowF wr w.heap.size 5 w.heap.size (p.length + q.length) (p.length + q.length) (pc (co p) (co q) k) ∧ Below w.heap.size w wr) (fun i _ => p.length - (intOf i).toNat)
  case atStart => exact ⟨0, by omega, rfl, R1.congr (fun t _ => rfl), B1⟩
  case round =>
    obtain ⟨k, hk, rfl, hR, hB⟩ := hrel
    clear R1 B1
    by_cases hlt : k < p.length
    · have R0 : RowF wr w.heap.size 5 w.heap.size (p.length + q.length) (p.length + q.length) (pk (co p) (co q) k 0) := by rw [pk_zero]; exact hR
      clear hR
      go_wp2
      go_loopw [7] (fun j w2 => ∃ l : Nat, l ≤ q.length ∧ j = .int .i64 l ∧ RowF w2 w.heap.size 5 w.heap.size (p.length + q.length) (p.length + q.length) (pk (co p) (co q) k l) ∧ Below w.heap.size w w2) (fun j _ => q.length - (intOf j).toNat)
      case atStart => exact ⟨0, by omega, rfl, R0, hB⟩
      case round =>
        obtain ⟨l, hll, rfl, hR, hB2⟩ := hrel
        clear R0 hB
        by_cases hl3 : l < q.length
        · obtain ⟨t, ht⟩ : ∃ t, t = k + l := ⟨_, rfl⟩
          have htl : t < p.length + q.length := by omega
          have g0 : (k : Int) + (l : Int) = (t : Int) := by omega
          have c1 := hR.cell htl
          have f1 := hR.unfrozen t
          have c2 := (hB2.cell (p := ⟨b, off + k, none⟩) hb).trans (hpc k hlt)
          have c3 := (hB2.cell (p := ⟨b', off' + l, none⟩) hb').trans (hqc l hl3)
          have E := xor_u8 (pk (co p) (co q) k l t) (mu (co p k) (co q l))
          have HN : Hid (RowF (wr.setCell ⟨w.heap.size, t, none⟩ (.int .u8 (((pk (co p) (co q) k l t).toNat ^^^ (mu (co p k) (co q l)).toNat : Nat) : Int))) w.heap.size 5 w.heap.size (p.length + q.length) (p.length + q.length) (pk (co p) (co q) k (l + 1))) :=
            by rw [← UInt8.toNat_xor]; exact hR.store htl _ (by rw [ht]; exact pk_step (co p) (co q) k l)
          have HT : Hid (t = k + l) := ht
          clear hpc hqc ht
          have g1 : (t : Int) < (p.length : Int) + (q.length : Int) := by omega
          have gw : IntKind.i64.wrap (t : Int) = (t : Int) := by rw [IntKind.wrap_i64]; omega
          have g2 : (k : Int) < (p.length : Int) := by omega
          have g3 : (l : Int) < (q.length : Int) := by omega
          go_wp2
          go_region_with ((go_at_call 32; refine (rmu_at (co p k) (co q l) rfl rfl).mono ?_; rintro e w' ⟨rfl, rfl⟩))
          all_goals go_wp2
          all_goals
            go_roundw
            case rel => exact ⟨l + 1, by omega, by go_num, HN.out.drew, (hB2.setCell (p := ⟨w.heap.size, t, none⟩) (Nat.le_refl _) _).drew⟩
            case measure => simp [intOf]; omega
        · have e : l = q.length := by omega
          subst e
          rw [pk_whole (co_fin q)] at hR
          clear hpc hqc
          go_wp2
          go_roundw
          case rel => exact ⟨k + 1, by omega, by go_num, hR, hB2⟩
          case measure => simp [intOf]; omega
    · have e : k = p.length := by omega
      subst e
      rw [pc_whole (co_fin p)] at hR
      have hRd := hR.rd
      have hsz := hB.size
      have HN : Hid (norm (upto (conv (co p) (co q)) (p.length + q.length)) = mulP p q) := norm_upto (fin_conv p q) (fin_conv p q)
      clear hR hpc hqc
      go_wp2_with fail
      refine (rnorm_any hRd (by rw [upto_length]; omega)).mono ?_
      rintro e w2 ⟨v2, rfl, hown2, hb2⟩
      go_wp2
      go_ret
      refine ⟨_, rfl, ?_, hB.trans (hb2.mono hsz)⟩
      rw [← HN.out]
      exact ownsRow_base hown2 hsz

end Go.Proofs.Ytjojcdikkgnfgaa.Gf
