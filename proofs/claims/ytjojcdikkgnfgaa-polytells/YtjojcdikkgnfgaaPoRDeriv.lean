/-
  THE DOCUMENT's ANSWER FOR LAYER 2 (package aumbryref02) BY CONTRACT: 'Deriv'.
-/
import Derived.Test.YtjojcdikkgnfgaaPoRNorm
namespace Go.Proofs.Ytjojcdikkgnfgaa.Gf
set_option linter.unusedVariables false
set_option linter.unusedSimpArgs false
open Go.RowKit

theorem der_even {f : Nat → UInt8} {k : Nat} (h : k % 2 = 0) : der f k = f (k + 1) := by unfold der od; rw [if_pos (by omega)]
theorem der_odd {f : Nat → UInt8} {k : Nat} (h : k % 2 = 1) : der f k = 0 := by unfold der od; rw [if_neg (by omega)]

set_option maxRecDepth 100000 in
set_option maxHeartbeats 1000000 in
theorem rderiv_main (b off c : Nat) (p : List UInt8) (w : World) (hp0 : p ≠ []) (hl : p.length ≤ 1000000) (hb : b < w.heap.size)
    (hpc : ∀ i, i < p.length → w.cell? ⟨b, off + i, none⟩ = some (.int .u8 ((co p i).toNat : Nat))) :
    Calls Try.prog 20 #[.slice (some ⟨b, off, none⟩) p.length c] w fun e w' => ∃ v, e = .returned v ∧ w'.ownsRow w.heap.size 5 1 v (derP p).length ((derP p).map vb) ∧ Below w.heap.size w w' := by
  obtain ⟨i0, hi, hz0, hz1, hz2⟩ := info_parts info_u8
  have hpos : 0 < p.length := List.length_pos_iff.2 hp0
  clear hp0
  go_enter Try.func20, Try.ntmps20
  go_wp2
  go_loopw [3, 4] (fun v i wr => ∃ k : Nat, k + 1 ≤ p.length ∧ i = .int .i64 k ∧ wr.ownsRow w.heap.size 5 1 v k ((upto (der (co p)) k).map vb) ∧ Below w.heap.size w wr) (fun _ i _ => p.length - (intOf i).toNat)
  case atStart => exact ⟨0, by omega, rfl, World.ownsRow_nil _ _ _ _, Below.refl _ _⟩
  case round =>
    obtain ⟨k, hk, rfl, hown, hbel⟩ := hrel
    have hsz := hbel.size
    by_cases hlt : k + 1 < p.length
    · by_cases hev : k % 2 = 0
      · have c1 : wr.cell? ⟨b, off + (k + 1), none⟩ = some (.int .u8 (((co p (k + 1)).toNat : Nat) : Int)) := (hbel.cell (p := ⟨b, off + (k + 1), none⟩) hb).trans (hpc (k + 1) hlt)
        have E : Hid (der (co p) k = co p (k + 1)) := der_even hev
        go_wp2_with (at_builtin; go_loud (refine wpList_append_own _ rfl (.tmp 15) (.tmp 21) 23 rfl w.heap.size 5 i0 (.int .u8 0) 1 1 Try.underlying23 hi hz0 hz1 hz2 rfl (by decide) _ k _ rfl (hown.alloc _) ⟨wr.heap.size, 0, none⟩ 1 1 [.int .u8 (((co p (k + 1)).toNat : Nat) : Int)] rfl rfl (cell_one_new _ _ _) (by simp [Value.oneCell']) (by unfold maxLen; omega) (by omega) (by simp; omega) ?_); intro v' w1 hown' hgrow _)
        have R : w1.ownsRow w.heap.size 5 1 v' (k + 1) ((upto (der (co p)) (k + 1)).map vb) := by rw [upto_vb_succ, E.out]; exact hown'
        have RB := grow_below hbel hown hgrow
        go_roundw
        case rel => exact ⟨k + 1, by omega, by go_num, R, RB⟩
        case measure => simp [intOf]; omega
      · have E : Hid (der (co p) k = 0) := der_odd (by omega)
        have hev2 : k % 2 = 1 := by omega
        go_wp2_with (at_builtin; go_loud (refine wpList_append_own _ rfl (.tmp 23) (.tmp 24) 23 rfl w.heap.size 5 i0 (.int .u8 0) 1 1 Try.underlying23 hi hz0 hz1 hz2 rfl (by decide) _ k _ rfl (hown.alloc _) ⟨wr.heap.size, 0, none⟩ 1 1 [.int .u8 0] rfl rfl (cell_one_new _ _ _) (by simp [Value.oneCell']) (by unfold maxLen; omega) (by omega) (by simp; omega) ?_); intro v' w1 hown' hgrow _)
        have R : w1.ownsRow w.heap.size 5 1 v' (k + 1) ((upto (der (co p)) (k + 1)).map vb) := by rw [upto_vb_succ, E.out]; exact hown'
        have RB := grow_below hbel hown hgrow
        go_roundw
        case rel => exact ⟨k + 1, by omega, by go_num, R, RB⟩
        case measure => simp [intOf]; omega
    · have hk2 : k = p.length - 1 := by omega
      have hR : Rd wr _ (upto (der (co p)) k) := Rd.owned (base := w.heap.size) (e := 5) (by rw [upto_length]; exact hown)
      have HN : Hid (norm (upto (der (co p)) k) = derP p) := norm_upto (by rw [hk2]; exact (co_fin p).der) (fin_der p)
      clear hown
      go_wp2_with fail
      refine (rnorm_any hR (by rw [upto_length]; omega)).mono ?_
      rintro e w2 ⟨v2, rfl, hown2, hb2⟩
      go_wp2
      go_ret
      refine ⟨_, rfl, ?_, hbel.trans (hb2.mono hsz)⟩
      rw [← HN.out]
      exact ownsRow_base hown2 hsz

set_option maxRecDepth 100000 in
set_option maxHeartbeats 1000000 in
theorem rderiv_nil (a : Option Addr) (c : Nat) (w : World) :
    Calls Try.prog 20 #[.slice a 0 c] w fun e w' => ∃ v, e = .returned v ∧ w'.ownsRow w.heap.size 5 1 v (derP []).length ((derP []).map vb) ∧ Below w.heap.size w w' := by
  have hR : Rd w (.slice none 0 0) [] := Or.inl ⟨none, 0, rfl, rfl, Nat.zero_le _, fun _ => rfl⟩
  go_enter Try.func20, Try.ntmps20
  go_wp2
  go_loop [3, 4] (fun v i => v = .slice none 0 0 ∧ i = .int .i64 0) (fun _ _ => 0)
  case atStart => exact ⟨rfl, rfl⟩
  case round =>
    obtain ⟨rfl, rfl⟩ := hrel
    go_wp2_with fail
    refine (rnorm_any hR (by simp)).mono ?_
    rintro e w2 ⟨v2, rfl, hown2, hb2⟩
    go_wp2
    go_ret
    exact ⟨_, rfl, hown2, hb2⟩

theorem rderiv_any {v : Value} {p : List UInt8} {w : World} (hp : Rd w v p) (hl : p.length ≤ 1000000) :
    Calls Try.prog 20 #[v] w fun e w' => ∃ v, e = .returned v ∧ w'.ownsRow w.heap.size 5 1 v (derP p).length ((derP p).map vb) ∧ Below w.heap.size w w' := by
  rcases hp with ⟨a, c, rfl, rfl, hc, hn⟩ | ⟨b, off, c, hp0, rfl, h1, h2, h3, hpc⟩
  · exact rderiv_nil a c w
  · exact rderiv_main b off c p w hp0 hl h3 hpc

end Go.Proofs.Ytjojcdikkgnfgaa.Gf
