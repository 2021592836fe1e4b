/-
  THE DOCUMENT's ANSWER FOR LAYER 2 (package aumbryref02) BY CONTRACT: 'Norm' is the list up to its top, in a row of its own.
-/
import Derived.Test.YtjojcdikkgnfgaaPoRd
import Derived.Test.YtjojcdikkgnfgaaPoInfo
import Derived.Test.YtjojcdikkgnfgaaGfRefMath
namespace Go.Proofs.Ytjojcdikkgnfgaa.Gf
set_option linter.unusedVariables false
set_option linter.unusedSimpArgs false
open Go.RowKit

theorem deg_step {f : Nat → UInt8} {k : Nat} (hk : 0 < k) (h : f (k - 1) = 0) : deg f k = deg f (k - 1) := by
  obtain ⟨j, rfl⟩ : ∃ j, k = j + 1 := ⟨k - 1, by omega⟩
  rw [Nat.add_sub_cancel] at h ⊢
  rw [deg, if_pos h]
theorem deg_stop {f : Nat → UInt8} {k : Nat} (h : k = 0 ∨ f (k - 1) ≠ 0) : deg f k = k := by
  match k, h with
  | 0, _ => rfl
  | j + 1, h =>
    rw [Nat.add_sub_cancel] at h
    rw [deg, if_neg (by simpa using h)]

set_option maxRecDepth 100000 in
set_option maxHeartbeats 1000000 in
theorem rnorm_main (b off c : Nat) (p : List UInt8) (w : World) (hl : p.length ≤ 1000000) (hm : p.length ≤ c) (hcm : c ≤ maxLen) (hb : b < w.heap.size)
    (hp : ∀ i, i < p.length → w.cell? ⟨b, off + i, none⟩ = some (.int .u8 ((co p i).toNat : Nat))) :
    Calls Try.prog 14 #[.slice (some ⟨b, off, none⟩) p.length c] w fun e w' => ∃ v, e = .returned v ∧ w'.ownsRow w.heap.size 5 1 v (norm p).length ((norm p).map vb) ∧ Below w.heap.size w w' := by
  unfold maxLen at hcm
  obtain ⟨i0, hi, hz0, hz1, hz2⟩ := info_parts info_u8
  go_enter Try.func14, Try.ntmps14
  go_wp2
  go_loop [3] (fun n => ∃ k : Nat, k ≤ p.length ∧ n = .int .i64 k ∧ Hid (deg (co p) p.length = deg (co p) k)) (fun n => (intOf n).toNat)
  case atStart => exact ⟨p.length, Nat.le_refl _, rfl, rfl⟩
  case round =>
    obtain ⟨k, hk, rfl, hd⟩ := hrel
    by_cases hgo : 0 < k ∧ co p (k - 1) = 0
    · obtain ⟨h0, hz⟩ := hgo
      have c1 : w.cell? ⟨b, off + (k - 1), none⟩ = some (.int .u8 0) := by rw [hp (k - 1) (by omega), hz]; rfl
      have HD : Hid (deg (co p) p.length = deg (co p) (k - 1)) := by show _ = _; rw [hd.out]; exact deg_step h0 hz
      clear hz hd
      go_wp2
      go_round
      case rel => exact ⟨k - 1, by omega, val_int (by omega), HD⟩
      case measure => simp [intOf]; omega
    · have hstop : k = 0 ∨ co p (k - 1) ≠ 0 := by
        by_cases h0 : k = 0
        · exact Or.inl h0
        · exact Or.inr (fun h => hgo ⟨by omega, h⟩)
      have HK : Hid (deg (co p) p.length = k) := by show _ = _; rw [hd.out]; exact deg_stop hstop
      clear hd hgo
      have hnews := news_of (k := k) (cells_alloc (.cells #[] 5) hb hp)
      have hlen : ((p.take k).map vb).length = k * 1 := by simp; omega
      have HN : Hid (norm p = p.take k) := by show _ = _; rw [norm_take, HK.out]
      have HL : Hid ((norm p).length = k) := by show _ = _; rw [HN.out, List.length_take]; omega
      by_cases h0 : k = 0
      · subst h0
        clear hnews hlen hp hstop
        go_wp2
        go_ret
        refine ⟨_, rfl, ?_, (Below.refl _ _).alloc (Nat.le_refl _) _⟩
        rw [HN.out]
        exact World.ownsRow_lit w #[] 0 (Nat.le_refl _) (Nat.zero_le _) rfl
      · have hne := hstop.resolve_left h0
        have c1 := hp (k - 1) (by omega)
        have c2 : ((((co p (k - 1)).toNat : Nat) : Int) == 0) = false := by rw [eq_u8_zero]; simpa using hne
        clear hne hstop hp
        go_wp2_with (at_builtin; go_loud (refine wpList_append_own _ rfl (.tmp 18) (.tmp 21) 23 rfl w.heap.size 5 i0 (.int .u8 0) 1 1 Try.underlying23 hi hz0 hz1 hz2 rfl (by decide) (.slice (some ⟨w.heap.size, 0, none⟩) 0 0) 0 [] rfl (World.ownsRow_lit w #[] 0 (Nat.le_refl _) (Nat.zero_le _) rfl) ⟨b, off, none⟩ k c ((p.take k).map vb) rfl hlen hnews (vb_one _) (by unfold maxLen; omega) (by omega) (by simp) ?_); intro v' w1 hown hgrow _)
        go_ret
        refine ⟨_, rfl, ?_, ((Below.refl _ _).alloc (Nat.le_refl _) _).grown hgrow (by simp) (fun g hg => ?_)⟩
        · have e := hown
          rw [Nat.zero_add, List.nil_append] at e
          rw [HL.out, HN.out]
          exact e
        · simp [Value.ownBlock] at hg
          omega

set_option maxRecDepth 100000 in
set_option maxHeartbeats 1000000 in
theorem rnorm_nil (ao : Option Addr) (c : Nat) (w : World) (hcm : c ≤ maxLen) (hn : ao = none → c = 0) :
    Calls Try.prog 14 #[.slice ao 0 c] w fun e w' => ∃ v, e = .returned v ∧ w'.ownsRow w.heap.size 5 1 v (norm []).length ((norm []).map vb) ∧ Below w.heap.size w w' := by
  unfold maxLen at hcm
  have key : ∀ e w', (e = Ending.returned (.slice (some ⟨w.heap.size, 0, none⟩) 0 0) ∧ w' = w.alloc (.cells #[] 5)) →
      ∃ v, e = .returned v ∧ w'.ownsRow w.heap.size 5 1 v (norm []).length ((norm []).map vb) ∧ Below w.heap.size w w' := by
    rintro e w' ⟨rfl, rfl⟩
    exact ⟨_, rfl, World.ownsRow_lit w #[] 0 (Nat.le_refl _) (Nat.zero_le _) rfl, (Below.refl _ _).alloc (Nat.le_refl _) _⟩
  refine Calls.mono ?_ key
  clear key
  rcases ao with _ | x
  · have := hn rfl
    subst this
    go_enter Try.func14, Try.ntmps14
    go_wp2
    go_loop [3] (fun n => n = .int .i64 0) (fun _ => 0)
    case atStart => rfl
    case round =>
      subst hrel
      go_wp2
      go_ret
      exact ⟨rfl, rfl⟩
  · go_enter Try.func14, Try.ntmps14
    go_wp2
    go_loop [3] (fun n => n = .int .i64 0) (fun _ => 0)
    case atStart => rfl
    case round =>
      subst hrel
      go_wp2
      all_goals go_ret
      all_goals exact ⟨rfl, rfl⟩

theorem rnorm_any {v : Value} {p : List UInt8} {w : World} (hp : Rd w v p) (hl : p.length ≤ 1000000) :
    Calls Try.prog 14 #[v] w fun e w' => ∃ v, e = .returned v ∧ w'.ownsRow w.heap.size 5 1 v (norm p).length ((norm p).map vb) ∧ Below w.heap.size w w' := by
  rcases hp with ⟨a, c, rfl, rfl, hc, hn⟩ | ⟨b, off, c, hp0, rfl, h1, h2, h3, hpc⟩
  · exact rnorm_nil a c w hc hn
  · exact rnorm_main b off c p w hl h1 h2 h3 hpc

end Go.Proofs.Ytjojcdikkgnfgaa.Gf
