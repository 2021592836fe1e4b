/-
  THE PROGRAM's 'upToTop' BY CONTRACT: a part of the slice itself, up to its top; memory stands.
-/
import Derived.Test.YtjojcdikkgnfgaaPoApi
import Derived.Test.YtjojcdikkgnfgaaPoInfo
import Derived.Test.YtjojcdikkgnfgaaPoLaws
import Derived.Test.YtjojcdikkgnfgaaPoMulMath
namespace Go.Proofs.Ytjojcdikkgnfgaa.Gf
set_option linter.unusedVariables false
set_option linter.unusedSimpArgs false
open Go.RowKit

theorem topg_step {f : Nat → UInt8} {k : Nat} (hk : 0 < k) (h : f (k - 1) = 0) : deg f k = deg f (k - 1) := by
  obtain ⟨j, rfl⟩ : ∃ j, k = j + 1 := ⟨k - 1, by omega⟩
  rw [Nat.add_sub_cancel] at h ⊢
  rw [deg, if_pos h]
theorem topg_stop {f : Nat → UInt8} {k : Nat} (h : k = 0 ∨ f (k - 1) ≠ 0) : deg f k = k := by
  match k, h with
  | 0, _ => rfl
  | j + 1, h =>
    rw [Nat.add_sub_cancel] at h
    rw [deg, if_neg (by simpa using h)]
def lenV : Value → Nat
  | .slice _ n _ => n
  | _ => 0

set_option maxRecDepth 100000 in
set_option maxHeartbeats 1000000 in
theorem top_main (b off c : Nat) (p : List UInt8) (w : World) (hl : p.length ≤ 1000000) (hm : p.length ≤ c) (hcm : c ≤ maxLen)
    (hp : ∀ i, i < p.length → w.cell? ⟨b, off + i, none⟩ = some (.int .u8 ((co p i).toNat : Nat))) :
    Calls Try.prog 28 #[.slice (some ⟨b, off, none⟩) p.length c] w fun e w' => e = .returned (.slice (some ⟨b, off, none⟩) (norm p).length c) ∧ w' = w := by
  unfold maxLen at hcm
  go_enter Try.func28, Try.ntmps28
  go_wp2
  go_loop [0] (fun v => ∃ k : Nat, k ≤ p.length ∧ v = .slice (some ⟨b, off, none⟩) k c ∧ Hid (deg (co p) p.length = deg (co p) k)) (fun v => lenV v)
  case atStart => exact ⟨p.length, Nat.le_refl _, rfl, rfl⟩
  case round =>
    obtain ⟨k, hk, rfl, hd⟩ := hrel
    by_cases hgo : 0 < k ∧ co p (k - 1) = 0
    · obtain ⟨h0, hz⟩ := hgo
      have c1 : w.cell? ⟨b, off + (k - 1), none⟩ = some (.int .u8 0) := by rw [hp (k - 1) (by omega), hz]; rfl
      have HD : Hid (deg (co p) p.length = deg (co p) (k - 1)) := by show _ = _; rw [hd.out]; exact topg_step h0 hz
      clear hz hd
      go_wp2
      go_round
      case rel => exact ⟨k - 1, by omega, by go_num, HD⟩
      case measure => simp [lenV]; omega
    · have hstop : k = 0 ∨ co p (k - 1) ≠ 0 := by
        by_cases h0 : k = 0
        · exact Or.inl h0
        · exact Or.inr (fun h => hgo ⟨by omega, h⟩)
      have HK : Hid ((norm p).length = k) := by show _ = _; rw [norm_length, hd.out]; exact topg_stop hstop
      clear hd hgo
      by_cases h0 : k = 0
      · subst h0
        clear hp hstop
        go_wp2
        go_ret
        exact ⟨by rw [HK.out]; rfl, rfl⟩
      · have hne := hstop.resolve_left h0
        have c1 := hp (k - 1) (by omega)
        have c2 : ((((co p (k - 1)).toNat : Nat) : Int) == 0) = false := by rw [eq_u8_zero]; simpa using hne
        clear hne hstop hp
        go_wp2
        go_ret
        exact ⟨by rw [HK.out]; rfl, rfl⟩

set_option maxRecDepth 100000 in
set_option maxHeartbeats 1000000 in
theorem top_nil (ao : Option Addr) (c : Nat) (w : World) :
    Calls Try.prog 28 #[.slice ao 0 c] w fun e w' => e = .returned (.slice ao 0 c) ∧ w' = w := by
  go_enter Try.func28, Try.ntmps28
  go_wp2
  go_loop [0] (fun v => v = .slice ao 0 c) (fun v => 0)
  case atStart => rfl
  case round =>
    subst hrel
    go_wp2
    go_ret
    exact ⟨rfl, rfl⟩

theorem Rd.n {w : World} {ao : Option Addr} {n c : Nat} {p : List UInt8} (h : Rd w (.slice ao n c) p) : n = p.length := by
  obtain ⟨a, c', e⟩ := h.form
  simp at e
  exact e.2.1
/-- A slice, and the first numbers of it. -/
theorem Rd.part {w : World} {ao : Option Addr} {n c : Nat} {p : List UInt8} (h : Rd w (.slice ao n c) p) : Rd w (.slice ao (norm p).length c) (norm p) := by
  by_cases h0 : norm p = []
  · rw [h0]
    rcases h with ⟨a, c', e1, e2, hc, hn⟩ | ⟨b, off, c', hp0, e2, h1, h2, h3, hpc⟩
    · simp at e2; obtain ⟨rfl, _, rfl⟩ := e2
      exact Or.inl ⟨_, _, rfl, rfl, hc, hn⟩
    · simp at e2; obtain ⟨rfl, rfl, rfl⟩ := e2
      exact Or.inl ⟨_, _, rfl, rfl, h2, fun h => by cases h⟩
  · have hle := norm_length_le p
    rcases h with ⟨a, c', e1, e2, hc, hn⟩ | ⟨b, off, c', hp0, e2, h1, h2, h3, hpc⟩
    · subst e1; exact absurd rfl h0
    · simp at e2; obtain ⟨rfl, rfl, rfl⟩ := e2
      exact Or.inr ⟨b, off, _, h0, rfl, Nat.le_trans hle h1, h2, h3, fun i hi => by rw [co_norm]; exact hpc i (Nat.lt_of_lt_of_le hi hle)⟩

theorem top_any {ao : Option Addr} {n c : Nat} {p : List UInt8} {w : World} (hp : Rd w (.slice ao n c) p) (hl : p.length ≤ 1000000) :
    Calls Try.prog 28 #[.slice ao n c] w fun e w' => e = .returned (.slice ao (norm p).length c) ∧ w' = w := by
  have hn := hp.n
  subst hn
  rcases hp with ⟨a, c', rfl, e2, hc, hn⟩ | ⟨b, off, c', hp0, e2, h1, h2, h3, hpc⟩
  · exact top_nil ao c w
  · simp at e2; obtain ⟨rfl, rfl⟩ := e2
    exact top_main b off _ p w hl h1 h2 hpc

end Go.Proofs.Ytjojcdikkgnfgaa.Gf
