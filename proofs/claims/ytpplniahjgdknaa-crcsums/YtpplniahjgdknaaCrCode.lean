/-
  THE PROGRAM's CHECK SUMS BY CONTRACT (as of 2caf58b).
-/
import Derived.Test.YtpplniahjgdknaaCrRef
import Derived.WalkMore
namespace Go.Proofs.Ytpplniahjgdknaa.Gf
set_option linter.unusedVariables false
set_option linter.unusedSimpArgs false
open Go.RowKit

theorem stK_add (a b x : Nat) : stK (a + b) x = stK a (stK b x) := by
  induction a with
  | zero => rw [Nat.zero_add]; rfl
  | succ a ih => rw [show a + 1 + b = (a + b) + 1 by omega]; show st (stK (a + b) x) = st (stK a (stK b x)); rw [ih]
theorem stK_even {t : Nat} : ∀ m, t % 2 ^ m = 0 → stK m t = t / 2 ^ m
  | 0, _ => by simp [stK]
  | m + 1, h => by
    have h1 : t % 2 ^ m = 0 := by
      have e : t % 2 ^ (m + 1) % 2 ^ m = t % 2 ^ m := Nat.mod_mod_of_dvd t ⟨2, by rw [Nat.pow_succ]⟩
      rw [h] at e
      simpa using e.symm
    show st (stK m t) = _
    rw [stK_even m h1]
    have h2 : t / 2 ^ m % 2 = 0 := by
      rw [Nat.pow_succ, Nat.mod_mul] at h
      have := Nat.two_pow_pos m
      rcases Nat.eq_zero_or_pos (t / 2 ^ m % 2) with h3 | h3
      · exact h3
      · have := Nat.mul_pos this h3
        omega
    unfold st
    rw [if_neg (by omega), Nat.div_div_eq_div_mul, Nat.pow_succ]
/-- where no 1 is left among the lowest bits nothing but shifts is left to do -/
theorem stK_early {q j t : Nat} (hj : j < 8) (ht : t = stK j q) (h : t % 256 * 2 ^ j % 256 = 0) : t / 2 ^ (8 - j) = stK 8 q := by
  have e : stK 8 q = stK (8 - j) t := by rw [ht, ← stK_add]; congr 1; omega
  rw [e, stK_even]
  have h1 : t * 2 ^ j % 256 = 0 := by rw [Nat.mod_mul_mod] at h; exact h
  have h2 : (256 : Nat) = 2 ^ (8 - j) * 2 ^ j := by rw [← Nat.pow_add, show 8 - j + j = 8 by omega]
  rw [h2, Nat.mul_mod_mul_right] at h1
  rcases Nat.mul_eq_zero.1 h1 with h3 | h3
  · exact h3
  · exact absurd h3 (Nat.pos_iff_ne_zero.1 (Nat.two_pow_pos j))
theorem bit0_even {s : Nat} (hs : s < 4294967296) : (bits .and .u32 (s : Int) 1 == 0) = decide (¬ s % 2 = 1) := by
  rw [show (1 : Int) = ((1 : Nat) : Int) from rfl, u32_and_nat s 1 hs (by decide), Bool.eq_iff_iff, beq_iff_eq, decide_eq_true_eq, Nat.and_one_is_mod]
  omega

set_option maxRecDepth 100000 in
set_option maxHeartbeats 1000000 in
theorem cshifted_any {s : Nat} {w : World} {u : Int} (hu : u = (s : Int)) (hs : s < 4294967296) :
    Calls Try.prog 13 #[.int .u32 u] w fun e w' => e = .returned (.int .u32 ((st s : Nat) : Int)) ∧ w' = w := by
  subst hu
  have d := bit0_even hs
  by_cases h2 : s % 2 = 1
  · rw [decide_eq_false (by omega)] at d
    have X : Hid (bits .xor .u32 ((s : Int) / 2) 2197175160 = ((st s : Nat) : Int)) := st_odd hs h2
    go_enter Try.func13, Try.ntmps13
    go_wp2
    go_ret
    exact ⟨by rw [X.out]; rfl, rfl⟩
  · rw [decide_eq_true h2] at d
    have X : Hid ((s : Int) / 2 = ((st s : Nat) : Int)) := st_even h2
    go_enter Try.func13, Try.ntmps13
    go_wp2
    go_ret
    exact ⟨by rw [X.out]; rfl, rfl⟩

set_option maxRecDepth 100000 in
set_option maxHeartbeats 1000000 in
theorem cmore_any {s : Nat} {v : Value} {p : List UInt8} {w : World} {u : Int} (hu : u = (s : Int)) (hs : s < 4294967296) (hp : Rd w v p) (hl : p.length ≤ 1000000) :
    Calls Try.prog 11 #[.int .u32 u, v] w fun e w' => e = .returned (.int .u32 ((more s p : Nat) : Int)) ∧ Below w.heap.size w w' := by
  subst hu
  have N0 := not_u32 hs
  have hn := nt_lt s
  have HM : Hid (more s p = nt (run (nt s) p)) := rfl
  have N1 := not_u32 (run_lt hn p)
  rw [← HM.out] at N1
  obtain ⟨y, ey⟩ : ∃ y, Hid (y = nt s) := ⟨_, rfl⟩
  rw [← ey.out] at N0 hn N1
  obtain ⟨a, c, rfl⟩ := hp.form
  go_enter Try.func11, Try.ntmps11
  go_wp2
  go_step3
  go_wp2
  go_step3
  go_wp2
  go_loop [5, 13] (fun x i => ∃ k : Nat, k ≤ p.length ∧ i = .int .i64 k ∧ x = .int .u32 ((run y (p.take k) : Nat) : Int)) (fun _ i => p.length - (intOf i).toNat)
  case atStart => exact ⟨0, by omega, rfl, rfl⟩
  case round =>
    obtain ⟨k, hk, rfl, rfl⟩ := hrel
    have hr := run_lt hn (p.take k)
    by_cases hlt : k < p.length
    · have hlt' : (k : Int) < (p.length : Int) := by omega
      rcases hp with ⟨a, c, rfl, _⟩ | ⟨b, o, c, hp0, e0, h1, h2, h3, hpc⟩
      · simp at hlt
      · simp at e0
        obtain ⟨rfl, rfl⟩ := e0
        have c1 := hpc k hlt
        have HS : Hid (run y (p.take (k + 1)) = stK 8 (run y (p.take k) ^^^ (co p k).toNat)) := by show _ = _; rw [run_take y p hlt, co_lt hlt]; rfl
        clear hpc
        obtain ⟨z, ez⟩ : ∃ z, Hid (z = run y (p.take k)) := ⟨_, rfl⟩
        rw [← ez.out] at hr HS ⊢
        have X0 := u32_xor_nat z (co p k).toNat hr (byte32 _)
        have hq := xor32 hr (byte32 (co p k))
        have m0 : (((co p k).toNat : Nat) : Int) % 4294967296 = (((co p k).toNat : Nat) : Int) := by have := (co p k).toNat_lt; omega
        obtain ⟨q, eq⟩ : ∃ q, Hid (q = z ^^^ (co p k).toNat) := ⟨_, rfl⟩
        rw [← eq.out] at X0 hq HS
        go_wp2
        go_loop [5, 8, 21] (fun x l i => ∃ j : Nat, j ≤ 8 ∧ i = .int .i64 j ∧ x = .int .u32 ((stK j q : Nat) : Int)) (fun _ _ i => 8 - (intOf i).toNat)
        case atStart => exact ⟨0, by omega, rfl, rfl⟩
        case round =>
          obtain ⟨j, hj, rfl, rfl⟩ := hrel
          have ht := stK_lt hq j
          have HT : Hid (stK (j + 1) q = st (stK j q)) := rfl
          obtain ⟨t, et⟩ : ∃ t, Hid (t = stK j q) := ⟨_, rfl⟩
          by_cases hj8 : j < 8
          · rw [← et.out] at ht HT ⊢
            by_cases hz : t % 256 * 2 ^ j % 256 = 0
            · have D : ((t : Int) % 256 * 2 ^ j % 256 == 0) = true := by rw [beq_iff_eq]; exact_mod_cast hz
              have HE : Hid (t / 2 ^ (8 - j) = stK 8 q) := stK_early hj8 et.out hz
              go_wp2
              exact ⟨⟨k + 1, by omega, by go_num, val_int32 (by rw [HS.out, ← HE.out]; norm_cast)⟩, by simp [intOf]; omega⟩
            · have D : ((t : Int) % 256 * 2 ^ j % 256 == 0) = false := by rw [beq_eq_false_iff_ne]; exact_mod_cast hz
              go_wp2_with fail
              refine (cshifted_any rfl ht).mono ?_
              rintro e w' ⟨rfl, rfl⟩
              go_wp2
              go_round
              case rel => exact ⟨j + 1, by omega, by go_num, by rw [HT.out]⟩
              case measure => simp [intOf]; omega
          · have e : j = 8 := by omega
            subst e
            go_wp2
            go_round
            case rel => exact ⟨k + 1, by omega, by go_num, by rw [HS.out]⟩
            case measure => simp [intOf]; omega
    · have e : k = p.length := by omega
      have ht : p.take k = p := List.take_of_length_le (by omega)
      have hge : ¬ (k : Int) < (p.length : Int) := by omega
      rw [ht]
      clear ht e
      go_wp2
      try rw [Exit.noGoto_ret]
      go_ret
      exact ⟨rfl, Below.refl _ _⟩

set_option maxRecDepth 100000 in
set_option maxHeartbeats 1000000 in
theorem csum_any {v : Value} {p : List UInt8} {w : World} (hp : Rd w v p) (hl : p.length ≤ 1000000) :
    Calls Try.prog 9 #[v] w fun e w' => e = .returned (.int .u32 ((more 0 p : Nat) : Int)) ∧ Below w.heap.size w w' := by
  go_enter Try.func9, Try.ntmps9
  go_wp2_with fail
  refine (cmore_any (s := 0) rfl (by decide) hp hl).mono ?_
  rintro e w' ⟨rfl, b⟩
  go_wp2
  go_ret
  exact ⟨rfl, b⟩

end Go.Proofs.Ytpplniahjgdknaa.Gf
