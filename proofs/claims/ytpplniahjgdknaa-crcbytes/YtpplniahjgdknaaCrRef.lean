/-
  THE DOCUMENT's ANSWER FOR LAYER 4 (package aumbryref04) BY CONTRACT.
-/
import Derived.Test.YtpplniahjgdknaaCrMath
import Derived.Test.YtpplniahjgdknaaPoRd
namespace Go.Proofs.Ytpplniahjgdknaa.Gf
set_option linter.unusedVariables false
set_option linter.unusedSimpArgs false
open Go.RowKit

theorem val_int32 {k : IntKind} {a b : Int} (h : a = b) : Value.int k a = .int k b := by rw [h]
theorem not_u32 {s : Nat} (hs : s < 4294967296) : bits .xor .u32 IntKind.u32.max (s : Int) = ((nt s : Nat) : Int) := by
  rw [show IntKind.u32.max = ((4294967295 : Nat) : Int) from rfl, u32_xor_nat _ _ (by decide) hs, nt_xor hs, Nat.xor_comm]
theorem bit0_u32 {s : Nat} (hs : s < 4294967296) : (bits .and .u32 (s : Int) 1 == 1) = decide (s % 2 = 1) := by
  rw [show (1 : Int) = ((1 : Nat) : Int) from rfl, u32_and_nat s 1 hs (by decide), Bool.eq_iff_iff, beq_iff_eq, decide_eq_true_eq, Nat.and_one_is_mod]
  omega
theorem st_odd {s : Nat} (hs : s < 4294967296) (h : s % 2 = 1) : bits .xor .u32 ((s : Int) / 2) 2197175160 = ((st s : Nat) : Int) := by
  rw [show (s : Int) / 2 = ((s / 2 : Nat) : Int) by omega, show (2197175160 : Int) = ((2197175160 : Nat) : Int) from rfl, u32_xor_nat _ _ (by omega) (by decide)]
  unfold st; rw [if_pos h]
theorem st_even {s : Nat} (h : ¬ s % 2 = 1) : (s : Int) / 2 = ((st s : Nat) : Int) := by
  unfold st; rw [if_neg h]; omega

set_option maxRecDepth 100000 in
set_option maxHeartbeats 1000000 in
theorem rstep_any (x b : Nat) (w : World) (hx : x < 4294967296) (hb : b < 256) :
    Calls Try.prog 14 #[.int .u32 (x : Int), .int .u8 (b : Int)] w fun e w' => e = .returned (.int .u32 ((sb x b : Nat) : Int)) ∧ w' = w := by
  have E0 := u32_xor_nat x b hx (by omega)
  have hy := xor32 hx (show b < 4294967296 by omega)
  have H8 : Hid (sb x b = stK 8 (x ^^^ b)) := rfl
  obtain ⟨y, ey⟩ : ∃ y, Hid (y = x ^^^ b) := ⟨_, rfl⟩
  rw [← ey.out] at hy E0 H8
  go_enter Try.func14, Try.ntmps14
  go_wp2
  go_loop [0, 5] (fun o i => ∃ k : Nat, k ≤ 8 ∧ i = .int .i64 k ∧ o = .int .u32 ((stK k y : Nat) : Int)) (fun _ i => 8 - (intOf i).toNat)
  case atStart => exact ⟨0, by omega, rfl, rfl⟩
  case round =>
    obtain ⟨k, hk, rfl, rfl⟩ := hrel
    have hs := stK_lt hy k
    have HS : Hid (stK (k + 1) y = st (stK k y)) := rfl
    obtain ⟨s, es⟩ : ∃ s, Hid (s = stK k y) := ⟨_, rfl⟩
    by_cases hlt : k < 8
    · rw [← es.out] at hs HS ⊢
      by_cases h2 : s % 2 = 1
      · have d := bit0_u32 hs
        rw [decide_eq_true h2] at d
        have X : Hid (bits .xor .u32 ((s : Int) / 2) 2197175160 = ((stK (k + 1) y : Nat) : Int)) := by show _ = _; rw [HS.out]; exact st_odd hs h2
        go_wp2
        go_round
        case rel => exact ⟨k + 1, by omega, by go_num, val_int32 X.out⟩
        case measure => simp [intOf]; omega
      · have d := bit0_u32 hs
        rw [decide_eq_false h2] at d
        have X : Hid ((s : Int) / 2 = ((stK (k + 1) y : Nat) : Int)) := by show _ = _; rw [HS.out]; exact st_even h2
        go_wp2
        go_round
        case rel => exact ⟨k + 1, by omega, by go_num, val_int32 X.out⟩
        case measure => simp [intOf]; omega
    · have e : k = 8 := by omega
      subst e
      go_wp2
      go_ret
      exact ⟨by rw [H8.out]; rfl, rfl⟩
theorem rstep_at {w : World} (x : Nat) (b : UInt8) {u v : Int} (hu : u = (x : Int)) (hv : v = ((b.toNat : Nat) : Int)) (hx : x < 4294967296) :
    Calls Try.prog 14 #[.int .u32 u, .int .u8 v] w fun e w' => e = .returned (.int .u32 ((sb x b.toNat : Nat) : Int)) ∧ w' = w := by
  subst hu hv
  exact rstep_any x b.toNat w hx b.toNat_lt

set_option maxRecDepth 100000 in
set_option maxHeartbeats 1000000 in
theorem rmore_any {s : Nat} {v : Value} {p : List UInt8} {w : World} {u : Int} (hu : u = (s : Int)) (hs : s < 4294967296) (hp : Rd w v p) (hl : p.length ≤ 1000000) :
    Calls Try.prog 12 #[.int .u32 u, v] w fun e w' => e = .returned (.int .u32 ((more s p : Nat) : Int)) ∧ w' = w := by
  subst hu
  have N0 := not_u32 hs
  have hn := nt_lt s
  have HM : Hid (more s p = nt (run (nt s) p)) := rfl
  have N1 := not_u32 (run_lt hn p)
  rw [← HM.out] at N1
  obtain ⟨y, ey⟩ : ∃ y, Hid (y = nt s) := ⟨_, rfl⟩
  rw [← ey.out] at N0 hn N1
  rcases hp with ⟨a, c, rfl, rfl, _⟩ | ⟨b, o, c, hp0, rfl, h1, h2, h3, hpc⟩
  · go_enter Try.func12, Try.ntmps12
    go_wp2
    go_loop [5, 6] (fun o i => i = .int .i64 0 ∧ o = .int .u32 (y : Int)) (fun _ _ => 0)
    case atStart => exact ⟨rfl, rfl⟩
    case round =>
      obtain ⟨rfl, rfl⟩ := hrel
      have N2 : bits .xor .u32 IntKind.u32.max (y : Int) = ((more s [] : Nat) : Int) := N1
      clear N1
      go_wp2
      go_ret
      exact ⟨rfl, rfl⟩
  · go_enter Try.func12, Try.ntmps12
    go_wp2
    go_loop [5, 6] (fun x i => ∃ k : Nat, k ≤ p.length ∧ i = .int .i64 k ∧ x = .int .u32 ((run y (p.take k) : Nat) : Int)) (fun _ i => p.length - (intOf i).toNat)
    case atStart => exact ⟨0, by omega, rfl, rfl⟩
    case round =>
      obtain ⟨k, hk, rfl, rfl⟩ := hrel
      have hr := run_lt hn (p.take k)
      by_cases hlt : k < p.length
      · have hlt' : (k : Int) < (p.length : Int) := by omega
        have c1 := hpc k hlt
        have HS : Hid (run y (p.take (k + 1)) = sb (run y (p.take k)) (co p k).toNat) := by show _ = _; rw [run_take y p hlt, co_lt hlt]
        clear hpc
        obtain ⟨z, ez⟩ : ∃ z, Hid (z = run y (p.take k)) := ⟨_, rfl⟩
        rw [← ez.out] at hr HS ⊢
        go_wp2_with fail
        refine (rstep_at z (co p k) rfl rfl hr).mono ?_
        rintro e w' ⟨rfl, rfl⟩
        go_wp2
        go_round
        case rel => exact ⟨k + 1, by omega, by go_num, by rw [HS.out]⟩
        case measure => simp [intOf]; omega
      · have e : k = p.length := by omega
        have ht : p.take k = p := List.take_of_length_le (by omega)
        have hge : ¬ (k : Int) < (p.length : Int) := by omega
        rw [ht]
        clear hpc ht e
        go_wp2
        go_ret
        exact ⟨rfl, rfl⟩

set_option maxRecDepth 100000 in
set_option maxHeartbeats 1000000 in
theorem rsum_any {v : Value} {p : List UInt8} {w : World} (hp : Rd w v p) (hl : p.length ≤ 1000000) :
    Calls Try.prog 10 #[v] w fun e w' => e = .returned (.int .u32 ((more 0 p : Nat) : Int)) ∧ w' = w := by
  go_enter Try.func10, Try.ntmps10
  go_wp2_with fail
  refine (rmore_any (s := 0) rfl (by decide) hp hl).mono ?_
  rintro e w' ⟨rfl, rfl⟩
  go_wp2
  go_ret
  exact ⟨rfl, rfl⟩

end Go.Proofs.Ytpplniahjgdknaa.Gf
