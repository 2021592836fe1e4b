/-
  THE DOCUMENT's ANSWER FOR LAYER 2 (package aumbryref02) BY CONTRACT: 'At' and 'Eval'.
-/
import Derived.Test.YtjojcdikkgnfgaaPoRd
import Derived.Test.YtjojcdikkgnfgaaGfRefMul
namespace Go.Proofs.Ytjojcdikkgnfgaa.Gf
set_option linter.unusedVariables false
set_option linter.unusedSimpArgs false
open Go.RowKit

theorem rmu_at {w : World} (a b : UInt8) {x y : Int} (hx : x = ((a.toNat : Nat) : Int)) (hy : y = ((b.toNat : Nat) : Int)) :
    Calls Try.prog 32 #[.int .u8 x, .int .u8 y] w fun e w' => e = .returned (.int .u8 ((mu a b).toNat : Nat)) ∧ w' = w := by
  rw [mu_toNat]
  exact rmul_at a.toNat b.toNat hx hy (u8_lt a) (u8_lt b)

set_option maxRecDepth 100000 in
theorem at_any {v : Value} {p : List UInt8} {w : World} (hp : Rd w v p) (i : Nat) {x : Int} (hx : x = (i : Int)) :
    Calls Try.prog 30 #[v, .int .i64 x] w fun e w' => e = .returned (.int .u8 ((co p i).toNat : Nat)) ∧ w' = w := by
  subst hx
  rcases hp with ⟨a, c, rfl, rfl, hc, hn⟩ | ⟨b, off, c, hp0, rfl, h1, h2, h3, hpc⟩
  · have e : co [] i = 0 := co_nil i
    go_enter Try.func30, Try.ntmps30
    go_wp2
    go_ret
    exact ⟨by first | rfl | (rw [e]; rfl), rfl⟩
  · by_cases hi : i < p.length
    · have c1 := hpc i hi
      clear hpc
      go_enter Try.func30, Try.ntmps30
      go_wp2
      go_ret
      exact ⟨rfl, rfl⟩
    · have e : co p i = 0 := co_ge (by omega)
      clear hpc
      go_enter Try.func30, Try.ntmps30
      go_wp2
      go_ret
      exact ⟨by first | rfl | (rw [e]; rfl), rfl⟩

set_option maxRecDepth 100000 in
set_option maxHeartbeats 1000000 in
theorem reval_any {v : Value} {p : List UInt8} {w : World} (hp : Rd w v p) (x : UInt8) {y : Int} (hy : y = ((x.toNat : Nat) : Int)) :
    Calls Try.prog 24 #[v, .int .u8 y] w fun e w' => e = .returned (.int .u8 ((evP p x).toNat : Nat)) ∧ w' = w := by
  subst hy
  have hl := hp.len
  unfold maxLen at hl
  rcases hp with ⟨a, c, rfl, rfl, hc, hn⟩ | ⟨b, off, c, hp0, rfl, h1, h2, h3, hpc⟩
  · have e : evP [] x = 0 := rfl
    go_enter Try.func24, Try.ntmps24
    go_wp2
    go_loop [5, 6, 7] (fun o q i => o = .int .u8 0 ∧ i = .int .i64 0) (fun _ _ _ => 0)
    case atStart => exact ⟨rfl, rfl⟩
    case round =>
      obtain ⟨rfl, rfl⟩ := hrel
      go_wp2
      go_ret
      exact ⟨by first | rfl | (rw [e]; rfl), rfl⟩
  · go_enter Try.func24, Try.ntmps24
    go_wp2
    go_loop [5, 6, 7] (fun o q i => ∃ k : Nat, k ≤ p.length ∧ i = .int .i64 k ∧ o = .int .u8 ((ev k (co p) x).toNat : Nat) ∧ q = .int .u8 ((pwr x k).toNat : Nat)) (fun _ _ i => p.length - (intOf i).toNat)
    case atStart => exact ⟨0, by omega, rfl, rfl, rfl⟩
    case round =>
      obtain ⟨k, hk, rfl, rfl, rfl⟩ := hrel
      by_cases hlt : k < p.length
      · have c1 := hpc k hlt
        have hx : bits .xor .u8 (((ev k (co p) x).toNat : Nat) : Int) (((mu (co p k) (pwr x k)).toNat : Nat) : Int) = (((ev (k + 1) (co p) x).toNat : Nat) : Int) := xor_u8 _ _
        clear hpc
        go_wp2_with fail
        refine (rmu_at (co p k) (pwr x k) rfl rfl).mono ?_
        rintro e w' ⟨rfl, rfl⟩
        go_wp2_with fail
        refine (rmu_at (pwr x k) x rfl rfl).mono ?_
        rintro e w' ⟨rfl, rfl⟩
        go_wp2
        go_round
        case rel => exact ⟨k + 1, by omega, by go_num, rfl, rfl⟩
        case measure => simp [intOf]; omega
      · have e : k = p.length := by omega
        subst e
        clear hpc
        go_wp2
        go_ret
        exact ⟨rfl, rfl⟩

end Go.Proofs.Ytjojcdikkgnfgaa.Gf
