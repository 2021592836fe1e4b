/- TEXTS JOINED: CrMath, CrAwM, CrLawM, CrNt, CrCode. -/
import Derived.Test.YtclieefpnbdbjaaGreatRome1
import Derived.Deep.AppendLies
import Derived.WalkMore
namespace Go.Proofs.YtclieefpnbdbjaaGreat.Gf
set_option linter.unusedVariables false
def st (x : Nat) : Nat := if x % 2 = 1 then x / 2 ^^^ 2197175160 else x / 2
def stK : Nat → Nat → Nat
  | 0, x => x
  | k + 1, x => st (stK k x)
/-- a step by a byte -/
def sb (x b : Nat) : Nat := stK 8 (x ^^^ b)
def run : Nat → List UInt8 → Nat
  | x, [] => x
  | x, b :: p => run (sb x b.toNat) p
def nt (x : Nat) : Nat := 4294967295 - x
def more (s : Nat) (p : List UInt8) : Nat := nt (run (nt s) p)
theorem xor32 {a b : Nat} (ha : a < 4294967296) (hb : b < 4294967296) : a ^^^ b < 4294967296 := Nat.xor_lt_two_pow (n := 32) ha hb
theorem nt_lt (x : Nat) : nt x < 4294967296 := by unfold nt; omega
theorem nt_xor {x : Nat} (h : x < 4294967296) : nt x = x ^^^ 4294967295 := by
  have e := congrArg BitVec.toNat (BitVec.xor_allOnes (x := BitVec.ofNat 32 x))
  rw [BitVec.toNat_xor, BitVec.toNat_not, BitVec.toNat_allOnes, BitVec.toNat_ofNat, Nat.mod_eq_of_lt (by simpa using h)] at e
  unfold nt
  rw [show (4294967295 : Nat) = 2 ^ 32 - 1 from rfl, e]
theorem st_lt {x : Nat} (h : x < 4294967296) : st x < 4294967296 := by
  unfold st
  split
  · exact xor32 (by omega) (by decide)
  · omega
theorem stK_lt {x : Nat} (h : x < 4294967296) : ∀ k, stK k x < 4294967296
  | 0 => h
  | k + 1 => st_lt (stK_lt h k)
theorem byte32 (b : UInt8) : b.toNat < 4294967296 := by have := b.toNat_lt; omega
theorem sb_lt {x : Nat} (hx : x < 4294967296) (b : UInt8) : sb x b.toNat < 4294967296 := stK_lt (xor32 hx (byte32 b)) 8
theorem run_lt {x : Nat} (hx : x < 4294967296) (p : List UInt8) : run x p < 4294967296 := by
  induction p generalizing x with
  | nil => exact hx
  | cons b p ih => exact ih (sb_lt hx b)
theorem run_append (x : Nat) (p q : List UInt8) : run x (p ++ q) = run (run x p) q := by
  induction p generalizing x with
  | nil => rfl
  | cons b p ih => exact ih _
theorem run_take (x : Nat) (p : List UInt8) {k : Nat} (h : k < p.length) : run x (p.take (k + 1)) = sb (run x (p.take k)) p[k].toNat := by
  rw [List.take_succ_eq_append_getElem h, run_append]; rfl
end Go.Proofs.YtclieefpnbdbjaaGreat.Gf

namespace Go.Proofs.YtclieefpnbdbjaaGreat.Gf
set_option linter.unusedVariables false
set_option linter.unusedSimpArgs false
open Go.RowKit
theorem Below.step {w w1 w2 : World} (h : Below w.heap.size w w1) (k : Below w1.heap.size w1 w2) : Below w.heap.size w w2 := h.trans (k.mono h.size)
theorem rd_nil0 {w : World} : Rd w (.slice none 0 0) [] := Or.inl ⟨none, 0, rfl, rfl, Nat.zero_le _, fun _ => rfl⟩
end Go.Proofs.YtclieefpnbdbjaaGreat.Gf

namespace Go.Proofs.YtclieefpnbdbjaaGreat.Gf
set_option linter.unusedVariables false
set_option linter.unusedSimpArgs false
open Go.RowKit
theorem own_new (w : World) (e : TypeId) : (w.alloc (.cells #[] e)).ownsRow w.heap.size e 1 (.slice (some ⟨w.heap.size, 0, none⟩) 0 0) 0 [] := World.ownsRow_made w #[] 0 (Nat.le_refl _) (Nat.zero_le _) rfl
theorem rd_one {w : World} {N e : Nat} {v : Value} {p : List UInt8} (h : w.ownsRow N e 1 v (0 + p.length) ([] ++ p.map vb)) : Rd w v p := by
  refine Rd.owned (base := N) (e := e) ?_
  rw [Nat.zero_add, List.nil_append] at h
  exact h
end Go.Proofs.YtclieefpnbdbjaaGreat.Gf

namespace Go.Proofs.YtclieefpnbdbjaaGreat.Gf
set_option linter.unusedVariables false
set_option linter.unusedSimpArgs false
open Go.RowKit
theorem not_u32 {s : Nat} (hs : s < 4294967296) : bits .xor .u32 IntKind.u32.max (s : Int) = ((nt s : Nat) : Int) := by
  rw [show IntKind.u32.max = ((4294967295 : Nat) : Int) from rfl, u32_xor_nat _ _ (by decide) hs, nt_xor hs, Nat.xor_comm]
theorem val_int32 {k : IntKind} {a b : Int} (h : a = b) : Value.int k a = .int k b := by rw [h]
theorem st_odd {s : Nat} (hs : s < 4294967296) (h : s % 2 = 1) : bits .xor .u32 ((s : Int) / 2) 2197175160 = ((st s : Nat) : Int) := by
  rw [show (s : Int) / 2 = ((s / 2 : Nat) : Int) by omega, show (2197175160 : Int) = ((2197175160 : Nat) : Int) from rfl, u32_xor_nat _ _ (by omega) (by decide)]
  unfold st; rw [if_pos h]
theorem st_even {s : Nat} (h : ¬ s % 2 = 1) : (s : Int) / 2 = ((st s : Nat) : Int) := by
  unfold st; rw [if_neg h]; omega
end Go.Proofs.YtclieefpnbdbjaaGreat.Gf

namespace Go.Proofs.YtclieefpnbdbjaaGreat.Gf
set_option linter.unusedVariables false
set_option linter.unusedSimpArgs false
open Go.RowKit
theorem stK_add (a b x : Nat) : stK (a + b) x = stK a (stK b x) := by
  induction a with
  | zero => rw [Nat.zero_add]; rfl
  | succ a ih => rw [show a + 1 + b = (a + b) + 1 by omega]; show st (stK (a + b) x) = st (stK a (stK b x)); rw [ih]
theorem stK_even {t : Nat} : ∀ m, t % 2 ^ m = 0 → stK m t = t / 2 ^ m
  | 0, _ => by simp [stK]
  | m + 1, h => by
    have h1 : t % 2 ^ m = 0 := by
      have e : t % 2 ^ (m + 1) % 2 ^ m = t % 2 ^ m := Nat.mod_mod_of_dvd t ⟨2, by rw [Nat.pow_succ]⟩
      rw [h] at e
      simpa using e.symm
    show st (stK m t) = _
    rw [stK_even m h1]
    have h2 : t / 2 ^ m % 2 = 0 := by
      rw [Nat.pow_succ, Nat.mod_mul] at h
      have := Nat.two_pow_pos m
      rcases Nat.eq_zero_or_pos (t / 2 ^ m % 2) with h3 | h3
      · exact h3
      · have := Nat.mul_pos this h3
        omega
    unfold st
    rw [if_neg (by omega), Nat.div_div_eq_div_mul, Nat.pow_succ]
/-- where no 1 is left among the lowest bits nothing but shifts is left to do -/
theorem stK_early {q j t : Nat} (hj : j < 8) (ht : t = stK j q) (h : t % 256 * 2 ^ j % 256 = 0) : t / 2 ^ (8 - j) = stK 8 q := by
  have e : stK 8 q = stK (8 - j) t := by rw [ht, ← stK_add]; congr 1; omega
  rw [e, stK_even]
  have h1 : t * 2 ^ j % 256 = 0 := by rw [Nat.mod_mul_mod] at h; exact h
  have h2 : (256 : Nat) = 2 ^ (8 - j) * 2 ^ j := by rw [← Nat.pow_add, show 8 - j + j = 8 by omega]
  rw [h2, Nat.mul_mod_mul_right] at h1
  rcases Nat.mul_eq_zero.1 h1 with h3 | h3
  · exact h3
  · exact absurd h3 (Nat.pos_iff_ne_zero.1 (Nat.two_pow_pos j))
theorem bit0_even {s : Nat} (hs : s < 4294967296) : (bits .and .u32 (s : Int) 1 == 0) = decide (¬ s % 2 = 1) := by
  rw [show (1 : Int) = ((1 : Nat) : Int) from rfl, u32_and_nat s 1 hs (by decide), Bool.eq_iff_iff, beq_iff_eq, decide_eq_true_eq, Nat.and_one_is_mod]
  omega
set_option maxRecDepth 100000 in
set_option maxHeartbeats 1000000 in
theorem cshifted_any {s : Nat} {w : World} {u : Int} (hu : u = (s : Int)) (hs : s < 4294967296) :
    Calls Tryz.prog 198 #[.int .u32 u] w fun e w' => e = .returned (.int .u32 ((st s : Nat) : Int)) ∧ w' = w := by
  subst hu
  have d := bit0_even hs
  by_cases h2 : s % 2 = 1
  · rw [decide_eq_false (by omega)] at d
    have X : Hid (bits .xor .u32 ((s : Int) / 2) 2197175160 = ((st s : Nat) : Int)) := st_odd hs h2
    go_enter Tryz.func198, Tryz.ntmps198
    go_wp2
    go_ret
    exact ⟨by rw [X.out]; rfl, rfl⟩
  · rw [decide_eq_true h2] at d
    have X : Hid ((s : Int) / 2 = ((st s : Nat) : Int)) := st_even h2
    go_enter Tryz.func198, Tryz.ntmps198
    go_wp2
    go_ret
    exact ⟨by rw [X.out]; rfl, rfl⟩
set_option maxRecDepth 100000 in
set_option maxHeartbeats 1000000 in
theorem cmore_any {s : Nat} {v : Value} {p : List UInt8} {w : World} {u : Int} (hu : u = (s : Int)) (hs : s < 4294967296) (hp : Rd w v p) (hl : p.length ≤ 1000000) :
    Calls Tryz.prog 181 #[.int .u32 u, v] w fun e w' => e = .returned (.int .u32 ((more s p : Nat) : Int)) ∧ Below w.heap.size w w' := by
  subst hu
  have N0 := not_u32 hs
  have hn := nt_lt s
  have HM : Hid (more s p = nt (run (nt s) p)) := rfl
  have N1 := not_u32 (run_lt hn p)
  rw [← HM.out] at N1
  obtain ⟨y, ey⟩ : ∃ y, Hid (y = nt s) := ⟨_, rfl⟩
  rw [← ey.out] at N0 hn N1
  obtain ⟨a, c, rfl⟩ := hp.form
  go_enter Tryz.func181, Tryz.ntmps181
  go_wp2
  go_step3
  go_wp2
  go_step3
  go_wp2
  go_loop [5, 13] (fun x i => ∃ k : Nat, k ≤ p.length ∧ i = .int .i64 k ∧ x = .int .u32 ((run y (p.take k) : Nat) : Int)) (fun _ i => p.length - (intOf i).toNat)
  case atStart => exact ⟨0, by omega, rfl, rfl⟩
  case round =>
    obtain ⟨k, hk, rfl, rfl⟩ := hrel
    have hr := run_lt hn (p.take k)
    by_cases hlt : k < p.length
    · have hlt' : (k : Int) < (p.length : Int) := by omega
      rcases hp with ⟨a, c, rfl, _⟩ | ⟨b, o, c, hp0, e0, h1, h2, h3, hpc⟩
      · simp at hlt
      · simp at e0
        obtain ⟨rfl, rfl⟩ := e0
        have c1 := hpc k hlt
        have HS : Hid (run y (p.take (k + 1)) = stK 8 (run y (p.take k) ^^^ (co p k).toNat)) := by show _ = _; rw [run_take y p hlt, co_lt hlt]; rfl
        clear hpc
        obtain ⟨z, ez⟩ : ∃ z, Hid (z = run y (p.take k)) := ⟨_, rfl⟩
        rw [← ez.out] at hr HS ⊢
        have X0 := u32_xor_nat z (co p k).toNat hr (byte32 _)
        have hq := xor32 hr (byte32 (co p k))
        have m0 : (((co p k).toNat : Nat) : Int) % 4294967296 = (((co p k).toNat : Nat) : Int) := by have := (co p k).toNat_lt; omega
        obtain ⟨q, eq⟩ : ∃ q, Hid (q = z ^^^ (co p k).toNat) := ⟨_, rfl⟩
        rw [← eq.out] at X0 hq HS
        go_wp2
        go_loop [5, 8, 21] (fun x l i => ∃ j : Nat, j ≤ 8 ∧ i = .int .i64 j ∧ x = .int .u32 ((stK j q : Nat) : Int)) (fun _ _ i => 8 - (intOf i).toNat)
        case atStart => exact ⟨0, by omega, rfl, rfl⟩
        case round =>
          obtain ⟨j, hj, rfl, rfl⟩ := hrel
          have ht := stK_lt hq j
          have HT : Hid (stK (j + 1) q = st (stK j q)) := rfl
          obtain ⟨t, et⟩ : ∃ t, Hid (t = stK j q) := ⟨_, rfl⟩
          by_cases hj8 : j < 8
          · rw [← et.out] at ht HT ⊢
            by_cases hz : t % 256 * 2 ^ j % 256 = 0
            · have D : ((t : Int) % 256 * 2 ^ j % 256 == 0) = true := by rw [beq_iff_eq]; exact_mod_cast hz
              have HE : Hid (t / 2 ^ (8 - j) = stK 8 q) := stK_early hj8 et.out hz
              go_wp2
              exact ⟨⟨k + 1, by omega, by go_num, val_int32 (by rw [HS.out, ← HE.out]; norm_cast)⟩, by simp [intOf]; omega⟩
            · have D : ((t : Int) % 256 * 2 ^ j % 256 == 0) = false := by rw [beq_eq_false_iff_ne]; exact_mod_cast hz
              go_wp2_with fail
              refine (cshifted_any rfl ht).mono ?_
              rintro e w' ⟨rfl, rfl⟩
              go_wp2
              go_round
              case rel => exact ⟨j + 1, by omega, by go_num, by rw [HT.out]⟩
              case measure => simp [intOf]; omega
          · have e : j = 8 := by omega
            subst e
            go_wp2
            go_round
            case rel => exact ⟨k + 1, by omega, by go_num, by rw [HS.out]⟩
            case measure => simp [intOf]; omega
    · have e : k = p.length := by omega
      have ht : p.take k = p := List.take_of_length_le (by omega)
      have hge : ¬ (k : Int) < (p.length : Int) := by omega
      rw [ht]
      clear ht e
      go_wp2
      try rw [Exit.noGoto_ret]
      go_ret
      exact ⟨rfl, Below.refl _ _⟩
set_option maxRecDepth 100000 in
set_option maxHeartbeats 1000000 in
theorem csum_any {v : Value} {p : List UInt8} {w : World} (hp : Rd w v p) (hl : p.length ≤ 1000000) :
    Calls Tryz.prog 154 #[v] w fun e w' => e = .returned (.int .u32 ((more 0 p : Nat) : Int)) ∧ Below w.heap.size w w' := by
  go_enter Tryz.func154, Tryz.ntmps154
  go_wp2_with fail
  refine (cmore_any (s := 0) rfl (by decide) hp hl).mono ?_
  rintro e w' ⟨rfl, b⟩
  go_wp2
  go_ret
  exact ⟨rfl, b⟩
end Go.Proofs.YtclieefpnbdbjaaGreat.Gf
