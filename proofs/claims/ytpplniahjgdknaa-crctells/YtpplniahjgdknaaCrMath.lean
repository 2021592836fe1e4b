/-
  PLAIN MATHEMATICS: CRC-32C by its steps: linear, one to one, byte by byte. No program is named here.
-/
import Derived.Test.YtpplniahjgdknaaGfOwn
namespace Go.Proofs.Ytpplniahjgdknaa.Gf
set_option linter.unusedVariables false

def st (x : Nat) : Nat := if x % 2 = 1 then x / 2 ^^^ 2197175160 else x / 2
def stK : Nat → Nat → Nat
  | 0, x => x
  | k + 1, x => st (stK k x)
/-- a step by a byte -/
def sb (x b : Nat) : Nat := stK 8 (x ^^^ b)
def run : Nat → List UInt8 → Nat
  | x, [] => x
  | x, b :: p => run (sb x b.toNat) p
def nt (x : Nat) : Nat := 4294967295 - x
def more (s : Nat) (p : List UInt8) : Nat := nt (run (nt s) p)

theorem xor32 {a b : Nat} (ha : a < 4294967296) (hb : b < 4294967296) : a ^^^ b < 4294967296 := Nat.xor_lt_two_pow (n := 32) ha hb
theorem nt_lt (x : Nat) : nt x < 4294967296 := by unfold nt; omega
theorem nt_nt {x : Nat} (h : x < 4294967296) : nt (nt x) = x := by unfold nt; omega
theorem nt_inj {x y : Nat} (hx : x < 4294967296) (hy : y < 4294967296) (h : nt x = nt y) : x = y := by unfold nt at h; omega
theorem nt_xor {x : Nat} (h : x < 4294967296) : nt x = x ^^^ 4294967295 := by
  have e := congrArg BitVec.toNat (BitVec.xor_allOnes (x := BitVec.ofNat 32 x))
  rw [BitVec.toNat_xor, BitVec.toNat_not, BitVec.toNat_allOnes, BitVec.toNat_ofNat, Nat.mod_eq_of_lt (by simpa using h)] at e
  unfold nt
  rw [show (4294967295 : Nat) = 2 ^ 32 - 1 from rfl, e]
theorem st_lt {x : Nat} (h : x < 4294967296) : st x < 4294967296 := by
  unfold st
  split
  · exact xor32 (by omega) (by decide)
  · omega
theorem stK_lt {x : Nat} (h : x < 4294967296) : ∀ k, stK k x < 4294967296
  | 0 => h
  | k + 1 => st_lt (stK_lt h k)
theorem half_xor (x y : Nat) : (x ^^^ y) / 2 = x / 2 ^^^ y / 2 := by
  have h := Nat.shiftRight_xor_distrib (a := x) (b := y) (i := 1)
  simpa [Nat.shiftRight_eq_div_pow] using h
theorem odd_xor (x y : Nat) : (x ^^^ y) % 2 = (x % 2 + y % 2) % 2 := by
  have h := Nat.testBit_xor x y 0
  rw [Nat.testBit_zero, Nat.testBit_zero, Nat.testBit_zero] at h
  rcases Nat.mod_two_eq_zero_or_one x with hx | hx <;> rcases Nat.mod_two_eq_zero_or_one y with hy | hy <;> rcases Nat.mod_two_eq_zero_or_one (x ^^^ y) with hz | hz <;> rw [hx, hy, hz] at h <;> first | (simp at h; done) | (rw [hx, hy, hz])
theorem xo_left (a b c : Nat) : a ^^^ (b ^^^ c) = b ^^^ (a ^^^ c) := by rw [← Nat.xor_assoc, Nat.xor_comm a b, Nat.xor_assoc]
theorem st_xor (x y : Nat) : st (x ^^^ y) = st x ^^^ st y := by
  unfold st
  rw [odd_xor, half_xor]
  rcases Nat.mod_two_eq_zero_or_one x with hx | hx <;> rcases Nat.mod_two_eq_zero_or_one y with hy | hy
  · rw [hx, hy]; simp
  · rw [hx, hy]; simp [Nat.xor_assoc]
  · rw [hx, hy]; simp only [Nat.add_zero, Nat.reduceMod, ↓reduceIte, Nat.zero_ne_one]
    rw [Nat.xor_assoc, Nat.xor_assoc, Nat.xor_comm 2197175160]
  · rw [hx, hy]
    simp only [Nat.reduceAdd, Nat.reduceMod, ↓reduceIte, Nat.zero_ne_one]
    rw [Nat.xor_assoc, xo_left 2197175160, Nat.xor_self, Nat.xor_zero]
theorem stK_xor (x y : Nat) : ∀ k, stK k (x ^^^ y) = stK k x ^^^ stK k y
  | 0 => rfl
  | k + 1 => by rw [stK, stK_xor x y k, st_xor]; rfl
theorem st_zero {x : Nat} (hx : x < 4294967296) (h : st x = 0) : x = 0 := by
  unfold st at h
  split at h
  · have : x / 2 = 2197175160 := by
      have e := congrArg (· ^^^ 2197175160) h
      simp only [Nat.xor_assoc, Nat.xor_self, Nat.xor_zero, Nat.zero_xor] at e
      exact e
    omega
  · omega
theorem stK_zero {x : Nat} (hx : x < 4294967296) : ∀ k, stK k x = 0 → x = 0
  | 0, h => h
  | k + 1, h => stK_zero hx k (st_zero (stK_lt hx k) h)
theorem xor_zero_eq {a b : Nat} (h : a ^^^ b = 0) : a = b := by
  have e := congrArg (· ^^^ b) h
  simp only [Nat.xor_assoc, Nat.xor_self, Nat.xor_zero, Nat.zero_xor] at e
  exact e
theorem byte32 (b : UInt8) : b.toNat < 4294967296 := by have := b.toNat_lt; omega
theorem sb_lt {x : Nat} (hx : x < 4294967296) (b : UInt8) : sb x b.toNat < 4294967296 := stK_lt (xor32 hx (byte32 b)) 8
theorem sb_xor (x y b c : Nat) : sb (x ^^^ y) (b ^^^ c) = sb x b ^^^ sb y c := by
  unfold sb
  rw [← stK_xor]
  congr 1
  rw [Nat.xor_assoc, Nat.xor_assoc, xo_left y]
theorem sb_inj {x y : Nat} (hx : x < 4294967296) (hy : y < 4294967296) (b : UInt8) (h : sb x b.toNat = sb y b.toNat) : x = y := by
  refine xor_zero_eq (stK_zero (xor32 hx hy) 8 ?_)
  have e := sb_xor x y b.toNat b.toNat
  rw [h, Nat.xor_self, Nat.xor_self] at e
  unfold sb at e
  rw [Nat.xor_zero] at e
  exact e
theorem sb_byte {x : Nat} (hx : x < 4294967296) {b c : UInt8} (h : sb x b.toNat = sb x c.toNat) : b = c := by
  have e := sb_xor x x b.toNat c.toNat
  rw [h, Nat.xor_self, Nat.xor_self] at e
  unfold sb at e
  rw [Nat.zero_xor] at e
  have := xor_zero_eq (stK_zero (xor32 (byte32 b) (byte32 c)) 8 e)
  exact UInt8.toNat_inj.1 this
theorem run_lt {x : Nat} (hx : x < 4294967296) (p : List UInt8) : run x p < 4294967296 := by
  induction p generalizing x with
  | nil => exact hx
  | cons b p ih => exact ih (sb_lt hx b)
theorem run_append (x : Nat) (p q : List UInt8) : run x (p ++ q) = run (run x p) q := by
  induction p generalizing x with
  | nil => rfl
  | cons b p ih => exact ih _
theorem run_inj {x y : Nat} (hx : x < 4294967296) (hy : y < 4294967296) (p : List UInt8) (h : run x p = run y p) : x = y := by
  induction p generalizing x y with
  | nil => exact h
  | cons b p ih => exact sb_inj hx hy b (ih (sb_lt hx b) (sb_lt hy b) h)
theorem run_xor (x y : Nat) (p q : List UInt8) (h : p.length = q.length) : run (x ^^^ y) (List.zipWith (· ^^^ ·) p q) = run x p ^^^ run y q := by
  induction p generalizing x y q with
  | nil =>
    cases q with
    | nil => rfl
    | cons _ _ => simp at h
  | cons b p ih =>
    cases q with
    | nil => simp at h
    | cons c q =>
      show run (sb (x ^^^ y) (b ^^^ c).toNat) (List.zipWith (· ^^^ ·) p q) = _
      rw [UInt8.toNat_xor, sb_xor]
      exact ih _ _ _ (by simpa using h)
theorem run_take (x : Nat) (p : List UInt8) {k : Nat} (h : k < p.length) : run x (p.take (k + 1)) = sb (run x (p.take k)) p[k].toNat := by
  rw [List.take_succ_eq_append_getElem h, run_append]; rfl
theorem more_lt (s : Nat) (p : List UInt8) : more s p < 4294967296 := nt_lt _
theorem more_nil {s : Nat} (h : s < 4294967296) : more s [] = s := nt_nt h
theorem more_append {s : Nat} (h : s < 4294967296) (p q : List UInt8) : more s (p ++ q) = more (more s p) q := by
  unfold more
  rw [run_append, nt_nt (run_lt (nt_lt _) _)]
theorem more_inj {s t : Nat} (hs : s < 4294967296) (ht : t < 4294967296) (p : List UInt8) (h : more s p = more t p) : s = t :=
  nt_inj hs ht (run_inj (nt_lt _) (nt_lt _) p (nt_inj (run_lt (nt_lt _) _) (run_lt (nt_lt _) _) h))
/-- one byte that is another one is told -/
theorem more_tells {p q : List UInt8} {b c : UInt8} {s : Nat} (hbc : b ≠ c) : more s (p ++ b :: q) ≠ more s (p ++ c :: q) := by
  intro h
  have h1 := nt_inj (run_lt (nt_lt _) _) (run_lt (nt_lt _) _) h
  rw [run_append, run_append] at h1
  have hx : run (nt s) p < 4294967296 := run_lt (nt_lt _) _
  exact hbc (sb_byte hx (run_inj (sb_lt hx b) (sb_lt hx c) q h1))
theorem nt_nt_xor {x y : Nat} (hx : x < 4294967296) (hy : y < 4294967296) : nt x ^^^ nt y = x ^^^ y := by
  rw [nt_xor hx, nt_xor hy, Nat.xor_assoc, Nat.xor_comm y, ← Nat.xor_assoc 4294967295, Nat.xor_self, Nat.zero_xor]
/-- check sums are linear but for their ends -/
theorem more_even {p q : List UInt8} (h : p.length = q.length) : more 0 p ^^^ more 0 q = more 0 (List.zipWith (· ^^^ ·) p q) ^^^ more 0 (List.replicate p.length 0) := by
  unfold more
  have r : ∀ l : List UInt8, run (nt 0) l < 4294967296 := fun l => run_lt (nt_lt _) _
  rw [nt_nt_xor (r _) (r _), nt_nt_xor (r _) (r _), ← run_xor _ _ _ _ h, ← run_xor _ _ _ _ (by simp [h])]
  congr 1
  refine List.ext_getElem (by simp [h]) fun i h1 h2 => ?_
  simp

end Go.Proofs.Ytpplniahjgdknaa.Gf
