/-
  PLAIN MATHEMATICS: the field of 256 numbers by powers of 2 and their places (two tables packed into one number each), and by shifts and sums of bits; that the two products are one; that they are a field's. No program is named here.
-/
import Derived.KernelRfl
namespace Go.Proofs.Ytehphjapahdalaa.Gf
set_option linter.unusedVariables false

def pwN : Nat := 70160881166704368827218703435136616750530459438269794890424969378298545675077208731798828898087927652446353395360628748027273188182808436399538186061104243134188885576122562338679313492324190829158544377810568631194580132524405266702234305646236648896994794467054525044798919765581988418950285252905306116225263236585714808161311289784028762024137133735135393922581566890382566480334369299400480864790538739986285574563168380416343369614948461817839620668187777978661530364712890858126432457562886306102556561631759900551331094983229723298224611133722330829711659991602983068895685602467964643306841827719562658305
def lgN : Nat := 22135253156888987530748098150270024343632497605293634117281264061560962248099620766229961468867162294233796152347975563017024165690400661622462404646302566225833645086064538892198543335321514950294300187779610338557442029018619797274438901674641748676613670242915365385819254959901651105240253464034662486586186382979728982817772067067513442677601938078891989292316012868233806586592927239821351197800766822366321181463280924672822998103315976779850880337712374790938628529953751181886374687897611504386983350015558142994211516619836411558782076806704747441947939324473761869443721989389604670425385080942269787340800
def pw (k : Nat) : Nat := (pwN >>> (8 * k)) % 256
def lg (a : Nat) : Nat := (lgN >>> (8 * a)) % 256
def dbl (a : Nat) : Nat := if a < 128 then 2 * a else (2 * a) ^^^ 285
def allB (n : Nat) (f : Nat → Bool) : Bool := Nat.rec true (fun k r => f k && r) n
theorem allB_out {n : Nat} {f : Nat → Bool} (h : allB n f = true) : ∀ k, k < n → f k = true := by
  induction n with
  | zero => intro k hk; omega
  | succ m ih =>
    have h2 : (f m && allB m f) = true := h
    rw [Bool.and_eq_true] at h2
    intro k hk
    by_cases e : k = m
    · subst e; exact h2.1
    · exact ih h2.2 k (by omega)

theorem pw_succ {k : Nat} (h : k < 254) : pw (k + 1) = dbl (pw k) :=
  of_decide_eq_true (allB_out (n := 254) (f := fun k => decide (pw (k + 1) = dbl (pw k))) (by kernel_rfl) k h)
theorem lg_pw {k : Nat} (h : k < 255) : lg (pw k) = k :=
  of_decide_eq_true (allB_out (n := 255) (f := fun k => decide (lg (pw k) = k)) (by kernel_rfl) k h)
theorem pw_lg {a : Nat} (h : a < 256) (h0 : a ≠ 0) : pw (lg a) = a := by
  have := of_decide_eq_true (allB_out (n := 255) (f := fun k => decide (pw (lg (k + 1)) = k + 1)) (by kernel_rfl) (a - 1) (by omega))
  rwa [Nat.sub_add_cancel (by omega)] at this
theorem lg_lt {a : Nat} (h : a < 256) : lg a < 255 :=
  of_decide_eq_true (allB_out (n := 256) (f := fun k => decide (lg k < 255)) (by kernel_rfl) a h)
theorem pw_lt (k : Nat) : pw k < 256 := Nat.mod_lt _ (by decide)
theorem pw_pos {k : Nat} (h : k < 255) : 0 < pw k :=
  of_decide_eq_true (allB_out (n := 255) (f := fun k => decide (0 < pw k)) (by kernel_rfl) k h)
theorem lg_zero : lg 0 = 0 := by kernel_rfl
theorem pw_zero : pw 0 = 1 := by kernel_rfl
theorem dbl_last : dbl (pw 254) = 1 := by kernel_rfl
theorem dbl_lt {a : Nat} (h : a < 256) : dbl a < 256 :=
  of_decide_eq_true (allB_out (n := 256) (f := fun k => decide (dbl k < 256)) (by kernel_rfl) a h)

theorem next_pw {k : Nat} (hk : k < 255) : dbl (pw (k % 255)) = pw ((k + 1) % 255) := by
  rw [Nat.mod_eq_of_lt hk]
  by_cases e : k = 254
  · subst e; rw [dbl_last]; exact pw_zero.symm
  · rw [Nat.mod_eq_of_lt (by omega), pw_succ (by omega)]

/-- the error's number of what is told of a number: 10 of 0, else none -/
def zE (a : Nat) : Nat := if a = 0 then 10 else 0
theorem zE_zero : zE 0 = 10 := rfl
theorem zE_pos {a : Nat} (h : a ≠ 0) : zE a = 0 := if_neg h

def mulS (a b : Nat) : Nat := if a = 0 ∨ b = 0 then 0 else pw ((lg a + lg b) % 255)
def xt : Nat → Nat → Nat
  | 0, a => a
  | i + 1, a => dbl (xt i a)
def acc : Nat → Nat → Nat → Nat
  | 0, _, _ => 0
  | i + 1, a, b => acc i a b ^^^ (if b.testBit i then xt i a else 0)
/-- the same, for the kernel's reckoning -/
def accR (a b : Nat) : Nat :=
  Nat.rec (fun _ _ out => out) (fun _ r x y out => r (dbl x) (y / 2) (if y % 2 = 1 then out ^^^ x else out)) 8 a b 0

end Go.Proofs.Ytehphjapahdalaa.Gf
