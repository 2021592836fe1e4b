/- TEXTS JOINED: GfOwn, GfMath, GfAlg, GfPut, GfNew, GfPowMath, GfRefMath, GfRefMul, GfRefInv, GfRefDiv, GfMul, GfPow, GfDiv, PoSum, GfQuiet, PoConv, PoMk, PoRd, PoMulMath. -/
import Derived.Test.YtddnfhfangfgeaaGreatRows
import Derived.WalkKit
import Derived.Deep.QuietTactic
import Derived.BigQuiet
import Derived.WalkLawsBesides
import Derived.KernelRfl
import Derived.WalkSpells
import Derived.OpenShut
namespace Go.Proofs.YtddnfhfangfgeaaGreat.Gf
set_option linter.unusedVariables false
open Go.RowKit
theorem ret_int {k : IntKind} {a b : Int} (h : a = b) : Ending.returned (.int k a) = .returned (.int k b) := by rw [h]
structure Own (w w' : World) : Prop where
  below : Below w.heap.size w w'
  frozen : ∀ a, w'.frozen? a = w.frozen? a
theorem Own.refl (w : World) : Own w w := ⟨Below.refl _ _, fun _ => rfl⟩
theorem Own.trans {a b c : World} (h : Own a b) (k : Own b c) : Own a c :=
  ⟨h.below.trans (k.below.mono h.below.size), fun x => (k.frozen x).trans (h.frozen x)⟩
theorem Own.drew {a b : World} (h : Own a b) : Own a b.drew := ⟨h.below.drew, h.frozen⟩
theorem Own.drewN {a b : World} (h : Own a b) (n : Nat) : Own a (b.drewN n) := ⟨h.below.trans ⟨rfl, rfl, rfl, Nat.le_refl _, fun _ _ => rfl⟩, h.frozen⟩
theorem Own.alloc {a b : World} (h : Own a b) (c : Array Value) (t : TypeId) : Own a (b.alloc (.cells c t)) :=
  ⟨h.below.alloc h.below.size _, fun x => ((Grown.refl b).alloc c t).2.1 x |>.trans (h.frozen x)⟩
theorem Own.setCell {a b : World} (h : Own a b) {p : Addr} (hp : a.heap.size ≤ p.block) (v : Value) : Own a (b.setCell p v) :=
  ⟨h.below.setCell hp v, fun x => by rw [← h.frozen x]; simp⟩
theorem Own.grown {a b : World} (h : Own a b) : Grown a b := ⟨h.below.frame _, h.frozen, h.below.size⟩
theorem Own.cell {w w' : World} (h : Own w w') {p : Addr} (hp : p.block < w.heap.size) : w'.cell? p = w.cell? p := h.below.cell hp
end Go.Proofs.YtddnfhfangfgeaaGreat.Gf

namespace Go.Proofs.YtddnfhfangfgeaaGreat.Gf
set_option linter.unusedVariables false
def pwN : Nat := 70160881166704368827218703435136616750530459438269794890424969378298545675077208731798828898087927652446353395360628748027273188182808436399538186061104243134188885576122562338679313492324190829158544377810568631194580132524405266702234305646236648896994794467054525044798919765581988418950285252905306116225263236585714808161311289784028762024137133735135393922581566890382566480334369299400480864790538739986285574563168380416343369614948461817839620668187777978661530364712890858126432457562886306102556561631759900551331094983229723298224611133722330829711659991602983068895685602467964643306841827719562658305
def lgN : Nat := 22135253156888987530748098150270024343632497605293634117281264061560962248099620766229961468867162294233796152347975563017024165690400661622462404646302566225833645086064538892198543335321514950294300187779610338557442029018619797274438901674641748676613670242915365385819254959901651105240253464034662486586186382979728982817772067067513442677601938078891989292316012868233806586592927239821351197800766822366321181463280924672822998103315976779850880337712374790938628529953751181886374687897611504386983350015558142994211516619836411558782076806704747441947939324473761869443721989389604670425385080942269787340800
def pw (k : Nat) : Nat := (pwN >>> (8 * k)) % 256
def lg (a : Nat) : Nat := (lgN >>> (8 * a)) % 256
def dbl (a : Nat) : Nat := if a < 128 then 2 * a else (2 * a) ^^^ 285
def allB (n : Nat) (f : Nat → Bool) : Bool := Nat.rec true (fun k r => f k && r) n
theorem allB_out {n : Nat} {f : Nat → Bool} (h : allB n f = true) : ∀ k, k < n → f k = true := by
  induction n with
  | zero => intro k hk; omega
  | succ m ih =>
    have h2 : (f m && allB m f) = true := h
    rw [Bool.and_eq_true] at h2
    intro k hk
    by_cases e : k = m
    · subst e; exact h2.1
    · exact ih h2.2 k (by omega)
theorem pw_succ {k : Nat} (h : k < 254) : pw (k + 1) = dbl (pw k) :=
  of_decide_eq_true (allB_out (n := 254) (f := fun k => decide (pw (k + 1) = dbl (pw k))) (by kernel_rfl) k h)
theorem lg_pw {k : Nat} (h : k < 255) : lg (pw k) = k :=
  of_decide_eq_true (allB_out (n := 255) (f := fun k => decide (lg (pw k) = k)) (by kernel_rfl) k h)
theorem pw_lg {a : Nat} (h : a < 256) (h0 : a ≠ 0) : pw (lg a) = a := by
  have := of_decide_eq_true (allB_out (n := 255) (f := fun k => decide (pw (lg (k + 1)) = k + 1)) (by kernel_rfl) (a - 1) (by omega))
  rwa [Nat.sub_add_cancel (by omega)] at this
theorem lg_lt {a : Nat} (h : a < 256) : lg a < 255 :=
  of_decide_eq_true (allB_out (n := 256) (f := fun k => decide (lg k < 255)) (by kernel_rfl) a h)
theorem pw_lt (k : Nat) : pw k < 256 := Nat.mod_lt _ (by decide)
theorem pw_pos {k : Nat} (h : k < 255) : 0 < pw k :=
  of_decide_eq_true (allB_out (n := 255) (f := fun k => decide (0 < pw k)) (by kernel_rfl) k h)
theorem lg_zero : lg 0 = 0 := by kernel_rfl
theorem pw_zero : pw 0 = 1 := by kernel_rfl
theorem dbl_last : dbl (pw 254) = 1 := by kernel_rfl
theorem next_pw {k : Nat} (hk : k < 255) : dbl (pw (k % 255)) = pw ((k + 1) % 255) := by
  rw [Nat.mod_eq_of_lt hk]
  by_cases e : k = 254
  · subst e; rw [dbl_last]; exact pw_zero.symm
  · rw [Nat.mod_eq_of_lt (by omega), pw_succ (by omega)]
/-- the error's number of what is told of a number: 10 of 0, else none -/
def zE (a : Nat) : Nat := if a = 0 then 10 else 0
theorem zE_zero : zE 0 = 10 := rfl
theorem zE_pos {a : Nat} (h : a ≠ 0) : zE a = 0 := if_neg h
def mulS (a b : Nat) : Nat := if a = 0 ∨ b = 0 then 0 else pw ((lg a + lg b) % 255)
def xt : Nat → Nat → Nat
  | 0, a => a
  | i + 1, a => dbl (xt i a)
def acc : Nat → Nat → Nat → Nat
  | 0, _, _ => 0
  | i + 1, a, b => acc i a b ^^^ (if b.testBit i then xt i a else 0)
/-- the same, for the kernel's reckoning -/
def accR (a b : Nat) : Nat :=
  Nat.rec (fun _ _ out => out) (fun _ r x y out => r (dbl x) (y / 2) (if y % 2 = 1 then out ^^^ x else out)) 8 a b 0
end Go.Proofs.YtddnfhfangfgeaaGreat.Gf

namespace Go.Proofs.YtddnfhfangfgeaaGreat.Gf
set_option linter.unusedVariables false
theorem mul_accR : allB 256 (fun a => allB 256 fun b => Nat.beq (mulS a b) (accR a b)) = true := by kernel_rfl
theorem mulS_lt (a b : Nat) : mulS a b < 256 := by
  unfold mulS; split
  · omega
  · exact pw_lt _
theorem mulS_comm (a b : Nat) : mulS a b = mulS b a := by
  unfold mulS
  rw [Nat.add_comm (lg a)]
  simp only [Or.comm]
theorem mulS_zero (a : Nat) : mulS a 0 = 0 := by simp [mulS]
theorem zero_mulS (a : Nat) : mulS 0 a = 0 := by simp [mulS]
theorem mulS_pos {a b : Nat} (ha : a ≠ 0) (hb : b ≠ 0) : mulS a b = pw ((lg a + lg b) % 255) := by simp [mulS, ha, hb]
theorem mulS_ne {a b : Nat} (ha : a ≠ 0) (hb : b ≠ 0) : mulS a b ≠ 0 := by
  rw [mulS_pos ha hb]
  have := pw_pos (Nat.mod_lt (lg a + lg b) (by decide : 0 < 255))
  omega
theorem lg_mulS {a b : Nat} (ha : a ≠ 0) (hb : b ≠ 0) : lg (mulS a b) = (lg a + lg b) % 255 := by
  rw [mulS_pos ha hb, lg_pw (Nat.mod_lt _ (by decide))]
theorem lg_one : lg 1 = 0 := by kernel_rfl
theorem mulS_one {a : Nat} (ha : a < 256) : mulS a 1 = a := by
  by_cases h : a = 0
  · subst h; exact zero_mulS 1
  · rw [mulS_pos h (by decide), lg_one, Nat.add_zero, Nat.mod_eq_of_lt (lg_lt ha), pw_lg ha h]
theorem mulS_assoc (a b c : Nat) : mulS a (mulS b c) = mulS (mulS a b) c := by
  by_cases ha : a = 0
  · subst ha; simp only [zero_mulS]
  by_cases hb : b = 0
  · subst hb; simp only [zero_mulS, mulS_zero]
  by_cases hc : c = 0
  · subst hc; simp only [mulS_zero]
  rw [mulS_pos ha (mulS_ne hb hc), mulS_pos (mulS_ne ha hb) hc, lg_mulS hb hc, lg_mulS ha hb]
  congr 1
  omega
theorem mulS_eq_zero {a b : Nat} : mulS a b = 0 ↔ a = 0 ∨ b = 0 := by
  constructor
  · intro h
    by_cases ha : a = 0
    · exact Or.inl ha
    · by_cases hb : b = 0
      · exact Or.inr hb
      · exact absurd h (mulS_ne ha hb)
  · rintro (rfl | rfl)
    · exact zero_mulS _
    · exact mulS_zero _
def accG (n : Nat) : Nat → Nat → Nat → Nat :=
  Nat.rec (fun _ _ out => out) (fun _ r x y out => r (dbl x) (y / 2) (if y % 2 = 1 then out ^^^ x else out)) n
theorem accG_eq (a b : Nat) : ∀ n i, accG n (xt i a) (b / 2 ^ i) (acc i a b) = acc (i + n) a b
  | 0, _ => rfl
  | n + 1, i => by
    have e : accG (n + 1) (xt i a) (b / 2 ^ i) (acc i a b) = accG n (xt (i + 1) a) (b / 2 ^ (i + 1)) (acc (i + 1) a b) := by
      have h1 : accG (n + 1) (xt i a) (b / 2 ^ i) (acc i a b) = accG n (dbl (xt i a)) (b / 2 ^ i / 2) (if b / 2 ^ i % 2 = 1 then acc i a b ^^^ xt i a else acc i a b) := rfl
      rw [h1, Nat.div_div_eq_div_mul, ← Nat.pow_succ, acc, Nat.testBit_eq_decide_div_mod_eq]
      by_cases h : b / 2 ^ i % 2 = 1
      · simp [h, xt]
      · simp [h, xt]
    rw [e, accG_eq a b n (i + 1)]
    congr 1; omega
theorem accR_eq (a b : Nat) : accR a b = acc 8 a b := by
  have h := accG_eq a b 8 0
  simp only [Nat.pow_zero, Nat.div_one] at h
  exact h
theorem mulS_acc {a b : Nat} (ha : a < 256) (hb : b < 256) : mulS a b = acc 8 a b := by
  rw [← accR_eq]
  exact Nat.eq_of_beq_eq_true (allB_out (allB_out mul_accR a ha) b hb)
theorem acc_xor (a b c : Nat) : ∀ i, acc i a (b ^^^ c) = acc i a b ^^^ acc i a c
  | 0 => by simp [acc]
  | i + 1 => by
    simp only [acc]
    rw [acc_xor a b c i, Nat.testBit_xor]
    have e : (if (b.testBit i ^^ c.testBit i) = true then xt i a else 0) = (if b.testBit i = true then xt i a else 0) ^^^ (if c.testBit i = true then xt i a else 0) := by
      cases b.testBit i <;> cases c.testBit i <;> simp
    rw [e]
    ac_rfl
theorem xor_lt {b c : Nat} (hb : b < 256) (hc : c < 256) : b ^^^ c < 256 := Nat.xor_lt_two_pow (n := 8) hb hc
theorem mulS_xor {a b c : Nat} (ha : a < 256) (hb : b < 256) (hc : c < 256) : mulS a (b ^^^ c) = mulS a b ^^^ mulS a c := by
  rw [mulS_acc ha (xor_lt hb hc), mulS_acc ha hb, mulS_acc ha hc, acc_xor]
def invS (a : Nat) : Nat := if a = 0 then 0 else pw ((lg a * 254) % 255)
theorem invS_lt (a : Nat) : invS a < 256 := by
  unfold invS; split
  · omega
  · exact pw_lt _
theorem invS_ne {a : Nat} (ha : a ≠ 0) : invS a ≠ 0 := by
  unfold invS; rw [if_neg ha]
  have := pw_pos (Nat.mod_lt (lg a * 254) (by decide : 0 < 255))
  omega
theorem lg_invS {a : Nat} (ha : a ≠ 0) : lg (invS a) = (lg a * 254) % 255 := by
  unfold invS; rw [if_neg ha, lg_pw (Nat.mod_lt _ (by decide))]
theorem mulS_invS {a : Nat} (ha : a ≠ 0) : mulS a (invS a) = 1 := by
  rw [mulS_pos ha (invS_ne ha), lg_invS ha]
  have : (lg a + lg a * 254 % 255) % 255 = 0 := by omega
  rw [this, pw_zero]
/-- a, squared k times -/
def sq : Nat → Nat → Nat
  | 0, a => a
  | k + 1, a => mulS (sq k a) (sq k a)
end Go.Proofs.YtddnfhfangfgeaaGreat.Gf

namespace Go.Proofs.YtddnfhfangfgeaaGreat.Gf
set_option linter.unusedVariables false
open Go.RowKit
theorem dbl_hi {a : Nat} (h : a < 256) (hh : ¬ a < 128) : bits .xor .u8 ((a : Int) * 2 % 256) 29 = (dbl a : Nat) := by
  have e : ((a : Int) * 2 % 256) = ((2 * a - 256 : Nat) : Int) := by omega
  rw [e, show (29 : Int) = ((29 : Nat) : Int) from rfl, u8_xor_nat _ _ (by omega) (by omega)]
  have := of_decide_eq_true (allB_out (n := 256) (f := fun k => decide (¬ k < 128 → (2 * k - 256) ^^^ 29 = dbl k)) (by kernel_rfl) a h) hh
  rw [this]
set_option maxRecDepth 100000 in
theorem double_any (a : Nat) (h : a < 256) (w : World) :
    Calls Tryz.prog 32 #[.int .u8 a] w fun e w' => e = .returned (.int .u8 (dbl a)) ∧ w' = w := by
  by_cases hlt : a < 128
  · have e : ((a : Int) * 2) = (dbl a : Nat) := by unfold dbl; rw [if_pos hlt]; omega
    have E : Hid (((a : Int) * 2) = (dbl a : Nat)) := e
    clear e
    go_enter Tryz.func32, Tryz.ntmps32
    go_wp2
    go_ret
    exact ⟨ret_int E.out, rfl⟩
  · have E : Hid (bits .xor .u8 ((a : Int) * 2 % 256) 29 = (dbl a : Nat)) := dbl_hi h hlt
    go_enter Tryz.func32, Tryz.ntmps32
    go_wp2
    go_ret
    exact ⟨ret_int E.out, rfl⟩
set_option maxHeartbeats 1000000 in
theorem put_any (b bf bp n p : Nat) (w : World) (hn : n < 255) (hp : p < 256) (hbf : b ≠ bf) (hbp : b ≠ bp) (hfp : bf ≠ bp)
    (cf : w.cell? ⟨bf, 0, none⟩ = some (.pointer (some ⟨b, 0, none⟩))) (cp : w.cell? ⟨bp, 0, none⟩ = some (.int .u8 p)) (zp : w.frozen? ⟨bp, 0, none⟩ = false)
    (v1 v2 : Value) (c1 : w.cell? ⟨b, n, none⟩ = some v1) (c2 : w.cell? ⟨b, 255 + p, none⟩ = some v2) (z1 : w.frozen? ⟨b, n, none⟩ = false) (z2 : w.frozen? ⟨b, 255 + p, none⟩ = false) :
    Calls Tryz.prog 31 #[.int .i64 n, .pointer (some ⟨bp, 0, none⟩), .pointer (some ⟨bf, 0, none⟩)] w fun e w' => e = .returned (.tuple #[]) ∧
      w' = (((w.setCell ⟨b, n, none⟩ (.int .u8 p)).setCell ⟨b, 255 + p, none⟩ (.int .u8 n)).setCell ⟨bp, 0, none⟩ (.int .u8 (dbl p))).drew.drew := by
  go_enter Tryz.func31, Tryz.ntmps31
  go_wp2
  go_region
  go_wp2
  go_region
  go_wp2_with (go_at_call 32; refine (double_any _ hp _).mono ?_; rintro e w' ⟨rfl, rfl⟩)
  go_end0
  exact ⟨rfl, rfl⟩
end Go.Proofs.YtddnfhfangfgeaaGreat.Gf

namespace Go.Proofs.YtddnfhfangfgeaaGreat.Gf
set_option linter.unusedVariables false
open Go.RowKit
def zeros : Array Value := Array.replicate 511 (.int .u8 0)
theorem zero_field (w : World) : Sem.run Tryz.prog (zeroValue 71) w = .ok (.agg zeros) w := by kernel_rfl
theorem zeros_at {i : Nat} (h : i < 511) : zeros[i]? = some (.int .u8 0) := by
  unfold zeros; rw [Array.getElem?_replicate, if_pos h]
theorem cell_set {w : World} {p q : Addr} {u v : Value} (h : w.cell? q = some u) : (w.setCell p v).cell? q = some (if q = p then v else u) := by
  by_cases e : q = p
  · subst e; rw [if_pos rfl]; exact World.cell?_setCell_same w q v h
  · rw [if_neg e, ← h]; exact World.cell?_setCell_other w p q v (fun h => e h.symm)
theorem frozen_past {w : World} {a : Addr} (h : w.heap.size ≤ a.block) : w.frozen? a = false := by
  unfold World.frozen?
  rw [Array.getElem?_eq_none h]
/-- The first k powers and their places stand in block b. -/
structure FieldK (w : World) (b k : Nat) : Prop where
  powers : ∀ i, i < 255 → w.cell? ⟨b, i, none⟩ = some (.int .u8 (if i < k then pw i else 0 : Nat))
  places : ∀ a, a < 256 → w.cell? ⟨b, 255 + a, none⟩ = some (.int .u8 (if a ≠ 0 ∧ lg a < k then lg a else 0 : Nat))
/-- A field stands in block b. -/
structure FieldAt (w : World) (b : Nat) : Prop where
  powers : ∀ i, i < 255 → w.cell? ⟨b, i, none⟩ = some (.int .u8 (pw i : Nat))
  places : ∀ a, a < 256 → w.cell? ⟨b, 255 + a, none⟩ = some (.int .u8 (lg a : Nat))
  lt : b < w.heap.size
theorem FieldAt.own {w w' : World} {b : Nat} (h : FieldAt w b) (o : Own w w') : FieldAt w' b :=
  ⟨fun i hi => (o.cell (p := ⟨b, i, none⟩) h.lt).trans (h.powers i hi), fun i hi => (o.cell (p := ⟨b, 255 + i, none⟩) h.lt).trans (h.places i hi), Nat.lt_of_lt_of_le h.lt o.below.size⟩
theorem place_eq {k a : Nat} (hk : k < 255) (ha : a < 256) :
    (if a = pw k then k else if a ≠ 0 ∧ lg a < k then lg a else 0) = (if a ≠ 0 ∧ lg a < k + 1 then lg a else 0) := by
  by_cases e : a = pw k
  · subst e
    have := pw_pos hk
    have hl := lg_pw hk
    rw [if_pos rfl, hl, if_pos ⟨by omega, by omega⟩]
  · rw [if_neg e]
    by_cases z : a = 0
    · subst z; simp
    · have hne : lg a ≠ k := fun h => e (by rw [← h, pw_lg ha z])
      by_cases l : lg a < k
      · rw [if_pos ⟨z, l⟩, if_pos ⟨z, by omega⟩]
      · rw [if_neg (fun h => l h.2), if_neg (fun h => by omega)]
theorem step {w : World} {b c k : Nat} (hk : k < 255) (hbc : b ≠ c) (h : FieldK w b k) {v : Value} (hc : w.cell? ⟨c, 0, none⟩ = some v) :
    FieldK (((w.setCell ⟨b, k, none⟩ (.int .u8 (pw (k % 255) : Nat))).setCell ⟨b, 255 + pw (k % 255), none⟩ (.int .u8 (k : Nat))).setCell ⟨c, 0, none⟩ (.int .u8 (dbl (pw (k % 255)) : Nat))).drew.drew b (k + 1) ∧
    (((w.setCell ⟨b, k, none⟩ (.int .u8 (pw (k % 255) : Nat))).setCell ⟨b, 255 + pw (k % 255), none⟩ (.int .u8 (k : Nat))).setCell ⟨c, 0, none⟩ (.int .u8 (dbl (pw (k % 255)) : Nat))).drew.drew.cell? ⟨c, 0, none⟩ = some (.int .u8 (pw ((k + 1) % 255) : Nat)) := by
  refine ⟨⟨fun i hi => ?_, fun a ha => ?_⟩, ?_⟩
  · simp only [World.cell?_drew]
    rw [cell_set (cell_set (cell_set (h.powers i hi)))]
    simp only [Addr.mk.injEq, and_true, true_and, hbc, false_and, if_false]
    rw [if_neg (by omega : ¬ i = 255 + pw (k % 255))]
    rw [Nat.mod_eq_of_lt hk]
    by_cases e : i = k
    · subst e; simp
    · simp only [e, if_false]
      by_cases l : i < k
      · rw [if_pos l, if_pos (by omega)]
      · rw [if_neg l, if_neg (by omega)]
  · simp only [World.cell?_drew]
    rw [cell_set (cell_set (cell_set (h.places a ha)))]
    simp only [Addr.mk.injEq, and_true, true_and, hbc, false_and, if_false]
    rw [if_neg (by omega : ¬ 255 + a = k), Nat.mod_eq_of_lt hk, ← place_eq hk ha]
    by_cases e : a = pw k
    · subst e; simp
    · rw [if_neg (by omega), if_neg e]
  · simp only [World.cell?_drew]
    rw [cell_set (cell_set (cell_set hc)), if_pos rfl, next_pw hk]
theorem start {w : World} : FieldK (((w.alloc (.cells zeros 71)).alloc (.cells #[.pointer (some ⟨w.heap.size, 0, none⟩)] 26)).alloc (.cells #[.int .u8 1] 5)) w.heap.size 0 := by
  have key : ∀ i, i < 511 → (((w.alloc (.cells zeros 71)).alloc (.cells #[.pointer (some ⟨w.heap.size, 0, none⟩)] 26)).alloc (.cells #[.int .u8 1] 5)).cell? ⟨w.heap.size, i, none⟩ = some (.int .u8 0) := by
    intro i hi
    rw [World.cell?_alloc_past _ _ _ (by simp; omega), World.cell?_alloc_past _ _ _ (by simp), World.cell?_alloc_at _ _ _ _ rfl, zeros_at hi]
  exact ⟨fun i hi => by rw [key i (by omega)]; simp, fun a ha => by rw [key _ (by omega)]; simp⟩
theorem FieldK.whole {w : World} {b : Nat} (h : FieldK w b 255) (hb : b < w.heap.size) : FieldAt w b := by
  refine ⟨fun i hi => ?_, fun a ha => ?_, hb⟩
  · rw [h.powers i hi, if_pos hi]
  · rw [h.places a ha]
    by_cases e : a = 0
    · subst e; simp [lg_zero]
    · rw [if_pos ⟨e, lg_lt ha⟩]
set_option maxHeartbeats 1000000 in
set_option maxRecDepth 100000 in
theorem new_any (w : World) :
    Calls Tryz.prog 10 #[] w fun e w' => e = .returned (.pointer (some ⟨w.heap.size, 0, none⟩)) ∧ FieldAt w' w.heap.size ∧ Own w w' := by
  have hz := zero_field
  go_enter Tryz.func10, Tryz.ntmps10
  go_wp2
  clear hz
  go_loopw [8] (fun i wr => ∃ k : Nat, k ≤ 255 ∧ i = .int .i64 k ∧ FieldK wr w.heap.size k ∧ wr.cell? ⟨w.heap.size + 1, 0, none⟩ = some (.pointer (some ⟨w.heap.size, 0, none⟩)) ∧
      wr.cell? ⟨w.heap.size + 1 + 1, 0, none⟩ = some (.int .u8 (pw (k % 255) : Nat)) ∧ Own w wr ∧ w.heap.size + 2 < wr.heap.size)
    (fun i _ => 255 - (intOf i).toNat)
  case atStart =>
    refine ⟨0, by omega, rfl, start, ?_, ?_, (((Own.refl w).alloc _ _).alloc _ _).alloc _ _, by simp⟩
    · rw [World.cell?_alloc_past _ _ _ (by simp), World.cell?_alloc_at _ _ _ _ (by simp)]; rfl
    · rw [World.cell?_alloc_at _ _ _ _ (by simp)]; simp [pw_zero]
  case round =>
    obtain ⟨k, hk, rfl, hF, hf, hp, ho, hs⟩ := hrel
    by_cases hlt : k < 255
    · have fz : ∀ b o, w.heap.size ≤ b → wr.frozen? ⟨b, o, none⟩ = false := fun b o h => (ho.frozen _).trans (frozen_past h)
      obtain ⟨R1, R2⟩ := step hlt (by omega : w.heap.size ≠ w.heap.size + 1 + 1) hF hp
      have R := And.intro R1 R2
      have HR : Hid _ := R
      clear R R1 R2
      go_wp2_with (go_at_call 31; go_must (refine (put_any w.heap.size (w.heap.size + 1) (w.heap.size + 1 + 1) k (pw (k % 255)) wr hlt (pw_lt _) (by omega) (by omega) (by omega) hf hp (fz _ _ (by omega)) _ _ (hF.powers k hlt) (hF.places _ (pw_lt _)) (fz _ _ (by omega)) (fz _ _ (by omega))).mono ?_); rintro e w' ⟨rfl, rfl⟩)
      go_roundw
      case rel =>
        refine ⟨k + 1, by omega, by go_num, HR.out.1, ?_, HR.out.2, (((ho.setCell (p := ⟨w.heap.size, k, none⟩) (Nat.le_refl _) _).setCell (p := ⟨w.heap.size, 255 + pw (k % 255), none⟩) (Nat.le_refl _) _).setCell (p := ⟨w.heap.size + 1 + 1, 0, none⟩) (by show _ ≤ w.heap.size + 1 + 1; omega) _).drew.drew, ?_⟩
        · simp only [World.cell?_drew]
          rw [cell_set (cell_set (cell_set hf))]
          simp
        · simp; omega
      case measure => simp [intOf]; omega
    · have e : k = 255 := by omega
      subst e
      go_wp2
      go_ret
      exact ⟨rfl, hF.whole (by omega), ho⟩
end Go.Proofs.YtddnfhfangfgeaaGreat.Gf

namespace Go.Proofs.YtddnfhfangfgeaaGreat.Gf
set_option linter.unusedVariables false
/-- n, less multiples of 255. -/
def tn (n : Int) : Nat := (n % 255).toNat
theorem tn_lt (n : Int) : tn n < 255 := by unfold tn; omega
theorem tn_cast (n : Int) : ((tn n : Nat) : Int) = n % 255 := by unfold tn; omega
def powV (a : Nat) (n : Int) : Nat := if n = 0 then 1 else if a = 0 then 0 else pw ((lg a * tn n) % 255)
def powE (a : Nat) (n : Int) : Nat := if n < 0 ∧ a = 0 then 10 else 0
theorem tn_neg : tn (-1) = 254 := by kernel_rfl
theorem powV_inv {a : Nat} (h : a ≠ 0) : powV a (-1) = invS a := by
  unfold powV invS; rw [if_neg (by omega), if_neg h, if_neg h, tn_neg]
theorem powE_inv {a : Nat} (h : a ≠ 0) : powE a (-1) = 0 := by simp [powE, h]
theorem powV_m1 (a : Nat) : powV a (-1) = invS a := by
  by_cases h : a = 0
  · subst h; rfl
  · exact powV_inv h
theorem powE_m1 (a : Nat) : powE a (-1) = zE a := by
  by_cases h : a = 0
  · subst h; rfl
  · rw [powE_inv h, zE_pos h]
end Go.Proofs.YtddnfhfangfgeaaGreat.Gf

namespace Go.Proofs.YtddnfhfangfgeaaGreat.Gf
set_option linter.unusedVariables false
open Go.RowKit
def tm : Nat → Nat → Nat → Nat
  | 0, _, _ => 1
  | k + 1, a, n => if n.testBit k then mulS (tm k a n) (sq k a) else tm k a n
end Go.Proofs.YtddnfhfangfgeaaGreat.Gf







namespace Go.Proofs.YtddnfhfangfgeaaGreat.Gf
set_option linter.unusedVariables false
open Go.RowKit
set_option maxRecDepth 100000 in
theorem filled_any (b : Nat) (w : World) (hF : FieldAt w b) :
    Calls Tryz.prog 216 #[.pointer (some ⟨b, 0, none⟩)] w fun e w' => e = .returned (.pointer (some ⟨b, 0, none⟩)) ∧ w' = w := by
  have h0 : w.cell? ⟨b, 0, none⟩ = some (.int .u8 1) := by rw [hF.powers 0 (by omega), pw_zero]; rfl
  go_enter Tryz.func216, Tryz.ntmps216
  go_wp2
  go_ret
  exact ⟨rfl, rfl⟩
set_option maxRecDepth 100000 in
theorem mul_zero_l (b c : Nat) (w : World) :
    Calls Tryz.prog 188 #[.pointer (some ⟨b, 0, none⟩), .int .u8 0, .int .u8 c] w fun e w' => e = .returned (.int .u8 0) ∧ w' = w := by
  go_enter Tryz.func188, Tryz.ntmps188
  go_wp2
  go_ret
  exact ⟨rfl, rfl⟩
set_option maxRecDepth 100000 in
theorem mul_zero_r (b a : Nat) (w : World) (ha : a ≠ 0) :
    Calls Tryz.prog 188 #[.pointer (some ⟨b, 0, none⟩), .int .u8 a, .int .u8 0] w fun e w' => e = .returned (.int .u8 0) ∧ w' = w := by
  go_enter Tryz.func188, Tryz.ntmps188
  go_wp2
  go_ret
  exact ⟨rfl, rfl⟩
set_option maxRecDepth 100000 in
set_option maxHeartbeats 1000000 in
theorem mul_main (b a c : Nat) (w : World) (hF : FieldAt w b) (ha0 : a ≠ 0) (hc0 : c ≠ 0) (ha : a < 256) (hc : c < 256) :
    Calls Tryz.prog 188 #[.pointer (some ⟨b, 0, none⟩), .int .u8 a, .int .u8 c] w fun e w' => e = .returned (.int .u8 (pw ((lg a + lg c) % 255) : Nat)) ∧ ∃ n, w' = w.drewN n := by
  have ka : ((a : Int) == 0) = false := by simpa using ha0
  have kc : ((c : Int) == 0) = false := by simpa using hc0
  have h1 := hF.places a ha
  have h2 := hF.places c hc
  have l1 := lg_lt ha
  have l2 := lg_lt hc
  have h3 := hF.powers ((lg a + lg c) % 255) (Nat.mod_lt _ (by decide))
  go_enter Tryz.func188, Tryz.ntmps188
  go_wp2_with (go_at_call 216; go_must (refine (filled_any b _ hF).mono ?_); rintro e w' ⟨rfl, rfl⟩)
  go_quiet (fail)
  go_wp2
  go_ret
  exact ⟨rfl, _, rfl⟩
theorem mul_any (b a c : Nat) (w : World) (hF : FieldAt w b) (ha : a < 256) (hc : c < 256) :
    Calls Tryz.prog 188 #[.pointer (some ⟨b, 0, none⟩), .int .u8 a, .int .u8 c] w fun e w' => e = .returned (.int .u8 (mulS a c : Nat)) ∧ ∃ n, w' = w.drewN n := by
  by_cases ha0 : a = 0
  · subst ha0
    exact (mul_zero_l b c w).mono fun e w' ⟨he, hw⟩ => ⟨by rw [he]; simp [mulS], 0, hw⟩
  · by_cases hc0 : c = 0
    · subst hc0
      exact (mul_zero_r b a w ha0).mono fun e w' ⟨he, hw⟩ => ⟨by rw [he]; simp [mulS], 0, hw⟩
    · exact (mul_main b a c w hF ha0 hc0 ha hc).mono fun e w' ⟨he, hw⟩ => ⟨by rw [he]; simp [mulS, ha0, hc0], hw⟩
theorem FieldAt.drewN {w : World} {b : Nat} (h : FieldAt w b) (n : Nat) : FieldAt (w.drewN n) b := h.own ((Own.refl w).drewN n)
theorem mul_at {b : Nat} {x y : Int} {w : World} (hF : FieldAt w b) (a c : Nat) (hx : x = a) (hy : y = c) (ha : a < 256) (hc : c < 256) :
    Calls Tryz.prog 188 #[.pointer (some ⟨b, 0, none⟩), .int .u8 x, .int .u8 y] w fun e w' => e = .returned (.int .u8 (mulS a c : Nat)) ∧ ∃ n, w' = w.drewN n := by
  subst hx hy; exact mul_any b a c w hF ha hc
end Go.Proofs.YtddnfhfangfgeaaGreat.Gf

namespace Go.Proofs.YtddnfhfangfgeaaGreat.Gf
set_option linter.unusedVariables false
open Go.RowKit
set_option maxRecDepth 100000 in
theorem turns_any (n : Int) (w : World) (h1 : -9223372036854775808 ≤ n) (h2 : n ≤ 9223372036854775807) :
    Calls Tryz.prog 237 #[.int .i64 n] w fun e w' => e = .returned (.int .i64 (tn n : Nat)) ∧ w' = w := by
  have hb : -255 < n.tmod 255 ∧ n.tmod 255 < 255 := ⟨Int.lt_tmod_of_pos n (by omega), Int.tmod_lt_of_pos n (by omega)⟩
  have hq := Int.mul_tdiv_add_tmod n 255
  have E : Hid ((n.tmod 255 + 255) % 255 = (tn n : Nat)) := by rw [tn_cast]; show _ = _; omega
  clear hq
  obtain ⟨b1, b2⟩ := hb
  go_enter Tryz.func237, Tryz.ntmps237
  go_wp2
  go_ret
  exact ⟨ret_int E.out, rfl⟩
set_option maxRecDepth 100000 in
set_option maxHeartbeats 1000000 in
theorem pow_main (b a : Nat) (n : Int) (w : World) (hF : FieldAt w b) (ha0 : a ≠ 0) (hn0 : n ≠ 0) (ha : a < 256) (h1 : -9223372036854775808 ≤ n) (h2 : n ≤ 9223372036854775807) :
    Calls Tryz.prog 217 #[.pointer (some ⟨b, 0, none⟩), .int .u8 a, .int .i64 n] w fun e w' => e = .returned (.tuple #[.int .u8 (pw ((lg a * tn n) % 255) : Nat), .int .i64 0]) ∧ ∃ n, w' = w.drewN n := by
  have ka : ((a : Int) == 0) = false := by simpa using ha0
  have kn : (n == 0) = false := by simpa using hn0
  have p1 := hF.places a ha
  have l1 := lg_lt ha
  have l2 := tn_lt n
  have l3 : (lg a : Int) * (tn n : Int) ≤ 64516 := by
    have : lg a * tn n ≤ 254 * 254 := Nat.mul_le_mul (by omega) (by omega)
    have e : ((lg a * tn n : Nat) : Int) = (lg a : Int) * (tn n : Int) := by simp
    omega
  have l4 : 0 ≤ (lg a : Int) * (tn n : Int) := Int.mul_nonneg (by omega) (by omega)
  have p3 := hF.powers ((lg a * tn n) % 255) (Nat.mod_lt _ (by decide))
  go_enter Tryz.func217, Tryz.ntmps217
  go_wp2_with (go_at_call 216; go_must (refine (filled_any b _ hF).mono ?_); rintro e w' ⟨rfl, rfl⟩)
  go_quiet ((go_at_call 237; exact Calls.quiet_of_same (turns_any n _ h1 h2)))
  go_wp2
  go_ret2
  exact ⟨rfl, _, rfl⟩
set_option maxRecDepth 100000 in
theorem pow_nought (b a : Nat) (w : World) :
    Calls Tryz.prog 217 #[.pointer (some ⟨b, 0, none⟩), .int .u8 a, .int .i64 0] w fun e w' => e = .returned (.tuple #[.int .u8 1, .int .i64 0]) ∧ w' = w := by
  go_enter Tryz.func217, Tryz.ntmps217
  go_wp2
  go_ret2
  exact ⟨rfl, rfl⟩
set_option maxRecDepth 100000 in
theorem pow_zero_neg (b : Nat) (n : Int) (w : World) (hn : n < 0) :
    Calls Tryz.prog 217 #[.pointer (some ⟨b, 0, none⟩), .int .u8 0, .int .i64 n] w fun e w' => e = .returned (.tuple #[.int .u8 0, .int .i64 10]) ∧ w' = w := by
  have kn : (n == 0) = false := by simp; omega
  go_enter Tryz.func217, Tryz.ntmps217
  go_wp2
  go_ret2
  exact ⟨rfl, rfl⟩
set_option maxRecDepth 100000 in
theorem pow_zero_pos (b : Nat) (n : Int) (w : World) (hn : 0 < n) :
    Calls Tryz.prog 217 #[.pointer (some ⟨b, 0, none⟩), .int .u8 0, .int .i64 n] w fun e w' => e = .returned (.tuple #[.int .u8 0, .int .i64 0]) ∧ w' = w := by
  have kn : (n == 0) = false := by simp; omega
  go_enter Tryz.func217, Tryz.ntmps217
  go_wp2
  go_ret2
  exact ⟨rfl, rfl⟩
theorem pow_any (b a : Nat) (n : Int) (w : World) (hF : FieldAt w b) (ha : a < 256) (h1 : -9223372036854775808 ≤ n) (h2 : n ≤ 9223372036854775807) :
    Calls Tryz.prog 217 #[.pointer (some ⟨b, 0, none⟩), .int .u8 a, .int .i64 n] w fun e w' => e = .returned (.tuple #[.int .u8 (powV a n : Nat), .int .i64 (powE a n : Nat)]) ∧ ∃ n, w' = w.drewN n := by
  by_cases hn0 : n = 0
  · subst hn0
    exact (pow_nought b a w).mono fun e w' ⟨he, hw⟩ => ⟨by rw [he]; simp [powV, powE], 0, hw⟩
  · by_cases ha0 : a = 0
    · subst ha0
      by_cases hneg : n < 0
      · exact (pow_zero_neg b n w hneg).mono fun e w' ⟨he, hw⟩ => ⟨by rw [he]; simp [powV, powE, hn0, hneg], 0, hw⟩
      · exact (pow_zero_pos b n w (by omega)).mono fun e w' ⟨he, hw⟩ => ⟨by rw [he]; simp [powV, powE, hn0, hneg], 0, hw⟩
    · exact (pow_main b a n w hF ha0 hn0 ha h1 h2).mono fun e w' ⟨he, hw⟩ => ⟨by rw [he]; simp [powV, powE, hn0, ha0], hw⟩
set_option maxRecDepth 100000 in
theorem inv_any (b a : Nat) (w : World) (hF : FieldAt w b) (ha : a < 256) :
    Calls Tryz.prog 192 #[.pointer (some ⟨b, 0, none⟩), .int .u8 a] w fun e w' => e = .returned (.tuple #[.int .u8 (powV a (-1) : Nat), .int .i64 (powE a (-1) : Nat)]) ∧ ∃ n, w' = w.drewN n := by
  go_enter Tryz.func192, Tryz.ntmps192
  go_wp2_with (go_at_call 217; go_must (refine (pow_any b a (-1) _ hF ha (by omega) (by omega)).mono ?_); rintro e w' ⟨rfl, nd, rfl⟩)
  go_ret2
  exact ⟨rfl, _, rfl⟩
theorem inv_at {b : Nat} {x : Int} {w : World} (hF : FieldAt w b) (a : Nat) (hx : x = a) (ha : a < 256) :
    Calls Tryz.prog 192 #[.pointer (some ⟨b, 0, none⟩), .int .u8 x] w fun e w' => e = .returned (.tuple #[.int .u8 (powV a (-1) : Nat), .int .i64 (powE a (-1) : Nat)]) ∧ ∃ n, w' = w.drewN n := by
  subst hx; exact inv_any b a w hF ha
theorem inv_all {b : Nat} {x : Int} {w : World} (hF : FieldAt w b) (a : Nat) (hx : x = a) (ha : a < 256) :
    Calls Tryz.prog 192 #[.pointer (some ⟨b, 0, none⟩), .int .u8 x] w fun e w' => e = .returned (.tuple #[.int .u8 (invS a : Nat), .int .i64 (zE a : Nat)]) ∧ ∃ n, w' = w.drewN n := by
  rw [← powV_m1, ← powE_m1]
  exact inv_at hF a hx ha
end Go.Proofs.YtddnfhfangfgeaaGreat.Gf

namespace Go.Proofs.YtddnfhfangfgeaaGreat.Gf
set_option linter.unusedVariables false
open Go.RowKit
set_option maxRecDepth 100000 in
theorem div_zero (b a : Nat) (w : World) (hF : FieldAt w b) :
    Calls Tryz.prog 201 #[.pointer (some ⟨b, 0, none⟩), .int .u8 a, .int .u8 0] w fun e w' => e = .returned (.tuple #[.int .u8 0, .int .i64 10]) ∧ ∃ n, w' = w.drewN n := by
  have e1 : powV 0 (-1) = 0 := rfl
  have e2 : powE 0 (-1) = 10 := rfl
  go_enter Tryz.func201, Tryz.ntmps201
  go_wp2_with (go_at_call 192; go_must (refine (inv_any b 0 _ hF (by omega)).mono ?_); rintro e w' ⟨rfl, nd, rfl⟩)
  go_ret2
  exact ⟨rfl, _, rfl⟩
set_option maxRecDepth 100000 in
theorem div_main (b a c : Nat) (w : World) (hF : FieldAt w b) (ha : a < 256) (hc : c < 256) (hc0 : c ≠ 0) :
    Calls Tryz.prog 201 #[.pointer (some ⟨b, 0, none⟩), .int .u8 a, .int .u8 c] w fun e w' => e = .returned (.tuple #[.int .u8 (mulS a (powV c (-1)) : Nat), .int .i64 0]) ∧ ∃ n, w' = w.drewN n := by
  have e2 : powE c (-1) = 0 := by simp [powE, hc0]
  have l : powV c (-1) < 256 := by unfold powV; rw [if_neg (by omega), if_neg hc0]; exact pw_lt _
  go_enter Tryz.func201, Tryz.ntmps201
  go_wp2_with (go_at_call 192; go_must (refine (inv_any b c _ hF hc).mono ?_); rintro e w' ⟨rfl, nd, rfl⟩)
  go_wp2_with (go_at_call 188; go_must (refine (mul_any b a _ _ (hF.drewN nd) ha l).mono ?_); rintro e w' ⟨rfl, nd2, rfl⟩)
  go_ret2
  exact ⟨rfl, _, rfl⟩
theorem div_at {b : Nat} {x y : Int} {w : World} (hF : FieldAt w b) (a c : Nat) (hx : x = a) (hy : y = c) (ha : a < 256) (hc : c < 256) (hc0 : c ≠ 0) :
    Calls Tryz.prog 201 #[.pointer (some ⟨b, 0, none⟩), .int .u8 x, .int .u8 y] w fun e w' => e = .returned (.tuple #[.int .u8 (mulS a (powV c (-1)) : Nat), .int .i64 0]) ∧ ∃ n, w' = w.drewN n := by
  subst hx hy; exact div_main b a c w hF ha hc hc0
theorem div_all {b : Nat} {x y : Int} {w : World} (hF : FieldAt w b) (a c : Nat) (hx : x = a) (hy : y = c) (ha : a < 256) (hc : c < 256) :
    Calls Tryz.prog 201 #[.pointer (some ⟨b, 0, none⟩), .int .u8 x, .int .u8 y] w fun e w' => e = .returned (.tuple #[.int .u8 (mulS a (invS c) : Nat), .int .i64 (zE c : Nat)]) ∧ ∃ n, w' = w.drewN n := by
  by_cases hc0 : c = 0
  · subst hc0 hx hy
    have e1 : mulS a (invS 0) = 0 := mulS_zero a
    rw [e1, zE_zero]
    exact div_zero b a w hF
  · rw [← powV_m1 c, zE_pos hc0]
    exact div_at hF a c hx hy ha hc hc0
end Go.Proofs.YtddnfhfangfgeaaGreat.Gf

namespace Go.Proofs.YtddnfhfangfgeaaGreat.Gf
set_option linter.unusedVariables false
set_option linter.unusedSimpArgs false
def mu (a b : UInt8) : UInt8 := UInt8.ofNat (mulS a.toNat b.toNat)
def iv (a : UInt8) : UInt8 := UInt8.ofNat (invS a.toNat)
theorem u8_lt (a : UInt8) : a.toNat < 256 := a.toNat_lt
theorem mu_toNat (a b : UInt8) : (mu a b).toNat = mulS a.toNat b.toNat := by
  unfold mu; rw [UInt8.toNat_ofNat']; exact Nat.mod_eq_of_lt (mulS_lt _ _)
theorem iv_toNat (a : UInt8) : (iv a).toNat = invS a.toNat := by
  unfold iv; rw [UInt8.toNat_ofNat']; exact Nat.mod_eq_of_lt (invS_lt _)
theorem u8_ext {a b : UInt8} (h : a.toNat = b.toNat) : a = b := UInt8.toNat_inj.1 h
theorem u8_ne {a : UInt8} (h : a ≠ 0) : a.toNat ≠ 0 := fun e => h (u8_ext e)
theorem mu_comm (a b : UInt8) : mu a b = mu b a := u8_ext (by rw [mu_toNat, mu_toNat, mulS_comm])
theorem mu_assoc (a b c : UInt8) : mu (mu a b) c = mu a (mu b c) := u8_ext (by simp only [mu_toNat]; rw [mulS_assoc])
theorem mu_left (a b c : UInt8) : mu a (mu b c) = mu b (mu a c) := by rw [← mu_assoc, mu_comm a b, mu_assoc]
theorem mu_xor (a b c : UInt8) : mu a (b ^^^ c) = mu a b ^^^ mu a c := u8_ext (by
  rw [UInt8.toNat_xor, mu_toNat, mu_toNat, mu_toNat, UInt8.toNat_xor, mulS_xor (u8_lt a) (u8_lt b) (u8_lt c)])
theorem xor_mu (a b c : UInt8) : mu (a ^^^ b) c = mu a c ^^^ mu b c := by rw [mu_comm, mu_xor, mu_comm c a, mu_comm c b]
theorem mu_one (a : UInt8) : mu a 1 = a := u8_ext (by rw [mu_toNat]; exact mulS_one (u8_lt a))
theorem one_mu (a : UInt8) : mu 1 a = a := by rw [mu_comm, mu_one]
theorem mu_zero (a : UInt8) : mu a 0 = 0 := u8_ext (by rw [mu_toNat]; exact mulS_zero _)
theorem zero_mu (a : UInt8) : mu 0 a = 0 := by rw [mu_comm, mu_zero]
theorem mu_eq_zero {a b : UInt8} : mu a b = 0 ↔ a = 0 ∨ b = 0 := by
  constructor
  · intro h
    have : mulS a.toNat b.toNat = 0 := by rw [← mu_toNat, h]; rfl
    rcases mulS_eq_zero.1 this with e | e
    · exact Or.inl (u8_ext e)
    · exact Or.inr (u8_ext e)
  · rintro (rfl | rfl)
    · exact zero_mu _
    · exact mu_zero _
theorem mu_iv {a : UInt8} (h : a ≠ 0) : mu a (iv a) = 1 := u8_ext (by rw [mu_toNat, iv_toNat, mulS_invS (u8_ne h)]; rfl)
theorem mu_ne {a b : UInt8} (ha : a ≠ 0) (hb : b ≠ 0) : mu a b ≠ 0 := fun h => by rcases mu_eq_zero.1 h with e | e <;> contradiction
theorem x_assoc (a b c : UInt8) : (a ^^^ b) ^^^ c = a ^^^ (b ^^^ c) := UInt8.xor_assoc a b c
theorem x_comm (a b : UInt8) : a ^^^ b = b ^^^ a := UInt8.xor_comm a b
theorem x_left (a b c : UInt8) : a ^^^ (b ^^^ c) = b ^^^ (a ^^^ c) := by rw [← x_assoc, x_comm a b, x_assoc]
theorem x_self (a : UInt8) : a ^^^ a = 0 := UInt8.xor_self
theorem x_zero (a : UInt8) : a ^^^ 0 = a := UInt8.xor_zero
theorem zero_x (a : UInt8) : 0 ^^^ a = a := UInt8.zero_xor
theorem x_cancel (a b : UInt8) : a ^^^ (a ^^^ b) = b := by rw [← x_assoc, x_self, zero_x]
theorem x_eq_zero {a b : UInt8} : a ^^^ b = 0 ↔ a = b := by
  constructor
  · intro h
    have : a ^^^ (a ^^^ b) = a ^^^ 0 := by rw [h]
    rw [x_cancel, x_zero] at this
    exact this.symm
  · rintro rfl; exact x_self a
theorem x4 (a b c d : UInt8) : (a ^^^ b) ^^^ (c ^^^ d) = (a ^^^ c) ^^^ (b ^^^ d) := by
  rw [x_assoc, x_assoc, x_left b c d]
def S : Nat → (Nat → UInt8) → UInt8
  | 0, _ => 0
  | n + 1, f => S n f ^^^ f n
theorem S_congr {n : Nat} {f g : Nat → UInt8} (h : ∀ i, i < n → f i = g i) : S n f = S n g := by
  induction n with
  | zero => rfl
  | succ n ih => rw [S, S, ih (fun i hi => h i (by omega)), h n (by omega)]
theorem S_zero {n : Nat} {f : Nat → UInt8} (h : ∀ i, i < n → f i = 0) : S n f = 0 := by
  induction n with
  | zero => rfl
  | succ n ih => rw [S, ih (fun i hi => h i (by omega)), h n (by omega)]; rfl
theorem S_xor (n : Nat) (f g : Nat → UInt8) : S n (fun i => f i ^^^ g i) = S n f ^^^ S n g := by
  induction n with
  | zero => exact (x_self 0).symm
  | succ n ih => rw [S, S, S, ih, x4]
theorem mu_S (a : UInt8) (n : Nat) (f : Nat → UInt8) : mu a (S n f) = S n (fun i => mu a (f i)) := by
  induction n with
  | zero => exact mu_zero a
  | succ n ih => rw [S, S, mu_xor, ih]
theorem S_mu (a : UInt8) (n : Nat) (f : Nat → UInt8) : mu (S n f) a = S n (fun i => mu (f i) a) := by
  rw [mu_comm, mu_S]; exact S_congr fun i _ => mu_comm _ _
theorem S_head (n : Nat) (f : Nat → UInt8) : S (n + 1) f = f 0 ^^^ S n (fun i => f (i + 1)) := by
  induction n with
  | zero => rw [S, S, S, zero_x, x_zero]
  | succ n ih => rw [S, ih, S, x_assoc]
theorem S_rev (n : Nat) (f : Nat → UInt8) : S (n + 1) (fun i => f (n - i)) = S (n + 1) f := by
  induction n with
  | zero => rfl
  | succ n ih =>
    rw [S_head]
    have : S (n + 1) (fun i => f (n + 1 - (i + 1))) = S (n + 1) (fun i => f (n - i)) := S_congr fun i _ => by rw [Nat.add_sub_add_right]
    rw [this, ih, x_comm]
    rfl
theorem S_more {n m : Nat} {f : Nat → UInt8} (hnm : n ≤ m) (h : ∀ i, n ≤ i → i < m → f i = 0) : S m f = S n f := by
  induction m with
  | zero => rw [Nat.le_zero.1 hnm]
  | succ m ih =>
    by_cases e : n = m + 1
    · rw [e]
    · rw [S, ih (by omega) (fun i h1 h2 => h i h1 (by omega)), h m (by omega) (by omega), x_zero]
theorem S_one {n k : Nat} {f : Nat → UInt8} (hk : k < n) (h : ∀ i, i < n → i ≠ k → f i = 0) : S n f = f k := by
  induction n with
  | zero => omega
  | succ n ih =>
    by_cases e : k = n
    · subst e
      rw [S, S_zero (fun i hi => h i (by omega) (by omega)), zero_x]
    · rw [S, ih (by omega) (fun i h1 h2 => h i (by omega) h2), h n (by omega) (by omega), x_zero]
/-- Two sums over a triangle. -/
theorem S_tri (n : Nat) (F : Nat → Nat → UInt8) : S n (fun i => S (i + 1) (fun j => F i j)) = S n (fun j => S (n - j) (fun l => F (j + l) j)) := by
  induction n with
  | zero => rfl
  | succ n ih =>
    rw [S, ih, S, S, ← x_assoc, ← S_xor]
    have e1 : S (n + 1 - n) (fun l => F (n + l) n) = F n n := by
      rw [show n + 1 - n = 1 by omega, S, S, zero_x]; rfl
    rw [e1]
    congr 1
    refine S_congr fun j hj => ?_
    rw [show n + 1 - j = (n - j) + 1 by omega, S, show j + (n - j) = n by omega]
end Go.Proofs.YtddnfhfangfgeaaGreat.Gf

namespace Go.Proofs.YtddnfhfangfgeaaGreat.Gf
set_option linter.unusedVariables false
set_option linter.unusedSimpArgs false
open Go.RowKit
theorem fmu_quiet {b : Nat} {w : World} (hF : FieldAt w b) (a c : UInt8) {x y : Int} (hx : x = ((a.toNat : Nat) : Int)) (hy : y = ((c.toNat : Nat) : Int)) :
    Calls Tryz.prog 188 #[.pointer (some ⟨b, 0, none⟩), .int .u8 x, .int .u8 y] w fun e w' => e = .returned (.int .u8 ((mu a c).toNat : Nat)) ∧ ∃ n, w' = w.drewN n := by
  rw [mu_toNat]
  exact mul_at hF a.toNat c.toNat hx hy (u8_lt a) (u8_lt c)
end Go.Proofs.YtddnfhfangfgeaaGreat.Gf

namespace Go.Proofs.YtddnfhfangfgeaaGreat.Gf
set_option linter.unusedVariables false
set_option linter.unusedSimpArgs false
def conv (p q : Nat → UInt8) (k : Nat) : UInt8 := S (k + 1) (fun i => mu (p i) (q (k - i)))
def addF (p q : Nat → UInt8) (k : Nat) : UInt8 := p k ^^^ q k
theorem conv_comm (p q : Nat → UInt8) : conv p q = conv q p := by
  funext k
  unfold conv
  rw [← S_rev k (fun i => mu (q i) (p (k - i)))]
  refine S_congr fun i hi => ?_
  rw [mu_comm, show k - (k - i) = i by omega]
theorem conv_add (p q r : Nat → UInt8) : conv p (addF q r) = addF (conv p q) (conv p r) := by
  funext k
  unfold conv addF
  rw [← S_xor]
  exact S_congr fun i _ => mu_xor _ _ _
theorem add_conv (p q r : Nat → UInt8) : conv (addF p q) r = addF (conv p r) (conv q r) := by
  rw [conv_comm, conv_add, conv_comm r p, conv_comm r q]
theorem conv_assoc (p q r : Nat → UInt8) : conv (conv p q) r = conv p (conv q r) := by
  funext k
  have e1 : conv (conv p q) r k = S (k + 1) (fun i => S (i + 1) (fun j => mu (mu (p j) (q (i - j))) (r (k - i)))) := by
    unfold conv; exact S_congr fun i _ => S_mu _ _ _
  have e2 : conv p (conv q r) k = S (k + 1) (fun j => S (k + 1 - j) (fun l => mu (mu (p j) (q (j + l - j))) (r (k - (j + l))))) := by
    unfold conv
    refine S_congr fun j hj => ?_
    rw [mu_S, show k + 1 - j = k - j + 1 by omega]
    refine S_congr fun l hl => ?_
    rw [mu_assoc, show j + l - j = l by omega, show k - (j + l) = k - j - l by omega]
  rw [e1, e2, S_tri (k + 1) (fun i j => mu (mu (p j) (q (i - j))) (r (k - i)))]
/-- 0 from n on -/
def Fin0 (f : Nat → UInt8) (n : Nat) : Prop := ∀ i, n ≤ i → f i = 0
theorem Fin0.mono {f : Nat → UInt8} {n m : Nat} (h : Fin0 f n) (hm : n ≤ m) : Fin0 f m := fun i hi => h i (by omega)
theorem Fin0.add {f g : Nat → UInt8} {n : Nat} (h : Fin0 f n) (k : Fin0 g n) : Fin0 (addF f g) n := fun i hi => by
  unfold addF; rw [h i hi, k i hi]; exact x_self 0
theorem Fin0.conv {f g : Nat → UInt8} {n m : Nat} (h : Fin0 f n) (k : Fin0 g m) : Fin0 (conv f g) (n + m - 1) := fun i hi => by
  unfold Gf.conv
  refine S_zero fun j hj => ?_
  by_cases e : n ≤ j
  · rw [h j e, zero_mu]
  · rw [k (i - j) (by omega), mu_zero]
/-- A product's top. -/
theorem conv_top {f g : Nat → UInt8} {n m : Nat} (h : Fin0 f (n + 1)) (k : Fin0 g (m + 1)) : conv f g (n + m) = mu (f n) (g m) := by
  unfold conv
  have e := S_one (n := n + m + 1) (k := n) (f := fun i => mu (f i) (g (n + m - i))) (by omega) (fun i h1 h2 => by
    by_cases e : n < i
    · show mu (f i) _ = 0
      rw [h i (by omega), zero_mu]
    · show mu _ (g (n + m - i)) = 0
      rw [k (n + m - i) (by omega), mu_zero])
  rw [e]
  show mu (f n) (g (n + m - n)) = _
  rw [show n + m - n = m by omega]
theorem conv_zero {f : Nat → UInt8} {g : Nat → UInt8} (h : ∀ i, g i = 0) (k : Nat) : conv f g k = 0 := by
  unfold conv; exact S_zero fun i _ => by rw [h, mu_zero]
def pwr (x : UInt8) : Nat → UInt8
  | 0 => 1
  | i + 1 => mu (pwr x i) x
theorem pwr_add (x : UInt8) (i j : Nat) : pwr x (i + j) = mu (pwr x i) (pwr x j) := by
  induction j with
  | zero => rw [Nat.add_zero, pwr, mu_one]
  | succ j ih => rw [← Nat.add_assoc, pwr, ih, pwr, mu_assoc]
def ev (n : Nat) (f : Nat → UInt8) (x : UInt8) : UInt8 := S n (fun i => mu (f i) (pwr x i))
theorem ev_more {f : Nat → UInt8} {n m : Nat} (x : UInt8) (h : Fin0 f n) (hm : n ≤ m) : ev m f x = ev n f x := by
  unfold ev; exact S_more hm fun i h1 _ => by rw [h i h1, zero_mu]
theorem ev_add (n : Nat) (f g : Nat → UInt8) (x : UInt8) : ev n (addF f g) x = ev n f x ^^^ ev n g x := by
  unfold ev addF; rw [← S_xor]; exact S_congr fun i _ => xor_mu _ _ _
theorem ev_conv {f g : Nat → UInt8} {n m : Nat} (x : UInt8) (h : Fin0 f n) (k : Fin0 g m) : ev (n + m) (conv f g) x = mu (ev n f x) (ev m g x) := by
  have e1 : ev (n + m) (conv f g) x = S (n + m) (fun i => S (i + 1) (fun j => mu (mu (f j) (pwr x j)) (mu (g (i - j)) (pwr x (i - j))))) := by
    unfold ev conv
    refine S_congr fun i _ => ?_
    rw [S_mu]
    refine S_congr fun j hj => ?_
    have : pwr x i = mu (pwr x j) (pwr x (i - j)) := by rw [← pwr_add, show j + (i - j) = i by omega]
    rw [this, mu_assoc, mu_assoc, mu_left (g (i - j))]
  rw [e1, S_tri (n + m) (fun i j => mu (mu (f j) (pwr x j)) (mu (g (i - j)) (pwr x (i - j))))]
  have e2 : ∀ j, j < n + m → S (n + m - j) (fun l => mu (mu (f j) (pwr x j)) (mu (g (j + l - j)) (pwr x (j + l - j)))) = mu (mu (f j) (pwr x j)) (ev m g x) := by
    intro j hj
    rw [← mu_S (mu (f j) (pwr x j)) (n + m - j) (fun l => mu (g (j + l - j)) (pwr x (j + l - j)))]
    by_cases e : n ≤ j
    · rw [h j e, zero_mu, zero_mu, zero_mu]
    · have : S (n + m - j) (fun l => mu (g (j + l - j)) (pwr x (j + l - j))) = ev (n + m - j) g x := by
        unfold ev; exact S_congr fun l _ => by rw [show j + l - j = l by omega]
      rw [this, ev_more x k (by omega)]
  rw [S_congr e2]
  unfold ev
  rw [← S_mu]
  congr 1
  exact S_more (by omega) fun i h1 _ => by rw [h i h1, zero_mu]
def od (n : Nat) (a : UInt8) : UInt8 := if n % 2 = 1 then a else 0
def der (f : Nat → UInt8) (i : Nat) : UInt8 := od (i + 1) (f (i + 1))
theorem od_mu (n : Nat) (a b : UInt8) : mu (od n a) b = od n (mu a b) := by
  unfold od; split
  · rfl
  · exact zero_mu b
theorem mu_od (n : Nat) (a b : UInt8) : mu a (od n b) = od n (mu a b) := by rw [mu_comm, od_mu, mu_comm]
theorem od_add (n m : Nat) (a : UInt8) : od (n + m) a = od n a ^^^ od m a := by
  unfold od
  by_cases h1 : n % 2 = 1
  · by_cases h2 : m % 2 = 1
    · rw [if_pos h1, if_pos h2, if_neg (by omega), x_self]
    · rw [if_pos h1, if_neg h2, if_pos (by omega), x_zero]
  · by_cases h2 : m % 2 = 1
    · rw [if_neg h1, if_pos h2, if_pos (by omega), zero_x]
    · rw [if_neg h1, if_neg h2, if_neg (by omega), x_self]
theorem od_xor (n : Nat) (a b : UInt8) : od n (a ^^^ b) = od n a ^^^ od n b := by
  unfold od; split
  · rfl
  · exact (x_self 0).symm
theorem od_S (m n : Nat) (f : Nat → UInt8) : od m (S n f) = S n (fun i => od m (f i)) := by
  induction n with
  | zero => unfold od; split <;> rfl
  | succ n ih => rw [S, S, od_xor, ih]
theorem od_zero (a : UInt8) : od 0 a = 0 := rfl
theorem der_conv (f g : Nat → UInt8) : der (conv f g) = addF (conv (der f) g) (conv f (der g)) := by
  funext k
  have e : der (conv f g) k = S (k + 2) (fun i => od i (mu (f i) (g (k + 1 - i)))) ^^^ S (k + 2) (fun i => od (k + 1 - i) (mu (f i) (g (k + 1 - i)))) := by
    unfold der conv
    rw [od_S, ← S_xor]
    refine S_congr fun i hi => ?_
    rw [← od_add, show i + (k + 1 - i) = k + 1 by omega]
  rw [e]
  unfold addF
  congr 1
  · rw [S_head, od_zero, zero_x]
    unfold conv der
    refine S_congr fun i hi => ?_
    rw [od_mu, show k + 1 - (i + 1) = k - i by omega]
  · rw [S, show k + 1 - (k + 1) = 0 by omega, od_zero, x_zero]
    unfold conv der
    refine S_congr fun i hi => ?_
    rw [mu_od, show k + 1 - i = k - i + 1 by omega]
theorem Fin0.der {f : Nat → UInt8} {n : Nat} (h : Fin0 f n) : Fin0 (der f) (n - 1) := fun i hi => by
  unfold Gf.der
  rw [h (i + 1) (by omega)]
  unfold od; split <;> rfl
theorem div_one {q s r s' r' : Nat → UInt8} {m n : Nat} (hq : Fin0 q (m + 1)) (hm : q m ≠ 0) (hs : Fin0 s n) (hs' : Fin0 s' n) (hr : Fin0 r m) (hr' : Fin0 r' m)
    (h : ∀ i, conv s q i ^^^ r i = conv s' q i ^^^ r' i) : (∀ i, s i = s' i) ∧ ∀ i, r i = r' i := by
  have key : ∀ k, k ≤ n → ∀ i, n - k ≤ i → s i = s' i := by
    intro k
    induction k with
    | zero => intro _ i hi; rw [hs i (by omega), hs' i (by omega)]
    | succ k ih =>
      intro hk i hi
      by_cases e : n - k ≤ i
      · exact ih (by omega) i e
      · have ei : i = n - (k + 1) := by omega
        subst ei
        have hF : Fin0 (addF s s') (n - (k + 1) + 1) := fun j hj => by
          unfold addF
          rw [ih (by omega) j (by omega), x_self]
        have ht := conv_top hF hq
        have h0 := h (n - (k + 1) + m)
        rw [hr _ (by omega), hr' _ (by omega), x_zero, x_zero] at h0
        rw [add_conv] at ht
        unfold addF at ht
        rw [h0, x_self] at ht
        rcases mu_eq_zero.1 ht.symm with e1 | e1
        · exact x_eq_zero.1 e1
        · exact absurd e1 hm
  have hss : ∀ i, s i = s' i := fun i => key n (by omega) i (by omega)
  refine ⟨hss, fun i => ?_⟩
  have := h i
  have e : conv s q i = conv s' q i := by
    unfold conv; exact S_congr fun j _ => by rw [hss]
  rw [e] at this
  have h2 : conv s' q i ^^^ (conv s' q i ^^^ r i) = conv s' q i ^^^ (conv s' q i ^^^ r' i) := by rw [this]
  rwa [x_cancel, x_cancel] at h2
end Go.Proofs.YtddnfhfangfgeaaGreat.Gf

namespace Go.Proofs.YtddnfhfangfgeaaGreat.Gf
set_option linter.unusedVariables false
set_option linter.unusedSimpArgs false
def co (p : List UInt8) (i : Nat) : UInt8 := p[i]?.getD 0
theorem co_lt {p : List UInt8} {i : Nat} (h : i < p.length) : co p i = p[i] := by unfold co; rw [List.getElem?_eq_getElem h]; rfl
theorem co_ge {p : List UInt8} {i : Nat} (h : p.length ≤ i) : co p i = 0 := by unfold co; rw [List.getElem?_eq_none h]; rfl
theorem co_fin (p : List UInt8) : Fin0 (co p) p.length := fun i hi => co_ge hi
theorem co_nil (i : Nat) : co [] i = 0 := co_ge (by simp)
theorem co_ext {p q : List UInt8} (hl : p.length = q.length) (h : ∀ i, i < p.length → co p i = co q i) : p = q := by
  refine List.ext_getElem hl fun i h1 h2 => ?_
  have := h i h1
  rwa [co_lt h1, co_lt h2] at this
theorem co_append_lt {p q : List UInt8} {i : Nat} (h : i < p.length) : co (p ++ q) i = co p i := by
  unfold co; rw [List.getElem?_append_left h]
theorem co_append_ge {p q : List UInt8} {i : Nat} (h : p.length ≤ i) : co (p ++ q) i = co q (i - p.length) := by
  unfold co; rw [List.getElem?_append_right h]
theorem co_take {p : List UInt8} {n i : Nat} (h : i < n) : co (p.take n) i = co p i := by
  unfold co; rw [List.getElem?_take_of_lt h]
theorem co_set {p : List UInt8} {j : Nat} (x : UInt8) (hj : j < p.length) (i : Nat) : co (p.set j x) i = if i = j then x else co p i := by
  unfold co
  by_cases e : i = j
  · subst e; rw [if_pos rfl, List.getElem?_set_self hj]; rfl
  · rw [if_neg e, List.getElem?_set_ne (fun h => e h.symm)]
theorem co_map_range (f : Nat → UInt8) {n i : Nat} (h : i < n) : co ((List.range n).map f) i = f i := by
  rw [co_lt (by simpa using h)]; simp
def deg (f : Nat → UInt8) : Nat → Nat
  | 0 => 0
  | n + 1 => if f n = 0 then deg f n else n + 1
theorem deg_le (f : Nat → UInt8) (n : Nat) : deg f n ≤ n := by
  induction n with
  | zero => exact Nat.le_refl _
  | succ n ih => rw [deg]; split <;> omega
theorem deg_top (f : Nat → UInt8) (n : Nat) : deg f n ≠ 0 → f (deg f n - 1) ≠ 0 := by
  induction n with
  | zero => intro h; exact absurd rfl h
  | succ n ih =>
    rw [deg]; split
    · exact ih
    · intro _; rwa [Nat.add_sub_cancel]
theorem deg_over (f : Nat → UInt8) (n : Nat) : ∀ i, deg f n ≤ i → i < n → f i = 0 := by
  induction n with
  | zero => intro i _ h; omega
  | succ n ih =>
    rw [deg]; split
    · intro i h1 h2
      by_cases e : i = n
      · rw [e]; assumption
      · exact ih i h1 (by omega)
    · intro i h1 h2; omega
theorem deg_fin {f : Nat → UInt8} {n : Nat} (h : Fin0 f n) : Fin0 f (deg f n) := fun i hi => by
  by_cases e : i < n
  · exact deg_over f n i hi e
  · exact h i (by omega)
theorem deg_unique {f : Nat → UInt8} {n d : Nat} (hn : Fin0 f n) (h : Fin0 f d) (ht : d ≠ 0 → f (d - 1) ≠ 0) : deg f n = d := by
  have hf := deg_fin hn
  by_cases e : deg f n < d
  · exact absurd (hf (d - 1) (by omega)) (ht (by omega))
  · by_cases e2 : d < deg f n
    · exact absurd (h (deg f n - 1) (by omega)) (deg_top f n (by omega))
    · omega
theorem deg_same {f g : Nat → UInt8} {n m : Nat} (hf : Fin0 f n) (hg : Fin0 g m) (h : ∀ i, f i = g i) : deg f n = deg g m := by
  have e : f = g := funext h
  subst e
  exact deg_unique hf (deg_fin hg) (deg_top f m)
/-- The list of f's numbers up to its top (f is 0 from n on). -/
def mk (f : Nat → UInt8) (n : Nat) : List UInt8 := (List.range (deg f n)).map f
theorem mk_length (f : Nat → UInt8) (n : Nat) : (mk f n).length = deg f n := by simp [mk]
theorem co_mk {f : Nat → UInt8} {n : Nat} (h : Fin0 f n) : co (mk f n) = f := by
  funext i
  by_cases e : i < deg f n
  · exact co_map_range f e
  · rw [co_ge (by rw [mk_length]; omega), deg_fin h i (by omega)]
theorem mk_same {f g : Nat → UInt8} {n m : Nat} (hf : Fin0 f n) (hg : Fin0 g m) (h : ∀ i, f i = g i) : mk f n = mk g m := by
  have e : f = g := funext h
  subst e
  unfold mk
  rw [deg_same hf hg (fun _ => rfl)]
def norm (p : List UInt8) : List UInt8 := mk (co p) p.length
theorem co_norm (p : List UInt8) : co (norm p) = co p := co_mk (co_fin p)
theorem norm_mk {f : Nat → UInt8} {n : Nat} (h : Fin0 f n) : norm (mk f n) = mk f n :=
  mk_same (co_fin _) h fun i => by rw [co_mk h]
theorem norm_of {p : List UInt8} {f : Nat → UInt8} {n : Nat} (hf : Fin0 f n) (h : ∀ i, co p i = f i) : norm p = mk f n := mk_same (co_fin p) hf h
def addP (p q : List UInt8) : List UInt8 := mk (addF (co p) (co q)) (p.length + q.length)
def mulP (p q : List UInt8) : List UInt8 := mk (conv (co p) (co q)) (p.length + q.length)
def derP (p : List UInt8) : List UInt8 := mk (der (co p)) p.length
def evP (p : List UInt8) (x : UInt8) : UInt8 := ev p.length (co p) x
theorem fin_add (p q : List UInt8) : Fin0 (addF (co p) (co q)) (p.length + q.length) := ((co_fin p).mono (by omega)).add ((co_fin q).mono (by omega))
theorem fin_conv (p q : List UInt8) : Fin0 (conv (co p) (co q)) (p.length + q.length) := ((co_fin p).conv (co_fin q)).mono (by omega)
theorem fin_der (p : List UInt8) : Fin0 (der (co p)) p.length := (co_fin p).der.mono (by omega)
theorem co_addP (p q : List UInt8) : co (addP p q) = addF (co p) (co q) := co_mk (fin_add p q)
theorem co_mulP (p q : List UInt8) : co (mulP p q) = conv (co p) (co q) := co_mk (fin_conv p q)
theorem co_derP (p : List UInt8) : co (derP p) = der (co p) := co_mk (fin_der p)
/-- Two that are answered are one, if their numbers are. -/
theorem mk_ext {f g : Nat → UInt8} {n m : Nat} (hf : Fin0 f n) (hg : Fin0 g m) (h : f = g) : mk f n = mk g m := mk_same hf hg fun i => by rw [h]
theorem deg_conv {f g : Nat → UInt8} {n m k : Nat} (hf : Fin0 f n) (hg : Fin0 g m) (hk : Fin0 (conv f g) k) :
    deg (conv f g) k = if deg f n = 0 ∨ deg g m = 0 then 0 else deg f n + deg g m - 1 := by
  have h1 := deg_fin hf
  have h2 := deg_fin hg
  by_cases e1 : deg f n = 0
  · rw [if_pos (Or.inl e1)]
    refine deg_unique hk (fun i _ => ?_) (fun h => absurd rfl h)
    rw [conv_comm]; exact conv_zero (fun j => h1 j (by omega)) i
  · by_cases e2 : deg g m = 0
    · rw [if_pos (Or.inr e2)]
      refine deg_unique hk (fun i _ => ?_) (fun h => absurd rfl h)
      exact conv_zero (fun j => h2 j (by omega)) i
    · rw [if_neg (by omega)]
      refine deg_unique hk (h1.conv h2) (fun _ => ?_)
      have ht := conv_top (f := f) (g := g) (n := deg f n - 1) (m := deg g m - 1) (h1.mono (by omega)) (h2.mono (by omega))
      rw [show deg f n + deg g m - 1 - 1 = deg f n - 1 + (deg g m - 1) by omega, ht]
      exact mu_ne (deg_top f n e1) (deg_top g m e2)
end Go.Proofs.YtddnfhfangfgeaaGreat.Gf

namespace Go.Proofs.YtddnfhfangfgeaaGreat.Gf
set_option linter.unusedVariables false
set_option linter.unusedSimpArgs false
open Go.RowKit
def vb (a : UInt8) : Value := .int .u8 ((a.toNat : Nat) : Int)
def Rd (w : World) (v : Value) (p : List UInt8) : Prop :=
  (∃ ao cap, p = [] ∧ v = .slice ao 0 cap ∧ cap ≤ maxLen ∧ (ao = none → cap = 0)) ∨
  (∃ b off cap, p ≠ [] ∧ v = .slice (some ⟨b, off, none⟩) p.length cap ∧ p.length ≤ cap ∧ cap ≤ maxLen ∧ b < w.heap.size ∧ ∀ i, i < p.length → w.cell? ⟨b, off + i, none⟩ = some (.int .u8 ((co p i).toNat : Nat)))
theorem Rd.below {w w' : World} {v : Value} {p : List UInt8} (h : Rd w v p) (hb : Below w.heap.size w w') : Rd w' v p := by
  rcases h with h | ⟨b, off, cap, h1, h2, h3, h4, h5, h6⟩
  · exact Or.inl h
  · exact Or.inr ⟨b, off, cap, h1, h2, h3, h4, Nat.lt_of_lt_of_le h5 hb.size, fun i hi => (hb.cell (p := ⟨b, off + i, none⟩) h5).trans (h6 i hi)⟩
theorem Rd.drewN {w : World} {v : Value} {p : List UInt8} (h : Rd w v p) (n : Nat) : Rd (w.drewN n) v p := h
theorem Rd.form {w : World} {v : Value} {p : List UInt8} (h : Rd w v p) : ∃ a c, v = .slice a p.length c := by
  rcases h with ⟨a, c, rfl, rfl, _⟩ | ⟨b, off, c, _, rfl, _⟩
  · exact ⟨a, c, rfl⟩
  · exact ⟨_, c, rfl⟩
theorem Rd.len {w : World} {v : Value} {p : List UInt8} (h : Rd w v p) : p.length ≤ maxLen := by
  rcases h with ⟨_, _, h, _⟩ | ⟨_, _, _, _, _, h3, h4, _⟩
  · subst h; exact Nat.zero_le _
  · omega
theorem xor_u8 (x y : UInt8) : bits .xor .u8 ((x.toNat : Nat) : Int) ((y.toNat : Nat) : Int) = (((x ^^^ y).toNat : Nat) : Int) := by
  rw [u8_xor_nat _ _ (u8_lt x) (u8_lt y), UInt8.toNat_xor]
theorem eq_u8 (x y : UInt8) : (((x.toNat : Nat) : Int) == ((y.toNat : Nat) : Int)) = decide (x = y) := by
  rw [Bool.eq_iff_iff, beq_iff_eq, decide_eq_true_eq]
  exact ⟨fun h => u8_ext (by omega), fun h => by rw [h]⟩
theorem ne_u8 (x y : UInt8) : (((x.toNat : Nat) : Int) != ((y.toNat : Nat) : Int)) = decide (x ≠ y) := by
  rw [bne, eq_u8]; by_cases h : x = y <;> simp [h]
theorem eq_u8_zero (x : UInt8) : (((x.toNat : Nat) : Int) == 0) = decide (x = 0) := eq_u8 x 0
theorem ofNat_u8 {x : Nat} (h : x < 256) : ((UInt8.ofNat x).toNat : Nat) = x := by rw [UInt8.toNat_ofNat']; exact Nat.mod_eq_of_lt h
theorem add_at (b off j : Nat) : (⟨b, off, none⟩ : Addr).add j = ⟨b, off + j, none⟩ := by
  unfold Addr.add; split
  · subst j; rfl
  · rfl
/-- The cells of the first k bytes, as the laws on append and copy ask for them. -/
theorem news_of {W : World} {b off k : Nat} {p : List UInt8} (h : ∀ i, i < p.length → W.cell? ⟨b, off + i, none⟩ = some (.int .u8 ((co p i).toNat : Nat))) :
    ∀ j u, ((p.take k).map vb)[j]? = some u → W.cell? ((⟨b, off, none⟩ : Addr).add j) = some u := by
  intro j u hj
  rw [add_at]
  rw [List.getElem?_map] at hj
  by_cases hjk : j < k
  · rw [List.getElem?_take_of_lt hjk] at hj
    by_cases hjp : j < p.length
    · rw [List.getElem?_eq_getElem hjp] at hj
      rw [h j hjp, co_lt hjp]
      simpa [vb] using hj
    · rw [List.getElem?_eq_none (by omega)] at hj; cases hj
  · rw [List.getElem?_eq_none (by rw [List.length_take]; omega)] at hj; cases hj
theorem vb_one (p : List UInt8) : ∀ u ∈ p.map vb, u.oneCell' = true := by
  intro u hu
  obtain ⟨a, _, rfl⟩ := List.mem_map.1 hu
  rfl
/-- A row of the call's own reads as its bytes. -/
theorem Rd.owned {w : World} {base e : Nat} {v : Value} {p : List UInt8} (h : w.ownsRow base e 1 v p.length (p.map vb)) : Rd w v p := by
  obtain ⟨_, ⟨hv, hn⟩ | ⟨g, cap, cur, hv, hg, hh, hc, hm, hs, ht⟩⟩ := h
  · exact Or.inl ⟨none, 0, List.length_eq_zero_iff.1 hn, hv, Nat.zero_le _, fun _ => rfl⟩
  · by_cases hp : p = []
    · subst hp; exact Or.inl ⟨_, cap, rfl, hv, hm, fun h => by cases h⟩
    · refine Or.inr ⟨g, 0, cap, hp, hv, hc, hm, (Array.getElem?_eq_some_iff.1 hh).1, fun i hi => ?_⟩
      have e1 : (p.map vb)[i]? = some (vb (co p i)) := by rw [List.getElem?_map, List.getElem?_eq_getElem hi, co_lt hi]; rfl
      rw [← ht, Nat.mul_one, List.getElem?_take_of_lt hi] at e1
      rw [Nat.zero_add]
      unfold World.cell?
      rw [hh]
      simpa [vb] using e1
theorem ownsRow_base {w : World} {base base' e n : Nat} {v : Value} {xs : List Value} (h : w.ownsRow base e 1 v n xs) (hb : base' ≤ base) : w.ownsRow base' e 1 v n xs := by
  obtain ⟨h0, h | ⟨g, cap, cur, hv, hg, r⟩⟩ := h
  · exact ⟨h0, Or.inl h⟩
  · exact ⟨h0, Or.inr ⟨g, cap, cur, hv, Nat.le_trans hb hg, r⟩⟩
/-- The first k numbers of a function of places. -/
def upto (f : Nat → UInt8) (k : Nat) : List UInt8 := (List.range k).map f
theorem upto_length (f : Nat → UInt8) (k : Nat) : (upto f k).length = k := by simp [upto]
theorem co_upto {f : Nat → UInt8} {k : Nat} (h : Fin0 f k) (i : Nat) : co (upto f k) i = f i := by
  by_cases hi : i < k
  · exact co_map_range f hi
  · rw [co_ge (by rw [upto_length]; omega), h i (by omega)]
theorem norm_upto {f : Nat → UInt8} {k n : Nat} (h : Fin0 f k) (hn : Fin0 f n) : norm (upto f k) = mk f n := norm_of hn (co_upto h)
/-- What the call owns, behind another call. -/
theorem owns_later {wr w1 : World} {e n : Nat} {v : Value} {xs : List Value} {base : Nat} (h : wr.ownsRow base e 1 v n xs) (hb : Below wr.heap.size wr w1) : w1.ownsRow base e 1 v n xs := by
  obtain ⟨h0, h | ⟨g, cap, cur, hv, hg, hh, r⟩⟩ := h
  · exact ⟨h0, Or.inl h⟩
  · exact ⟨h0, Or.inr ⟨g, cap, cur, hv, hg, by rw [hb.block g (Array.getElem?_eq_some_iff.1 hh).1]; exact hh, r⟩⟩
/-- A slice of bytes that came in, as the frame of a statement's proof tells it. -/
theorem rd_row {w : World} {a : Option Addr} {len cap : Nat} {zs : List Int}
    (h : (a = none ∧ len = 0 ∧ cap = 0 ∧ zs = []) ∨ ∃ x, a = some x ∧ len ≤ cap ∧ cap ≤ maxLen ∧ zs.length = cap ∧ (∀ i, i < zs.length → w.cell? (x.add i) = some (.int .u8 (zs.getD i 0))) ∧ ∀ n ∈ zs, (Lit.int .u8 n).wf = true) :
    ∃ p : List UInt8, len = p.length ∧ Rd w (.slice a len cap) p := by
  rcases h with ⟨rfl, rfl, rfl, rfl⟩ | ⟨x, rfl, hl, hm, hz, hcell, hwz⟩
  · exact ⟨[], rfl, Or.inl ⟨none, 0, rfl, rfl, Nat.zero_le _, fun _ => rfl⟩⟩
  · refine ⟨(zs.take len).map (fun n => UInt8.ofNat n.toNat), by rw [List.length_map, List.length_take]; omega, ?_⟩
    by_cases h0 : len = 0
    · subst h0
      exact Or.inl ⟨_, cap, rfl, rfl, hm, fun h => by cases h⟩
    · obtain ⟨b, off, spot⟩ := x
      have hc := hcell 0 (by omega)
      have hspot : spot = none := by simpa [Addr.add] using World.cell?_spot hc
      subst hspot
      have hlen : ((zs.take len).map (fun n => UInt8.ofNat n.toNat)).length = len := by rw [List.length_map, List.length_take]; omega
      have hbw : b < w.heap.size := by
        have e : w.cell? ⟨b, off, none⟩ = some (.int .u8 (zs.getD 0 0)) := by simpa [Addr.add] using hc
        unfold World.cell? at e
        by_cases hb : b < w.heap.size
        · exact hb
        · rw [Array.getElem?_eq_none (by show w.heap.size ≤ b; omega)] at e; cases e
      refine Or.inr ⟨b, off, cap, fun h => by rw [h] at hlen; simp at hlen; omega, by rw [hlen], by rw [hlen]; exact hl, hm, hbw, fun i hi => ?_⟩
      rw [hlen] at hi
      have e1 := hcell i (by omega)
      rw [add_at] at e1
      rw [e1]
      have hi2 : i < zs.length := by omega
      have e2 : co ((zs.take len).map (fun n => UInt8.ofNat n.toNat)) i = UInt8.ofNat (zs[i]).toNat := by
        rw [co_lt (by rw [hlen]; exact hi)]; simp
      rw [e2]
      have hw := hwz zs[i] (List.getElem_mem hi2)
      have hb := bounds_u8 hw
      rw [ofNat_u8 (by omega)]
      have e3 : zs.getD i 0 = zs[i] := by simp [List.getD, hi2]
      rw [e3]
      congr 2
      omega
theorem rd_lit {w : World} {n : Nat} {cs : Array Value} {e : Nat} (p : List UInt8) (hn : p.length = n) (hs : cs.toList = p.map vb) (hl : n ≤ 1000000) : Rd (w.alloc (.cells cs e)) (.slice (some ⟨w.heap.size, 0, none⟩) n n) p := by
  subst hn
  refine Rd.owned (base := w.heap.size) (e := e) ?_
  rw [← hs]
  exact World.ownsRow_lit w cs p.length (Nat.le_refl _) (by unfold maxLen; omega) (by rw [← Array.length_toList, hs]; simp)
theorem below_lit {w w' : World} (h : Below w.heap.size w w') (o : Obj) : Below w.heap.size w (w'.alloc o) := h.alloc h.size o
end Go.Proofs.YtddnfhfangfgeaaGreat.Gf

namespace Go.Proofs.YtddnfhfangfgeaaGreat.Gf
set_option linter.unusedVariables false
set_option linter.unusedSimpArgs false
open Go.RowKit
/-- what the first i numbers of p give at the place t -/
def pc (p q : Nat → UInt8) (i t : Nat) : UInt8 := S i (fun j => if j ≤ t then mu (p j) (q (t - j)) else 0)
/-- .. and the first k products of the next one -/
def pk (p q : Nat → UInt8) (i k t : Nat) : UInt8 := pc p q i t ^^^ (if i ≤ t ∧ t < i + k then mu (p i) (q (t - i)) else 0)
theorem pc_whole {p q : Nat → UInt8} {n : Nat} (hp : Fin0 p n) : pc p q n = conv p q := by
  funext t
  unfold pc conv
  have e1 : S (n + (t + 1)) (fun j => if j ≤ t then mu (p j) (q (t - j)) else 0) = S n (fun j => if j ≤ t then mu (p j) (q (t - j)) else 0) :=
    S_more (by omega) fun i h1 _ => by split
                                       · rw [hp i h1, zero_mu]
                                       · rfl
  have e2 : S (n + (t + 1)) (fun j => if j ≤ t then mu (p j) (q (t - j)) else 0) = S (t + 1) (fun j => if j ≤ t then mu (p j) (q (t - j)) else 0) :=
    S_more (by omega) fun i h1 _ => if_neg (by omega)
  rw [← e1, e2]
  exact S_congr fun i hi => if_pos (by omega)
theorem upto_set {f g : Nat → UInt8} {L j : Nat} (hj : j < L) (x : UInt8) (h : ∀ t, g t = if t = j then x else f t) : (upto f L).set j x = upto g L := by
  refine co_ext (by simp [upto]) fun i hi => ?_
  rw [List.length_set, upto_length] at hi
  rw [co_set x (by rw [upto_length]; exact hj)]
  rw [upto, co_map_range f hi, upto, co_map_range g hi, h]
theorem upto_congr {f g : Nat → UInt8} {L : Nat} (h : ∀ t, t < L → f t = g t) : upto f L = upto g L := by
  refine co_ext (by simp [upto]) fun i hi => ?_
  rw [upto_length] at hi
  rw [upto, co_map_range f hi, upto, co_map_range g hi, h i hi]
theorem upto_zeros (L : Nat) : (upto (fun _ => 0) L).map vb = List.replicate L (.int .u8 0) := by
  unfold upto
  rw [List.map_map]
  refine List.ext_getElem (by simp) fun i h1 h2 => ?_
  simp [vb]
/-- A row of the call's own that holds the first L numbers of f (C: its capacity). -/
def RowF (w : World) (base e g L C : Nat) (f : Nat → UInt8) : Prop := w.ownsRow base e 1 (.slice (some ⟨g, 0, none⟩) L C) L ((upto f L).map vb)
theorem RowF.cell {w : World} {base e g L C : Nat} {f : Nat → UInt8} (h : RowF w base e g L C f) {j : Nat} (hj : j < L) : w.cell? ⟨g, j, none⟩ = some (.int .u8 ((f j).toNat : Nat)) := by
  have e1 := World.ownsRow.cellAt h j (by omega)
  rw [e1, List.getElem?_map]
  unfold upto
  rw [List.getElem?_map, List.getElem?_range hj]
  rfl
theorem RowF.unfrozen {w : World} {base e g L C : Nat} {f : Nat → UInt8} (h : RowF w base e g L C f) (j : Nat) : w.frozen? ⟨g, j, none⟩ = false := World.ownsRow.frozenAt h j
theorem RowF.store {w : World} {base e g L C : Nat} {f f' : Nat → UInt8} (h : RowF w base e g L C f) {j : Nat} (hj : j < L) (x : UInt8) (hf : ∀ t, f' t = if t = j then x else f t) :
    RowF (w.setCell ⟨g, j, none⟩ (.int .u8 ((x.toNat : Nat) : Int))) base e g L C f' := by
  have e1 := (World.ownsRow.stored h j (.int .u8 ((x.toNat : Nat) : Int))).1
  unfold RowF
  rw [← upto_set hj x hf, List.map_set]
  exact e1
theorem RowF.congr {w : World} {base e g L C : Nat} {f f' : Nat → UInt8} (h : RowF w base e g L C f) (hf : ∀ t, t < L → f t = f' t) : RowF w base e g L C f' := by
  unfold RowF; rw [← upto_congr hf]; exact h
theorem RowF.drew {w : World} {base e g L C : Nat} {f : Nat → UInt8} (h : RowF w base e g L C f) : RowF w.drew base e g L C f := World.ownsRow.drew h
theorem RowF.drewN {w : World} {base e g L C : Nat} {f : Nat → UInt8} (h : RowF w base e g L C f) (n : Nat) : RowF (w.drewN n) base e g L C f := h
theorem RowF.rd {w : World} {base e g L C : Nat} {f : Nat → UInt8} (h : RowF w base e g L C f) : Rd w (.slice (some ⟨g, 0, none⟩) L C) (upto f L) :=
  Rd.owned (base := base) (e := e) (by rw [upto_length]; exact h)
theorem RowF.made {w : World} {base e g L : Nat} (h : w.ownsRow base e 1 (.slice (some ⟨g, 0, none⟩) L L) L (madeCells (Value.cells (.int .u8 0)) (L * 1)).toList) : RowF w base e g L L (fun _ => 0) := by
  unfold RowF
  rw [upto_zeros]
  have e1 : (madeCells (Value.cells (.int .u8 0)) (L * 1)).toList = List.replicate L (.int .u8 0) := by
    rw [Nat.mul_one]; exact toList_madeCells_one _ _
  rw [← e1]; exact h
theorem RowF.lt {w : World} {base e g L C : Nat} {f : Nat → UInt8} (h : RowF w base e g L C f) : base ≤ g ∧ g < w.heap.size := World.ownsRow.lt h g rfl
/-- a store into another block -/
theorem RowF.other {w : World} {base e g L C : Nat} {f : Nat → UInt8} (h : RowF w base e g L C f) {a : Addr} (ha : g ≠ a.block) (u : Value) : RowF (w.setCell a u) base e g L C f := by
  obtain ⟨h0, h | ⟨g', cap, cur, hv, hg, hh, r⟩⟩ := h
  · exact ⟨h0, Or.inl h⟩
  · refine ⟨h0, Or.inr ⟨g', cap, cur, hv, hg, ?_, r⟩⟩
    have eg : g' = g := by simp at hv; exact hv.1.symm
    rw [Below.heap_setCell _ _ _ _ (by rw [eg]; exact ha)]
    exact hh
theorem RowF.later {w w' : World} {base e g L C : Nat} {f : Nat → UInt8} (h : RowF w base e g L C f) (hb : Below w.heap.size w w') : RowF w' base e g L C f := owns_later h hb
theorem RowF.base {w : World} {base base' e g L C : Nat} {f : Nat → UInt8} (h : RowF w base e g L C f) (hb : base' ≤ base) : RowF w base' e g L C f := ownsRow_base h hb
/-- A list that is owned, and is not empty, lies at the head of a block. -/
theorem RowF.of {w : World} {base e : Nat} {v : Value} {p : List UInt8} (h : w.ownsRow base e 1 v p.length (p.map vb)) (hp : 0 < p.length) : ∃ g C, v = .slice (some ⟨g, 0, none⟩) p.length C ∧ RowF w base e g p.length C (co p) := by
  obtain ⟨h0, ⟨_, h⟩ | ⟨g, cap, cur, hv, r⟩⟩ := h
  · omega
  · refine ⟨g, cap, hv, ?_⟩
    have e1 : upto (co p) p.length = p := co_ext (upto_length _ _) fun i hi => by
      rw [upto_length] at hi; exact co_map_range _ hi
    unfold RowF
    rw [e1]
    subst hv
    exact ⟨h0, Or.inr ⟨g, cap, cur, rfl, r⟩⟩
end Go.Proofs.YtddnfhfangfgeaaGreat.Gf

