/-
  THE PROGRAM's 'Check', 'checkField' AND WHAT FILLS A PARITY SHARD's ROW (the closure of 'parityRow') BY CONTRACT.
-/
import Derived.Test.YtehphjapahdalaaCaOk
import Derived.Test.YtehphjapahdalaaMxOwn
import Derived.Test.YtehphjapahdalaaGfPow
namespace Go.Proofs.Ytehphjapahdalaa.Gf
set_option linter.unusedVariables false
set_option linter.unusedSimpArgs false
open Go.RowKit

set_option maxRecDepth 100000 in
set_option maxHeartbeats 1000000 in
theorem ccheck_same_ok {k m : Int} (w : World) (h : OkC k m) : Calls Try.prog 23 #[.int .i64 k, .int .i64 m] w fun e w' => e = .returned (.int .i64 0) ∧ w' = w := by
  obtain ⟨h1, h2, h3⟩ := h
  have k1 : decide (k < 1) = false := decide_eq_false (by omega)
  have k2 : decide (k > 256) = false := decide_eq_false (by omega)
  have k3 : decide (m < 0) = false := decide_eq_false (by omega)
  have k4 : decide (m > 256) = false := decide_eq_false (by omega)
  have k5 : decide (k + m > 256) = false := decide_eq_false (by omega)
  have gw : IntKind.i64.wrap (k + m) = k + m := by rw [IntKind.wrap_i64]; omega
  go_enter Try.func23, Try.ntmps23
  go_wp2
  go_ret
  exact ⟨rfl, rfl⟩
set_option maxRecDepth 100000 in
set_option maxHeartbeats 1000000 in
theorem ccheck_same_bad {k m : Int} (w : World) (h : ¬ OkC k m) : Calls Try.prog 23 #[.int .i64 k, .int .i64 m] w fun e w' => e = .returned (.int .i64 50) ∧ w' = w := by
  by_cases h1 : k < 1
  · have k1 : decide (k < 1) = true := decide_eq_true h1
    clear h h1
    go_enter Try.func23, Try.ntmps23
    go_wp2
    go_ret
    exact ⟨rfl, rfl⟩
  have k1 : decide (k < 1) = false := decide_eq_false h1
  by_cases h2 : k > 256
  · have k2 : decide (k > 256) = true := decide_eq_true h2
    clear h h1 h2
    go_enter Try.func23, Try.ntmps23
    go_wp2
    go_ret
    exact ⟨rfl, rfl⟩
  have k2 : decide (k > 256) = false := decide_eq_false h2
  by_cases h3 : m < 0
  · have k3 : decide (m < 0) = true := decide_eq_true h3
    clear h h1 h2 h3
    go_enter Try.func23, Try.ntmps23
    go_wp2
    go_ret
    exact ⟨rfl, rfl⟩
  have k3 : decide (m < 0) = false := decide_eq_false h3
  by_cases h4 : m > 256
  · have k4 : decide (m > 256) = true := decide_eq_true h4
    clear h h1 h2 h3 h4
    go_enter Try.func23, Try.ntmps23
    go_wp2
    go_ret
    exact ⟨rfl, rfl⟩
  have k4 : decide (m > 256) = false := decide_eq_false h4
  have k5 : decide (k + m > 256) = true := decide_eq_true (by
    by_cases h5 : k + m ≤ 256
    · exact absurd ⟨by omega, by omega, h5⟩ h
    · omega)
  have gw : IntKind.i64.wrap (k + m) = k + m := by rw [IntKind.wrap_i64]; omega
  clear h h1 h2 h3 h4
  go_enter Try.func23, Try.ntmps23
  go_wp2
  go_ret
  exact ⟨rfl, rfl⟩

theorem ccheck_ok {k m : Int} (w : World) (h : OkC k m) : Calls Try.prog 23 #[.int .i64 k, .int .i64 m] w fun e w' => e = .returned (.int .i64 0) ∧ Below w.heap.size w w' :=
  (ccheck_same_ok w h).mono fun e w' ⟨h1, h2⟩ => ⟨h1, h2 ▸ Below.refl _ _⟩
theorem ccheck_bad {k m : Int} (w : World) (h : ¬ OkC k m) : Calls Try.prog 23 #[.int .i64 k, .int .i64 m] w fun e w' => e = .returned (.int .i64 50) ∧ Below w.heap.size w w' :=
  (ccheck_same_bad w h).mono fun e w' ⟨h1, h2⟩ => ⟨h1, h2 ▸ Below.refl _ _⟩

set_option maxRecDepth 100000 in
set_option maxHeartbeats 1000000 in
theorem ccf_ok {k m : Int} {b : Nat} (w : World) (h : OkC k m) : Calls Try.prog 41 #[.pointer (some ⟨b, 0, none⟩), .int .i64 k, .int .i64 m] w fun e w' => e = .returned (.int .i64 0) ∧ w' = w := by
  go_enter Try.func41, Try.ntmps41
  go_wp2_with fail
  refine (ccheck_same_ok _ h).mono ?_
  rintro e w2 ⟨rfl, rfl⟩
  clear h
  go_wp2
  go_ret
  exact ⟨rfl, rfl⟩
set_option maxRecDepth 100000 in
set_option maxHeartbeats 1000000 in
theorem ccf_bad {k m : Int} {b : Nat} (w : World) (h : ¬ OkC k m) : Calls Try.prog 41 #[.pointer (some ⟨b, 0, none⟩), .int .i64 k, .int .i64 m] w fun e w' => e = .returned (.int .i64 50) ∧ w' = w := by
  go_enter Try.func41, Try.ntmps41
  go_wp2_with fail
  refine (ccheck_same_bad _ h).mono ?_
  rintro e w2 ⟨rfl, rfl⟩
  clear h
  go_wp2
  go_ret
  exact ⟨rfl, rfl⟩

set_option maxRecDepth 100000 in
set_option maxHeartbeats 2000000 in
/-- The closure fills the first k numbers of the row of the parity shard i. -/
theorem prow_fill {w : World} {b kb fb k i o n cap g m base : Nat} {f : Nat → UInt8} (hF : FieldAt w b) (hb : b ≠ g) (ck : w.cell? ⟨kb, 0, none⟩ = some (.int .i64 (k : Int))) (hk : kb ≠ g) (cf : w.cell? ⟨fb, 0, none⟩ = some (.pointer (some ⟨b, 0, none⟩))) (hf : fb ≠ g)
    (hki : k + i < 256) (hkn : k ≤ n) (hn : n ≤ 256) (hom : o + n ≤ m) (R : RowF w base 5 g m m f) {x : Int} (hx : x = (i : Int)) :
    Calls Try.prog 46 #[.int .i64 x, .slice (some ⟨g, o, none⟩) n cap, .pointer (some ⟨kb, 0, none⟩), .pointer (some ⟨fb, 0, none⟩)] w fun e w' => e = .returned (.tuple #[]) ∧ Only g w w' ∧ RowF w' base 5 g m m (putAt f o k (fun j => parF k i j)) := by
  subst hx
  obtain ⟨t, ht⟩ : ∃ t, Hid (t = k + i) := ⟨_, rfl⟩
  have g0 : (k : Int) + (i : Int) = (t : Int) := by have := ht.out; omega
  have ht2 : t < 256 := by have := ht.out; omega
  have m1 : (t : Int) % 256 = (t : Int) := by omega
  have w1 : IntKind.i64.wrap (t : Int) = (t : Int) := by rw [IntKind.wrap_i64]; omega
  go_enter Try.func46, Try.ntmps46
  go_wp2
  go_loopw [8] (fun v wr => ∃ j : Nat, j ≤ k ∧ v = .int .i64 j ∧ Only g w wr ∧ RowF wr base 5 g m m (putAt f o j (fun j => parF k i j))) (fun v _ => k - (intOf v).toNat)
  case atStart => exact ⟨0, by omega, rfl, by first | exact Only.refl _ _ | exact (Only.refl _ _).drew, by rw [putAt_zero]; first | exact R | exact R.drew⟩
  case round =>
    obtain ⟨j, hj, rfl, hO, hR⟩ := hrel
    have ck2 := (hO.cell (p := ⟨kb, 0, none⟩) hk).trans ck
    have cf2 := (hO.cell (p := ⟨fb, 0, none⟩) hf).trans cf
    have hF2 := hF.only hb hO
    clear hF ck cf R
    by_cases hlt : j < k
    · have hlt' : (j : Int) < (k : Int) := by omega
      have hj2 : (j : Int) % 256 = (j : Int) := by omega
      have X := pt_xor ht2 (show j < 256 by omega)
      have HP : Hid (parF k i j = iv (pt t ^^^ pt j)) := by show _ = _; rw [ht.out]; rfl
      obtain ⟨u, hu⟩ : ∃ u, Hid (u = pt t ^^^ pt j) := ⟨_, rfl⟩
      rw [← hu.out] at X HP
      have c4 : ∀ nd : Nat, (wr.drewN nd).cell? ⟨g, o + j, none⟩ = some (.int .u8 ((putAt f o j (fun j => parF k i j) (o + j)).toNat : Nat)) := fun nd => hR.cell (show o + j < m by omega)
      have f4 : ∀ nd : Nat, (wr.drewN nd).frozen? ⟨g, o + j, none⟩ = false := fun nd => hR.unfrozen (o + j)
      have HN : ∀ nd : Nat, Hid (RowF ((wr.drewN nd).setCell ⟨g, o + j, none⟩ (.int .u8 (invS u.toNat : Nat))) base 5 g m m (putAt f o (j + 1) (fun j => parF k i j))) := by
        intro nd
        have h := (hR.drewN nd).store (f' := putAt f o (j + 1) (fun j => parF k i j)) (show o + j < m by omega) (iv u) (fun s => by rw [putAt_step, HP.out])
        rw [iv_toNat] at h
        exact h
      have HT : ∀ nd : Nat, Hid (Only g w ((wr.drewN nd).setCell ⟨g, o + j, none⟩ (.int .u8 (invS u.toNat : Nat)))) := fun nd => (hO.drewN nd).setCell _ _
      clear hO hR
      go_wp2_with fail
      refine (inv_all hF2 u.toNat rfl (u8_lt u)).mono ?_
      rintro e w' ⟨rfl, nd, rfl⟩
      replace c4 := c4 nd
      replace f4 := f4 nd
      replace HN := HN nd
      replace HT := HT nd
      go_wp2
      go_roundw
      case rel => exact ⟨j + 1, by omega, by go_num, by first | exact HT.out | exact HT.out.drew, by first | exact HN.out | exact HN.out.drew⟩
      case measure => simp [intOf]; omega
    · have e : j = k := by omega
      subst e
      go_wp2
      go_end0
      exact ⟨rfl, hO, hR⟩

end Go.Proofs.Ytehphjapahdalaa.Gf
