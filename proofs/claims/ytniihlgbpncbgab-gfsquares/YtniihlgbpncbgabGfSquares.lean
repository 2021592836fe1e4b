/- PROVED: for all bytes a, b the call GfSquares(a, b) returns true, and its arguments read behind it as before; no conditions. -/
import Derived.Test.YtniihlgbpncbgabRows
import Derived.Test.YtniihlgbpncbgabGfAwake
import Derived.Test.YtniihlgbpncbgabGfAlg
import Derived.Test.YtniihlgbpncbgabGfEnd
import Derived.WalkKit
import Derived.ProofKit
import Derived.OpenShut
import Derived.ShutString
namespace Go.Proofs.Ytniihlgbpncbgab.gfSquares
open Go.ChangeShapes Go.WideShapes Go.ChangeAt Go.RowKit
open Go.ChangeMaps (open_string shut_string)
set_option linter.unusedVariables false      -- a walk need not use every 'w<i>' (that an integer argument fits its kind)

theorem own : ownKnob Try.prog.godebug = none := by kernel_rfl

open Gf
theorem powV_256 {a : Nat} (ha : a < 256) : powV a 256 = a := by
  by_cases h : a = 0
  · subst h; rfl
  · rw [powV_pos h, show tn 256 = 1 from rfl, Nat.mul_one, Nat.mod_eq_of_lt (lg_lt ha), pw_lg ha h]
theorem powE_256 (a : Nat) : powE a 256 = 0 := by
  unfold powE; rw [if_neg (by omega)]

set_option maxRecDepth 100000 in
set_option maxHeartbeats 2000000 in
theorem walk (a0 : Int) (a1 : Int) (w0 : (Lit.int .u8 a0).wf = true) (w1 : (Lit.int .u8 a1).wf = true) (w : World) :
    Calls Try.prog 4 #[.int .u8 a0, .int .u8 a1] w fun e w' => e = .returned (.bool true) ∧ Grown w w' := by
  obtain ⟨a, rfl, ha⟩ := u8_nat w0
  obtain ⟨b, rfl, hb⟩ := u8_nat w1
  have hx : bits .xor .u8 (a : Int) (b : Int) = ((a ^^^ b : Nat) : Int) := u8_xor_nat a b ha hb
  have hxl := xor_lt ha hb
  have hxx : bits .xor .u8 (mulS a a : Int) (mulS b b : Int) = ((mulS (a ^^^ b) (a ^^^ b) : Nat) : Int) := by rw [u8_xor_nat _ _ (mulS_lt _ _) (mulS_lt _ _), square_xor ha hb]
  have hin : (((mulS a a : Nat) : Int) == ((mulS b b : Nat) : Int)) = ((a : Int) == (b : Int)) := by
    rw [Bool.eq_iff_iff, beq_iff_eq, beq_iff_eq]
    constructor
    · intro h
      have := (square_inj ha hb).1 (by omega)
      omega
    · intro h
      have e : a = b := by omega
      rw [e]
  have e1 := powV_256 ha
  have e2 := powE_256 a
  have e3 : sq 8 a = a := sq_eight ha
  go_enter Try.func4, Try.ntmps4
  go_wp2_with fail
  refine (awake_any _).mono ?_
  rintro e w1 ⟨rfl, hO1⟩
  go_wp2_with fail
  refine (new_any _).mono ?_
  rintro e w2 ⟨rfl, hF, hO2⟩
  go_wp2_with fail
  refine (mul_at hF a a rfl rfl ha ha).mono ?_
  rintro e w' ⟨rfl, k1, rfl⟩
  go_wp2_with fail
  refine (mul_at (hF.drewN _) b b rfl rfl hb hb).mono ?_
  rintro e w' ⟨rfl, k2, rfl⟩
  go_wp2_with fail
  refine (mul_at (hF.drewN _) (a ^^^ b) (a ^^^ b) rfl rfl hxl hxl).mono ?_
  rintro e w' ⟨rfl, k3, rfl⟩
  go_wp2_with fail
  go_loopw [10, 11] (fun c i wr => ∃ k : Nat, k ≤ 8 ∧ c = .int .u8 (sq k a : Nat) ∧ i = .int .i64 k ∧ ∃ n, wr = w2.drewN n) (fun _ i _ => 8 - (intOf i).toNat)
  case atStart => exact ⟨0, by omega, rfl, rfl, _, rfl⟩
  case round =>
    obtain ⟨k, hk, rfl, rfl, nd, rfl⟩ := hrel
    have lk := sq_lt ha k
    by_cases hlt : k < 8
    · go_wp2_with fail
      refine (mul_at (hF.drewN _) (sq k a) (sq k a) rfl rfl lk lk).mono ?_
      rintro e w' ⟨rfl, k4, rfl⟩
      go_wp2
      go_roundw
      case rel => exact ⟨k + 1, by omega, rfl, by go_num, _, rfl⟩
      case measure => simp [intOf]; omega
    · have e8 : k = 8 := by omega
      subst e8
      go_wp2_with fail
      refine (pow_at (hF.drewN _) a 256 rfl ha (by omega) (by omega)).mono ?_
      rintro e w' ⟨rfl, k5, rfl⟩
      go_wp2
      go_ret
      exact ⟨rfl, ((hO1.trans hO2).drewN _).grown⟩

/-! ### THE ROW's STEP: WRITTEN OUT: LEAVE IT -/
set_option maxRecDepth 100000 in
theorem lifted (os : Os) (started : os.Started) (H : Type) (enc : TypeId × Value → H) :
    ReturnsInHanded {} Try.checked os 4 .any (Rows.gfSquaresSpec.pre6 enc Try.prog Try.f4 Rows.gfSquaresRow.domain false) (Rows.gfSquaresSpec.post enc Try.prog Try.f4 false true false false) := by
  refine returnsInHanded_of_change (C := Try.checked) own started (by kernel_rfl) Try.func4
    (ChangeSpec.witness6 (enc := enc) (C := Try.checked) false ⟨#[], #[.int .u8 0, .int .u8 0], []⟩ 8 (by kernel_rfl) (by kernel_rfl) (by kernel_rfl) (by kernel_rfl)) ?_
  intro W base args ds gs before hval0 hW hcnd _
  have hval : ∀ (j : Nat) t v, Try.f4.params[j]? = some t → args[j]? = some v → Value.okWide Try.prog W .any base t v := hval0
  have hW' := hW
  obtain ⟨p, q, hA0, hV, rfl, hfz, hnd⟩ := hW
  have hA : DataW.TrodAll enc Try.prog W 0 (fun _ => true) true Try.f4.params.toList args.toList ds p := hA0
  rw [Try.params4] at hA hval
  obtain ⟨v0, vs0, d0, ds0, p0, q0, hargs, rfl, rfl, h0, r0⟩ := trodAll_cons hA
  obtain ⟨v1, vs1, d1, ds1, p1, q1, rfl, rfl, rfl, h1, r1⟩ := trodAll_cons r0
  obtain ⟨rfl, rfl, rfl⟩ := trodAll_nil r1
  obtain rfl : args = #[v0, v1] := by cases args; simp_all
  obtain ⟨rfl, rfl⟩ := trodVars_none hV
  obtain ⟨a0, rfl, rfl, rfl, w0⟩ := open_int Try.underlying5 (hval 0 5 v0 rfl rfl) h0
  obtain ⟨a1, rfl, rfl, rfl, w1⟩ := open_int Try.underlying5 (hval 1 5 v1 rfl rfl) h1
  clear hA0 hval0
  simp only [List.append_nil] at hW'
  refine (walk a0 a1 w0 w1 W).mono fun e W' ⟨he, hg⟩ => ?_
  subst he
  exact ⟨_, rfl, post_of_same (pa := []) (pv := []) hW' (fun _ _ _ => (trodAll_cons_mk (shut_bool Try.underlying4 _) trodAll_mk0)) (fun sp _ => (trodAll_cons_mk (shut_int Try.underlying5 w0) (trodAll_cons_mk (shut_int Try.underlying5 w1) trodAll_mk0))) (fun _ _ => rfl) rfl
    (hg.frame _) hg.2.1 (ok_one (by kernel_rfl) rfl (okWide_bool_mk Try.underlying4 _))⟩

theorem over : Rows.gfSquaresRow.holds Try.pinned (OpenSpec.ofChange Rows.gfSquaresSpec) :=
  OpenClaim.holds_of_wide 4 Try.f4 rfl rfl rfl rfl rfl rfl rfl ⟨rfl, rfl, rfl, rfl, rfl⟩ rfl rfl rfl rfl rfl (by kernel_rfl) Try.func4 (by kernel_rfl)
    (of_decide_eq_true (by kernel_rfl)) (by unfold Func.isWrapper; first | (rw [if_pos (by decide +kernel)]; kernel_rfl) | (rw [if_neg (by decide +kernel)]; exact ⟨rfl, rfl⟩))
    (fun os started H enc _ => lifted os started H enc)

/-- ████ THE STATEMENT ████ -/
theorem proved : Rows.GfSquaresSaid :=
  over
end Go.Proofs.Ytniihlgbpncbgab.gfSquares
namespace Go.Proofs.Ytniihlgbpncbgab
theorem gfSquares_holds : Rows.GfSquaresSaid := gfSquares.proved
#print axioms gfSquares_holds
end Go.Proofs.Ytniihlgbpncbgab
