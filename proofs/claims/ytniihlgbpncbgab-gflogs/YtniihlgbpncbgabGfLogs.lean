/- PROVED: for all bytes a, b the call GfLogs(a, b) returns true, and its arguments read behind it as before; no conditions. -/
import Derived.Test.YtniihlgbpncbgabRows
import Derived.Test.YtniihlgbpncbgabGfAwake
import Derived.Test.YtniihlgbpncbgabGfAlg
import Derived.Test.YtniihlgbpncbgabGfEnd
import Derived.WalkKit
import Derived.ProofKit
import Derived.OpenShut
import Derived.ShutString
namespace Go.Proofs.Ytniihlgbpncbgab.gfLogs
open Go.ChangeShapes Go.WideShapes Go.ChangeAt Go.RowKit
open Go.ChangeMaps (open_string shut_string)
set_option linter.unusedVariables false      -- a walk need not use every 'w<i>' (that an integer argument fits its kind)

theorem own : ownKnob Try.prog.godebug = none := by kernel_rfl

open Gf
set_option maxRecDepth 100000 in
set_option maxHeartbeats 2000000 in
theorem walk (a0 : Int) (a1 : Int) (w0 : (Lit.int .u8 a0).wf = true) (w1 : (Lit.int .u8 a1).wf = true) (w : World) :
    Calls Try.prog 5 #[.int .u8 a0, .int .u8 a1] w fun e w' => e = .returned (.bool true) ∧ Grown w w' := by
  obtain ⟨a, rfl, ha⟩ := u8_nat w0
  obtain ⟨b, rfl, hb⟩ := u8_nat w1
  have lab := mulS_lt a b
  have la := lg_lt ha
  have lb := lg_lt hb
  by_cases h0 : a = 0 ∨ b = 0
  · have e1 : mulS a b = 0 := mulS_eq_zero.2 h0
    have e2 := lg_zero
    have e3 := zE_zero
    have kt : ((a : Int) == 0 || (b : Int) == 0) = true := by simpa using h0
    have E1 : Hid (mulS a b = 0) := e1
    clear e1
    go_enter Try.func5, Try.ntmps5
    go_wp2_with fail
    refine (awake_any _).mono ?_
    rintro e w1 ⟨rfl, hO1⟩
    go_wp2_with fail
    refine (new_any _).mono ?_
    rintro e w2 ⟨rfl, hF, hO2⟩
    go_wp2_with fail
    refine (log_at hF a rfl ha).mono ?_
    rintro e w' ⟨rfl, rfl⟩
    go_wp2_with fail
    refine (log_at hF b rfl hb).mono ?_
    rintro e w' ⟨rfl, rfl⟩
    go_wp2_with fail
    refine (mul_at hF a b rfl rfl ha hb).mono ?_
    rintro e w' ⟨rfl, k1, rfl⟩
    go_wp2_with fail
    rw [E1.out]
    refine (log_at (hF.drewN _) 0 rfl (by omega)).mono ?_
    rintro e w' ⟨rfl, rfl⟩
    go_wp2
    all_goals first | (go_ret; exact ⟨rfl, ((hO1.trans hO2).drewN _).grown⟩) | (exfalso; omega)
  · have ha0 : a ≠ 0 := fun h => h0 (Or.inl h)
    have hb0 : b ≠ 0 := fun h => h0 (Or.inr h)
    clear h0
    have ka : ((a : Int) == 0) = false := by simpa using ha0
    have kb : ((b : Int) == 0) = false := by simpa using hb0
    have e1 := zE_pos ha0
    have e2 := zE_pos hb0
    have e3 := zE_pos (mulS_ne ha0 hb0)
    have e4 := zE_pos (mulS_ne ha0 (invS_ne hb0))
    have e5 : ((lg (mulS a b) : Nat) : Int) = ((lg a : Nat) + (lg b : Nat) : Int) % 255 := by rw [lg_mulS ha0 hb0]; omega
    have e6 : ((lg (mulS a (invS b)) : Nat) : Int) = ((lg a : Nat) - (lg b : Nat) + 255 : Int) % 255 := by rw [lg_mulS ha0 (invS_ne hb0), lg_invS hb0]; omega
    have lq := mulS_lt a (invS b)
    go_enter Try.func5, Try.ntmps5
    go_wp2_with fail
    refine (awake_any _).mono ?_
    rintro e w1 ⟨rfl, hO1⟩
    go_wp2_with fail
    refine (new_any _).mono ?_
    rintro e w2 ⟨rfl, hF, hO2⟩
    go_wp2_with fail
    refine (log_at hF a rfl ha).mono ?_
    rintro e w' ⟨rfl, rfl⟩
    go_wp2_with fail
    refine (log_at hF b rfl hb).mono ?_
    rintro e w' ⟨rfl, rfl⟩
    go_wp2_with fail
    refine (mul_at hF a b rfl rfl ha hb).mono ?_
    rintro e w' ⟨rfl, k1, rfl⟩
    go_wp2_with fail
    refine (log_at (hF.drewN _) (mulS a b) rfl lab).mono ?_
    rintro e w' ⟨rfl, rfl⟩
    go_wp2_with fail
    refine (div_all (hF.drewN _) a b rfl rfl ha hb).mono ?_
    rintro e w' ⟨rfl, k2, rfl⟩
    go_wp2_with fail
    refine (log_at (hF.drewN _) (mulS a (invS b)) rfl lq).mono ?_
    rintro e w' ⟨rfl, rfl⟩
    go_wp2
    go_ret
    exact ⟨rfl, ((hO1.trans hO2).drewN _).grown⟩

/-! ### THE ROW's STEP: WRITTEN OUT: LEAVE IT -/
set_option maxRecDepth 100000 in
theorem lifted (os : Os) (started : os.Started) (H : Type) (enc : TypeId × Value → H) :
    ReturnsInHanded {} Try.checked os 5 .any (Rows.gfLogsSpec.pre6 enc Try.prog Try.f5 Rows.gfLogsRow.domain false) (Rows.gfLogsSpec.post enc Try.prog Try.f5 false true false false) := by
  refine returnsInHanded_of_change (C := Try.checked) own started (by kernel_rfl) Try.func5
    (ChangeSpec.witness6 (enc := enc) (C := Try.checked) false ⟨#[], #[.int .u8 0, .int .u8 0], []⟩ 8 (by kernel_rfl) (by kernel_rfl) (by kernel_rfl) (by kernel_rfl)) ?_
  intro W base args ds gs before hval0 hW hcnd _
  have hval : ∀ (j : Nat) t v, Try.f5.params[j]? = some t → args[j]? = some v → Value.okWide Try.prog W .any base t v := hval0
  have hW' := hW
  obtain ⟨p, q, hA0, hV, rfl, hfz, hnd⟩ := hW
  have hA : DataW.TrodAll enc Try.prog W 0 (fun _ => true) true Try.f5.params.toList args.toList ds p := hA0
  rw [Try.params5] at hA hval
  obtain ⟨v0, vs0, d0, ds0, p0, q0, hargs, rfl, rfl, h0, r0⟩ := trodAll_cons hA
  obtain ⟨v1, vs1, d1, ds1, p1, q1, rfl, rfl, rfl, h1, r1⟩ := trodAll_cons r0
  obtain ⟨rfl, rfl, rfl⟩ := trodAll_nil r1
  obtain rfl : args = #[v0, v1] := by cases args; simp_all
  obtain ⟨rfl, rfl⟩ := trodVars_none hV
  obtain ⟨a0, rfl, rfl, rfl, w0⟩ := open_int Try.underlying5 (hval 0 5 v0 rfl rfl) h0
  obtain ⟨a1, rfl, rfl, rfl, w1⟩ := open_int Try.underlying5 (hval 1 5 v1 rfl rfl) h1
  clear hA0 hval0
  simp only [List.append_nil] at hW'
  refine (walk a0 a1 w0 w1 W).mono fun e W' ⟨he, hg⟩ => ?_
  subst he
  exact ⟨_, rfl, post_of_same (pa := []) (pv := []) hW' (fun _ _ _ => (trodAll_cons_mk (shut_bool Try.underlying4 _) trodAll_mk0)) (fun sp _ => (trodAll_cons_mk (shut_int Try.underlying5 w0) (trodAll_cons_mk (shut_int Try.underlying5 w1) trodAll_mk0))) (fun _ _ => rfl) rfl
    (hg.frame _) hg.2.1 (ok_one (by kernel_rfl) rfl (okWide_bool_mk Try.underlying4 _))⟩

theorem over : Rows.gfLogsRow.holds Try.pinned (OpenSpec.ofChange Rows.gfLogsSpec) :=
  OpenClaim.holds_of_wide 5 Try.f5 rfl rfl rfl rfl rfl rfl rfl ⟨rfl, rfl, rfl, rfl, rfl⟩ rfl rfl rfl rfl rfl (by kernel_rfl) Try.func5 (by kernel_rfl)
    (of_decide_eq_true (by kernel_rfl)) (by unfold Func.isWrapper; first | (rw [if_pos (by decide +kernel)]; kernel_rfl) | (rw [if_neg (by decide +kernel)]; exact ⟨rfl, rfl⟩))
    (fun os started H enc _ => lifted os started H enc)

/-- ████ THE STATEMENT ████ -/
theorem proved : Rows.GfLogsSaid :=
  over
end Go.Proofs.Ytniihlgbpncbgab.gfLogs
namespace Go.Proofs.Ytniihlgbpncbgab
theorem gfLogs_holds : Rows.GfLogsSaid := gfLogs.proved
#print axioms gfLogs_holds
end Go.Proofs.Ytniihlgbpncbgab
