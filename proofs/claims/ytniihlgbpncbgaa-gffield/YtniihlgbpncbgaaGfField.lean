/- PROVED: for all bytes a, b, c the call GfField(a, b, c) returns true, and its arguments read behind it as before; no conditions. -/
import Derived.Test.YtniihlgbpncbgaaRows
import Derived.Test.YtniihlgbpncbgaaGfAwake
import Derived.Test.YtniihlgbpncbgaaGfAlg
import Derived.Test.YtniihlgbpncbgaaGfEnd
import Derived.WalkKit
import Derived.ProofKit
import Derived.OpenShut
import Derived.ShutString
namespace Go.Proofs.Ytniihlgbpncbgaa.gfField
open Go.ChangeShapes Go.WideShapes Go.ChangeAt Go.RowKit
open Go.ChangeMaps (open_string shut_string)
set_option linter.unusedVariables false      -- a walk need not use every 'w<i>' (that an integer argument fits its kind)

theorem own : ownKnob Try.prog.godebug = none := by kernel_rfl

open Gf
set_option maxRecDepth 100000 in
set_option maxHeartbeats 2000000 in
theorem walk (a0 : Int) (a1 : Int) (a2 : Int) (w0 : (Lit.int .u8 a0).wf = true) (w1 : (Lit.int .u8 a1).wf = true) (w2 : (Lit.int .u8 a2).wf = true) (w : World) :
    Calls Try.prog 5 #[.int .u8 a0, .int .u8 a1, .int .u8 a2] w fun e w' => e = .returned (.bool true) ∧ Grown w w' := by
  obtain ⟨a, rfl, ha⟩ := u8_nat w0
  obtain ⟨b, rfl, hb⟩ := u8_nat w1
  obtain ⟨c, rfl, hc⟩ := u8_nat w2
  have hx : bits .xor .u8 (b : Int) (c : Int) = ((b ^^^ c : Nat) : Int) := u8_xor_nat b c hb hc
  have hxl := xor_lt hb hc
  have hbc := mulS_lt b c
  have hab := mulS_lt a b
  have hac := mulS_lt a c
  have hxx : bits .xor .u8 (mulS a b : Int) (mulS a c : Int) = ((mulS a (b ^^^ c) : Nat) : Int) := by rw [u8_xor_nat _ _ hab hac, mulS_xor ha hb hc]
  have E1 : mulS b a = mulS a b := mulS_comm b a
  have E2 : mulS a (mulS b c) = mulS (mulS a b) c := mulS_assoc a b c
  have E3 : mulS a 1 = a := mulS_one ha
  have E4 : mulS a 0 = 0 := mulS_zero a
  have E5 : ((mulS a b : Int) == 0) = ((a : Int) == 0 || (b : Int) == 0) := by
    rw [Bool.eq_iff_iff]; simp [mulS_eq_zero]
  go_enter Try.func5, Try.ntmps5
  go_wp2_with fail
  refine (awake_any _).mono ?_
  rintro e w1 ⟨rfl, hO1⟩
  go_wp2_with fail
  refine (new_any _).mono ?_
  rintro e w2 ⟨rfl, hF, hO2⟩
  go_wp2_with fail
  refine (mul_at hF a b rfl rfl ha hb).mono ?_
  rintro e w' ⟨rfl, n1, rfl⟩
  go_wp2_with fail
  refine (mul_at (hF.drewN _) b a rfl rfl hb ha).mono ?_
  rintro e w' ⟨rfl, n2, rfl⟩
  go_wp2_with fail
  refine (mul_at (hF.drewN _) b c rfl rfl hb hc).mono ?_
  rintro e w' ⟨rfl, n3, rfl⟩
  go_wp2_with fail
  refine (mul_at (hF.drewN _) a (mulS b c) rfl rfl ha hbc).mono ?_
  rintro e w' ⟨rfl, n4, rfl⟩
  go_wp2_with fail
  refine (mul_at (hF.drewN _) a b rfl rfl ha hb).mono ?_
  rintro e w' ⟨rfl, n5, rfl⟩
  go_wp2_with fail
  refine (mul_at (hF.drewN _) (mulS a b) c rfl rfl hab hc).mono ?_
  rintro e w' ⟨rfl, n6, rfl⟩
  go_wp2_with fail
  refine (mul_at (hF.drewN _) a (b ^^^ c) rfl rfl ha hxl).mono ?_
  rintro e w' ⟨rfl, n7, rfl⟩
  go_wp2_with fail
  refine (mul_at (hF.drewN _) a b rfl rfl ha hb).mono ?_
  rintro e w' ⟨rfl, n8, rfl⟩
  go_wp2_with fail
  refine (mul_at (hF.drewN _) a c rfl rfl ha hc).mono ?_
  rintro e w' ⟨rfl, n9, rfl⟩
  go_wp2_with fail
  refine (mul_at (hF.drewN _) a b rfl rfl ha hb).mono ?_
  rintro e w' ⟨rfl, n10, rfl⟩
  go_wp2_with fail
  refine (mul_at (hF.drewN _) a 1 rfl rfl ha (by omega)).mono ?_
  rintro e w' ⟨rfl, n11, rfl⟩
  go_wp2_with fail
  refine (mul_at (hF.drewN _) a 0 rfl rfl ha (by omega)).mono ?_
  rintro e w' ⟨rfl, n12, rfl⟩
  go_wp2
  all_goals go_ret
  all_goals exact ⟨rfl, ((hO1.trans hO2).drewN _).grown⟩

/-! ### THE ROW's STEP: WRITTEN OUT: LEAVE IT -/
set_option maxRecDepth 100000 in
theorem lifted (os : Os) (started : os.Started) (H : Type) (enc : TypeId × Value → H) :
    ReturnsInHanded {} Try.checked os 5 .any (Rows.gfFieldSpec.pre6 enc Try.prog Try.f5 Rows.gfFieldRow.domain false) (Rows.gfFieldSpec.post enc Try.prog Try.f5 false true false false) := by
  refine returnsInHanded_of_change (C := Try.checked) own started (by kernel_rfl) Try.func5
    (ChangeSpec.witness6 (enc := enc) (C := Try.checked) false ⟨#[], #[.int .u8 0, .int .u8 0, .int .u8 0], []⟩ 8 (by kernel_rfl) (by kernel_rfl) (by kernel_rfl) (by kernel_rfl)) ?_
  intro W base args ds gs before hval0 hW hcnd _
  have hval : ∀ (j : Nat) t v, Try.f5.params[j]? = some t → args[j]? = some v → Value.okWide Try.prog W .any base t v := hval0
  have hW' := hW
  obtain ⟨p, q, hA0, hV, rfl, hfz, hnd⟩ := hW
  have hA : DataW.TrodAll enc Try.prog W 0 (fun _ => true) true Try.f5.params.toList args.toList ds p := hA0
  rw [Try.params5] at hA hval
  obtain ⟨v0, vs0, d0, ds0, p0, q0, hargs, rfl, rfl, h0, r0⟩ := trodAll_cons hA
  obtain ⟨v1, vs1, d1, ds1, p1, q1, rfl, rfl, rfl, h1, r1⟩ := trodAll_cons r0
  obtain ⟨v2, vs2, d2, ds2, p2, q2, rfl, rfl, rfl, h2, r2⟩ := trodAll_cons r1
  obtain ⟨rfl, rfl, rfl⟩ := trodAll_nil r2
  obtain rfl : args = #[v0, v1, v2] := by cases args; simp_all
  obtain ⟨rfl, rfl⟩ := trodVars_none hV
  obtain ⟨a0, rfl, rfl, rfl, w0⟩ := open_int Try.underlying5 (hval 0 5 v0 rfl rfl) h0
  obtain ⟨a1, rfl, rfl, rfl, w1⟩ := open_int Try.underlying5 (hval 1 5 v1 rfl rfl) h1
  obtain ⟨a2, rfl, rfl, rfl, w2⟩ := open_int Try.underlying5 (hval 2 5 v2 rfl rfl) h2
  clear hA0 hval0
  simp only [List.append_nil] at hW'
  refine (walk a0 a1 a2 w0 w1 w2 W).mono fun e W' ⟨he, hg⟩ => ?_
  subst he
  exact ⟨_, rfl, post_of_same (pa := []) (pv := []) hW' (fun _ _ _ => (trodAll_cons_mk (shut_bool Try.underlying4 _) trodAll_mk0)) (fun sp _ => (trodAll_cons_mk (shut_int Try.underlying5 w0) (trodAll_cons_mk (shut_int Try.underlying5 w1) (trodAll_cons_mk (shut_int Try.underlying5 w2) trodAll_mk0)))) (fun _ _ => rfl) rfl
    (hg.frame _) hg.2.1 (ok_one (by kernel_rfl) rfl (okWide_bool_mk Try.underlying4 _))⟩

theorem over : Rows.gfFieldRow.holds Try.pinned (OpenSpec.ofChange Rows.gfFieldSpec) :=
  OpenClaim.holds_of_wide 5 Try.f5 rfl rfl rfl rfl rfl rfl rfl ⟨rfl, rfl, rfl, rfl, rfl⟩ rfl rfl rfl rfl rfl (by kernel_rfl) Try.func5 (by kernel_rfl)
    (of_decide_eq_true (by kernel_rfl)) (by unfold Func.isWrapper; first | (rw [if_pos (by decide +kernel)]; kernel_rfl) | (rw [if_neg (by decide +kernel)]; exact ⟨rfl, rfl⟩))
    (fun os started H enc _ => lifted os started H enc)

/-- ████ THE STATEMENT ████ -/
theorem proved : Rows.GfFieldSaid :=
  over
end Go.Proofs.Ytniihlgbpncbgaa.gfField
namespace Go.Proofs.Ytniihlgbpncbgaa
theorem gfField_holds : Rows.GfFieldSaid := gfField.proved
#print axioms gfField_holds
end Go.Proofs.Ytniihlgbpncbgaa
