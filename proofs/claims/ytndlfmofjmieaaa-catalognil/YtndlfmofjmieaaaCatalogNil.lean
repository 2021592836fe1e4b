/- PROVED: for every text key and every number n the call CatalogNil(key, n) returns true, and its arguments read behind it as before; no conditions. -/
import Derived.ProofKit
import Derived.ShutString
import Derived.Test.YtndlfmofjmieaaaTome12
namespace Go.Proofs.Ytndlfmofjmieaaa.catalogNil
open Go.ChangeShapes Go.WideShapes Go.ChangeAt Go.RowKit
open Go.ChangeMaps (open_string shut_string)
set_option linter.unusedVariables false      -- a walk need not use every 'w<i>' (that an integer argument fits its kind)

theorem own : ownKnob Try.prog.godebug = none := by kernel_rfl

open Gf
set_option linter.unusedSimpArgs false
set_option maxRecDepth 100000 in
set_option maxHeartbeats 4000000 in
theorem walk (a0 : ByteArray) (a1 : Int) (w0 : a0.size ≤ maxLen) (w1 : (Lit.int .i64 a1).wf = true) (w : World) :
    Calls Try.prog 8 #[.string a0, .int .i64 a1] w fun e w' => e = .returned (.bool true) ∧ Below w.heap.size w w' := by
  have KP := fun W => @cplan19_nil W a0.data.toList a1
  have KG := fun W => @cget19_nil W a0.data.toList
  have KO := fun W => @cowner19_nil W a1
  have KA := fun W => @capply19_nil W ⟨⟨2, [97], 0, []⟩, .slice none 0 0⟩ a1
  have KL := fun W => @call19_nil W
  have KF := fun W => @cfrees19_nil W
  rw [show (⟨a0.data.toList.toArray⟩ : ByteArray) = a0 by simp] at KP KG
  go_enter Try.func8, Try.ntmps8
  go_wp2_with fail
  refine cawake_any.mono ?_
  rintro e u1 ⟨rfl, b1⟩
  have B1 := hidK b1
  clear b1
  go_wp2_with fail
  refine (KP _).mono ?_
  rintro _ wq ⟨rfl, eq⟩
  rw [eq]
  clear eq wq
  go_wp2_with fail
  refine (KG _).mono ?_
  rintro _ u2 ⟨rfl, b2⟩
  unfold nilO
  have bl : Below u2.heap.size u2 (u2.alloc (.cells #[.string ⟨#[]⟩, .int .i64 0, .int .i64 0, .slice none 0 0] 52)) := belL _ _
  have B2 := hidK ((B1.out.stepL b2 B1.out.size).stepL bl (Nat.le_trans B1.out.size b2.size))
  clear b2 bl B1
  go_wp2_with fail
  refine (KO _).mono ?_
  rintro _ wq ⟨rfl, eq⟩
  rw [eq]
  clear eq wq
  go_wp2_with fail
  refine (KA _).mono ?_
  rintro _ u3 ⟨rfl, b3⟩
  have B3 := hidK (B2.out.stepL b3 B2.out.size)
  clear b3 B2
  go_wp2_with fail
  refine (KL _).mono ?_
  rintro _ wq ⟨rfl, eq⟩
  rw [eq]
  clear eq wq
  go_wp2_with fail
  refine (KF _).mono ?_
  rintro _ wq ⟨rfl, eq⟩
  rw [eq]
  clear eq wq
  go_wp2
  go_ret
  exact ⟨rfl, B3.out⟩

/-! ### THE ROW's STEP: WRITTEN OUT: LEAVE IT -/
set_option maxRecDepth 100000 in
theorem lifted (os : Os) (started : os.Started) (H : Type) (enc : TypeId × Value → H) :
    ReturnsInHanded {} Try.checked os 8 .any (Rows.catalogNilSpec.pre6 enc Try.prog Try.f8 Rows.catalogNilRow.domain false) (Rows.catalogNilSpec.post enc Try.prog Try.f8 false true false false) := by
  refine returnsInHanded_of_change (C := Try.checked) own started (by kernel_rfl) Try.func8
    (ChangeSpec.witness6 (enc := enc) (C := Try.checked) false ⟨#[], #[.string ByteArray.empty, .int .i64 0], []⟩ 8 (by kernel_rfl) (by kernel_rfl) (by kernel_rfl) (by kernel_rfl)) ?_
  intro W base args ds gs before hval0 hW hcnd _
  have hval : ∀ (j : Nat) t v, Try.f8.params[j]? = some t → args[j]? = some v → Value.okWide Try.prog W .any base t v := hval0
  have hW' := hW
  obtain ⟨p, q, hA0, hV, rfl, hfz, hnd⟩ := hW
  have hA : DataW.TrodAll enc Try.prog W 0 (fun _ => true) true Try.f8.params.toList args.toList ds p := hA0
  rw [Try.params8] at hA hval
  obtain ⟨v0, vs0, d0, ds0, p0, q0, hargs, rfl, rfl, h0, r0⟩ := trodAll_cons hA
  obtain ⟨v1, vs1, d1, ds1, p1, q1, rfl, rfl, rfl, h1, r1⟩ := trodAll_cons r0
  obtain ⟨rfl, rfl, rfl⟩ := trodAll_nil r1
  obtain rfl : args = #[v0, v1] := by cases args; simp_all
  obtain ⟨rfl, rfl⟩ := trodVars_none hV
  obtain ⟨a0, rfl, rfl, rfl, w0⟩ := open_string Try.underlying9 (hval 0 9 v0 rfl rfl) h0
  obtain ⟨a1, rfl, rfl, rfl, w1⟩ := open_int Try.underlying3 (hval 1 3 v1 rfl rfl) h1
  clear hA0 hval0
  simp only [List.append_nil] at hW'
  refine (walk a0 a1 w0 w1 W).mono fun e W' ⟨he, hg⟩ => ?_
  subst he
  exact ⟨_, rfl, _, _, _, [], _, [], hW', trodAll_mk1 (shut_bool Try.underlying4 _), (trodAll_cons_mk (shut_string Try.underlying9 w0) (trodAll_cons_mk (shut_int Try.underlying3 w1) trodAll_mk0)), rfl, hg.frame _, fun h => by cases h⟩

theorem over : Rows.catalogNilRow.holds Try.pinned (OpenSpec.ofChange Rows.catalogNilSpec) :=
  OpenClaim.holds_of_wide 8 Try.f8 rfl rfl rfl rfl rfl rfl rfl ⟨rfl, rfl, rfl, rfl, rfl⟩ rfl rfl rfl rfl rfl (by kernel_rfl) Try.func8 (by kernel_rfl)
    (of_decide_eq_true (by kernel_rfl)) (by unfold Func.isWrapper; first | (rw [if_pos (by decide +kernel)]; kernel_rfl) | (rw [if_neg (by decide +kernel)]; exact ⟨rfl, rfl⟩))
    (fun os started H enc _ => lifted os started H enc)

/-- ████ THE STATEMENT ████ -/
theorem proved : Rows.CatalogNilSaid :=
  over
end Go.Proofs.Ytndlfmofjmieaaa.catalogNil
namespace Go.Proofs.Ytndlfmofjmieaaa
theorem catalogNil_holds : Rows.CatalogNilSaid := catalogNil.proved
#print axioms catalogNil_holds
end Go.Proofs.Ytndlfmofjmieaaa
