/- PROVED: for every geometry g and every number bytes the call LayoutNeeds(g, bytes) returns true; no conditions. -/
import Derived.Test.YthicjoicfckmpaaRows
import Derived.Test.YthicjoicfckmpaaTome3
import Derived.WalkKit
import Derived.ProofKit
import Derived.OpenShut
import Derived.ShutString
import Derived.ChangeOld
import Derived.Below
namespace Go.Proofs.Ythicjoicfckmpaa.layoutNeeds
open Go.ChangeShapes Go.WideShapes Go.ChangeAt Go.RowKit
open Go.ChangeMaps (open_string shut_string)
set_option linter.unusedVariables false

theorem own : ownKnob Try.prog.godebug = none := by kernel_rfl
theorem laidOut : laidOutB Try.prog = true := by kernel_rfl

/-- WHAT THE WALK IS TOLD OF A SLICE OF INTEGERS THAT CAME IN: it is nil; or it leads to a row of 'cap' cells, the numbers 'zs' (the first 'len' are its elements, the rest its spare room), each fitting its kind. -/
def IsRow (k : IntKind) (w : World) (a : Option Addr) (len cap : Nat) (zs : List Int) : Prop :=
  (a = none ∧ len = 0 ∧ cap = 0 ∧ zs = []) ∨
  ∃ x, a = some x ∧ len ≤ cap ∧ cap ≤ maxLen ∧ zs.length = cap ∧ (∀ i, i < zs.length → w.cell? (x.add i) = some (.int k (zs.getD i 0))) ∧ ∀ n ∈ zs, (Lit.int k n).wf = true

open Gf
set_option linter.unusedSimpArgs false
set_option maxRecDepth 100000 in
set_option maxHeartbeats 4000000 in
theorem walk (c0 : GeoS) (a1 : Int) (w : World) (w0 : c0.Wf) (w1 : (Lit.int .i64 a1).wf = true) :
    Calls Try.prog 7 #[aggG c0, .int .i64 a1] w fun e w' => e = .returned (.bool true) ∧ Below w.heap.size w w' := by
  obtain ⟨k, m, z, s, t, o⟩ := c0
  have LB := geo_laid w ⟨k, m, z, s, t, o⟩ 24
  have EG : aggG ⟨k, m, z, s, t, o⟩ = .agg #[.int .i64 k, .int .i64 m, .int .i64 z, .int .i64 s, .int .i64 t, .int .i64 o] := rfl
  rw [EG]
  go_enter Try.func7, Try.ntmps7
  go_wp2_with fail
  obtain ⟨W0, hW0⟩ : ∃ W0, W0 = w.alloc (.cells (cellsG ⟨k, m, z, s, t, o⟩) 24) := ⟨_, rfl⟩
  rw [← hW0] at LB
  have gb : Hid (w.heap.size < W0.heap.size) := by rw [hW0]; show _ < _; simp
  obtain ⟨GB, hGB⟩ : ∃ GB, Hid (GB = w.heap.size) := ⟨_, rfl⟩
  refine awake_any.mono ?_
  rintro e v0 ⟨rfl, b0⟩
  replace b0 : Below W0.heap.size W0 v0 := by rw [hW0]; exact b0
  clear hW0
  have B0 := b0
  obtain ⟨⟨x0, x1, x2, x3, x4, x5⟩, F0⟩ := LB _ B0
  simp only at x0 x1 x2 x3 x4 x5
  clear b0
  by_cases hok : okG ⟨k, m, z, s, t, o⟩
  rotate_left
  · go_wp2_with fail
    refine (lcheck_any w0 (x := 50) (if_neg hok)).mono ?_
    rintro _ v1 ⟨rfl, b1⟩
    have B1 := B0.stepL b1 B0.size
    clear b1 B0 F0 x0 x1 x2 x3 x4 x5
    obtain ⟨⟨x0, x1, x2, x3, x4, x5⟩, F1⟩ := LB _ B1
    simp only at x0 x1 x2 x3 x4 x5
    go_wp2
    go_ret
    exact ⟨rfl, F1⟩
  go_wp2_with fail
  refine (lcheck_any w0 (x := 0) (if_pos hok)).mono ?_
  rintro _ v1 ⟨rfl, b1⟩
  have B1 := B0.stepL b1 B0.size
  clear b1 B0 F0 x0 x1 x2 x3 x4 x5
  obtain ⟨⟨x0, x1, x2, x3, x4, x5⟩, F1⟩ := LB _ B1
  simp only at x0 x1 x2 x3 x4 x5
  have op := one_pos hok
  simp only at op
  by_cases b9 : a1 > 1000000000
  · skip
    go_wp2
    go_ret
    exact ⟨rfl, F1⟩
  by_cases b1 : a1 < 1
  · go_wp2_with fail
    refine (lneeds_any w0 w1 (x := 0) (if_neg (fun h => by have := h.2; omega))).mono ?_
    rintro _ v2 ⟨rfl, b2⟩
    have B2 := B1.stepL b2 B1.size
    clear b2 B1 F1 x0 x1 x2 x3 x4 x5
    obtain ⟨⟨x0, x1, x2, x3, x4, x5⟩, F2⟩ := LB _ B2
    simp only at x0 x1 x2 x3 x4 x5
    go_wp2
    go_ret
    exact ⟨rfl, F2⟩
  obtain ⟨n1, n2, n3, n4⟩ := ne_needs hok (show 1 ≤ a1 by omega)
  simp only at n3 n4
  obtain ⟨n, hn⟩ : ∃ n, neG ⟨k, m, z, s, t, o⟩ a1 = n := ⟨_, rfl⟩
  rw [hn] at n1 n2 n3 n4
  obtain ⟨c, hc⟩ : ∃ c, Hid (c = k * z) := ⟨_, rfl⟩
  rw [← hc.out] at op n3 n4
  have gk : IntKind.i64.wrap (k * z) = c := by rw [← hc.out, IntKind.wrap_i64]; omega
  have e1 : (n - 1) * c = n * c - c := by rw [Int.sub_mul, Int.one_mul]
  have g1 : IntKind.i64.wrap (n * c) = n * c := by rw [IntKind.wrap_i64]; omega
  have g2 : IntKind.i64.wrap (n - 1) = n - 1 := by rw [IntKind.wrap_i64]; omega
  have g3 : IntKind.i64.wrap ((n - 1) * c) = (n - 1) * c := by rw [IntKind.wrap_i64]; omega
  clear e1
  go_wp2_with fail
  refine (lneeds_any w0 w1 hn).mono ?_
  rintro _ v2 ⟨rfl, b2⟩
  have B2 := B1.stepL b2 B1.size
  clear b2 B1 F1 x0 x1 x2 x3 x4 x5
  obtain ⟨⟨x0, x1, x2, x3, x4, x5⟩, F2⟩ := LB _ B2
  simp only at x0 x1 x2 x3 x4 x5
  go_wp2
  go_ret
  exact ⟨rfl, F2⟩

/-! ### THE ROW's STEP: WRITTEN OUT: LEAVE IT -/
set_option maxRecDepth 100000 in
set_option maxHeartbeats 2000000 in
theorem lifted (os : Os) (started : os.Started) (H : Type) (enc : TypeId × Value → H) :
    ReturnsInHanded {} Try.checked os 7 .any (Rows.layoutNeedsSpec.pre6 enc Try.prog Try.f7 Rows.layoutNeedsRow.domain false) (Rows.layoutNeedsSpec.post enc Try.prog Try.f7 false true false false) := by
  refine returnsInHanded_of_change (C := Try.checked) own started (by kernel_rfl) Try.func7
    (ChangeSpec.witness6 (enc := enc) (C := Try.checked) false ⟨#[], #[.agg #[.int .i64 0, .int .i64 0, .int .i64 0, .int .i64 0, .int .i64 0, .int .i64 0], .int .i64 0], []⟩ 8 (by kernel_rfl) (by kernel_rfl) (by kernel_rfl) (by kernel_rfl)) ?_
  intro W base args ds gs before hval0 hW hcnd _
  have hval : ∀ (j : Nat) t v, Try.f7.params[j]? = some t → args[j]? = some v → Value.okWide Try.prog W .any base t v := hval0
  have hW' := hW
  obtain ⟨p, q, hA0, hV, rfl, hfz, hnd⟩ := hW
  have hA : DataW.TrodAll enc Try.prog W 0 (fun _ => true) true Try.f7.params.toList args.toList ds p := hA0
  rw [Try.params7] at hA hval
  obtain ⟨v0, vs0, d0, ds0, p0, q0, hargs, rfl, rfl, h0, r0⟩ := trodAll_cons hA
  obtain ⟨v1, vs1, d1, ds1, p1, q1, rfl, rfl, rfl, h1, r1⟩ := trodAll_cons r0
  obtain ⟨rfl, rfl, rfl⟩ := trodAll_nil r1
  obtain rfl : args = #[v0, v1] := by cases args; simp_all
  obtain ⟨rfl, rfl⟩ := trodVars_none hV
  have k0 := h0
  have lt0 : ∀ x ∈ p0, x.block < W.heap.size := by obtain ⟨m, hm⟩ := k0; exact DataW.trod_lt m _ _ _ hm
  obtain ⟨c0, rfl, w0⟩ := open_geo Try.underlying24 (by kernel_rfl) rfl rfl rfl rfl rfl rfl (by kernel_rfl) (by kernel_rfl) (by kernel_rfl) (by kernel_rfl) (by kernel_rfl) (by kernel_rfl) (by kernel_rfl) (by kernel_rfl) (by kernel_rfl) (by kernel_rfl) (by kernel_rfl) (by kernel_rfl) (hval 0 24 v0 rfl rfl) h0
  obtain ⟨a1, rfl, rfl, rfl, w1⟩ := open_int Try.underlying3 (hval 1 3 v1 rfl rfl) h1
  clear hA0 hval0
  refine (walk c0 a1 W w0 w1).mono fun e W' ⟨he, bel⟩ => ?_
  subst he
  exact ⟨_, rfl, _, _, _, [], _, [], hW', trodAll_mk1 (shut_bool Try.underlying4 _), (trodAll_cons_mk (Below.trod laidOut (by kernel_rfl) (of_decide_eq_true (by kernel_rfl)) k0 bel lt0) (trodAll_cons_mk (shut_int Try.underlying3 w1) trodAll_mk0)), rfl, bel.frame _, fun h => by cases h⟩

theorem over : Rows.layoutNeedsRow.holds Try.pinned (OpenSpec.ofChange Rows.layoutNeedsSpec) :=
  OpenClaim.holds_of_wide 7 Try.f7 rfl rfl rfl rfl rfl rfl rfl ⟨rfl, rfl, rfl, rfl, rfl⟩ rfl rfl rfl rfl rfl (by kernel_rfl) Try.func7 (by kernel_rfl)
    (of_decide_eq_true (by kernel_rfl)) (by unfold Func.isWrapper; first | (rw [if_pos (by decide +kernel)]; kernel_rfl) | (rw [if_neg (by decide +kernel)]; exact ⟨rfl, rfl⟩))
    (fun os started H enc _ => lifted os started H enc)

/-- ████ THE STATEMENT ████ -/
theorem proved : Rows.LayoutNeedsSaid := over
end Go.Proofs.Ythicjoicfckmpaa.layoutNeeds
namespace Go.Proofs.Ythicjoicfckmpaa
theorem layoutNeeds_holds : Rows.LayoutNeedsSaid := layoutNeeds.proved
#print axioms layoutNeeds_holds
end Go.Proofs.Ythicjoicfckmpaa
