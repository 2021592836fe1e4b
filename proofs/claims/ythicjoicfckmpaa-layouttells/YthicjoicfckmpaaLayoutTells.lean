/- PROVED: for every geometry g and all numbers i, k and bytes the call LayoutTells(g, i, k, bytes) returns true; no conditions. -/
import Derived.Test.YthicjoicfckmpaaRows
import Derived.Test.YthicjoicfckmpaaTome3
import Derived.Test.YthicjoicfckmpaaTome4
import Derived.WalkKit
import Derived.ProofKit
import Derived.OpenShut
import Derived.ShutString
import Derived.ChangeOld
import Derived.Below
namespace Go.Proofs.Ythicjoicfckmpaa.layoutTells
open Go.ChangeShapes Go.WideShapes Go.ChangeAt Go.RowKit
open Go.ChangeMaps (open_string shut_string)
set_option linter.unusedVariables false

theorem own : ownKnob Try.prog.godebug = none := by kernel_rfl
theorem laidOut : laidOutB Try.prog = true := by kernel_rfl

/-- WHAT THE WALK IS TOLD OF A SLICE OF INTEGERS THAT CAME IN: it is nil; or it leads to a row of 'cap' cells, the numbers 'zs' (the first 'len' are its elements, the rest its spare room), each fitting its kind. -/
def IsRow (k : IntKind) (w : World) (a : Option Addr) (len cap : Nat) (zs : List Int) : Prop :=
  (a = none ∧ len = 0 ∧ cap = 0 ∧ zs = []) ∨
  ∃ x, a = some x ∧ len ≤ cap ∧ cap ≤ maxLen ∧ zs.length = cap ∧ (∀ i, i < zs.length → w.cell? (x.add i) = some (.int k (zs.getD i 0))) ∧ ∀ n ∈ zs, (Lit.int k n).wf = true

open Gf
set_option linter.unusedSimpArgs false
set_option maxRecDepth 100000 in
set_option maxHeartbeats 4000000 in
theorem walk (c0 : GeoS) (a1 : Int) (a2 : Int) (a3 : Int) (w : World) (w0 : c0.Wf) (w1 : (Lit.int .i64 a1).wf = true) (w2 : (Lit.int .i64 a2).wf = true) (w3 : (Lit.int .i64 a3).wf = true) :
    Calls Try.prog 4 #[aggG c0, .int .i64 a1, .int .i64 a2, .int .i64 a3] w fun e w' => e = .returned (.bool true) ∧ Below w.heap.size w w' := by
  obtain ⟨k, m, z, s, t, o⟩ := c0
  have LB := geo_laid w ⟨k, m, z, s, t, o⟩ 24
  have EG : aggG ⟨k, m, z, s, t, o⟩ = .agg #[.int .i64 k, .int .i64 m, .int .i64 z, .int .i64 s, .int .i64 t, .int .i64 o] := rfl
  rw [EG]
  go_enter Try.func4, Try.ntmps4
  go_wp2_with fail
  obtain ⟨W0, hW0⟩ : ∃ W0, W0 = w.alloc (.cells (cellsG ⟨k, m, z, s, t, o⟩) 24) := ⟨_, rfl⟩
  rw [← hW0] at LB
  have gb : Hid (w.heap.size < W0.heap.size) := by rw [hW0]; show _ < _; simp
  obtain ⟨GB, hGB⟩ : ∃ GB, Hid (GB = w.heap.size) := ⟨_, rfl⟩
  refine awake_any.mono ?_
  rintro e v0 ⟨rfl, b0⟩
  replace b0 : Below W0.heap.size W0 v0 := by rw [hW0]; exact b0
  clear hW0
  have B0 := b0
  obtain ⟨⟨x0, x1, x2, x3, x4, x5⟩, F0⟩ := LB _ B0
  simp only at x0 x1 x2 x3 x4 x5
  clear b0
  obtain ⟨y1, e1⟩ : ∃ y, chG ⟨k, m, z, s, t, o⟩ = y := ⟨_, rfl⟩
  obtain ⟨y2, e2⟩ : ∃ y, secG ⟨k, m, z, s, t, o⟩ = y := ⟨_, rfl⟩
  obtain ⟨y3, e3⟩ : ∃ y, arG ⟨k, m, z, s, t, o⟩ a1 a2 = y := ⟨_, rfl⟩
  obtain ⟨y4, e4⟩ : ∃ y, slG ⟨k, m, z, s, t, o⟩ a1 = y := ⟨_, rfl⟩
  obtain ⟨y5, e5⟩ : ∃ y, stG ⟨k, m, z, s, t, o⟩ a1 = y := ⟨_, rfl⟩
  obtain ⟨y6, e6⟩ : ∃ y, diG ⟨k, m, z, s, t, o⟩ a1 a2 = y := ⟨_, rfl⟩
  obtain ⟨y7, e7⟩ : ∃ y, shG ⟨k, m, z, s, t, o⟩ a1 a2 = y := ⟨_, rfl⟩
  obtain ⟨y8, e8⟩ : ∃ y, neG ⟨k, m, z, s, t, o⟩ a3 = y := ⟨_, rfl⟩
  have s0 := (LB _ B0).1
  have bD : Below v0.heap.size v0 v0.drew := (Below.refl _ _).drew
  have BD := B0.stepL bD B0.size
  have sD := (LB _ BD).1
  clear x0 x1 x2 x3 x4 x5 F0
  try go_wp2_with fail
  go_region_held3 (fun wx => wx.cell? ⟨w.heap.size, 0, none⟩ = some (.int .i64 k) ∧ wx.cell? ⟨w.heap.size, 1, none⟩ = some (.int .i64 m) ∧ wx.cell? ⟨w.heap.size, 2, none⟩ = some (.int .i64 z) ∧ wx.cell? ⟨w.heap.size, 3, none⟩ = some (.int .i64 s) ∧ wx.cell? ⟨w.heap.size, 4, none⟩ = some (.int .i64 t) ∧ wx.cell? ⟨w.heap.size, 5, none⟩ = some (.int .i64 o)) (first | exact s0 | exact sD | exact s6 | exact s5 | exact s4 | exact s3 | exact s2 | exact s1) (first
    | (go_at_call 10; go_loud (refine (lcheck_any w0 e1).mono ?_); rintro _ v1 ⟨rfl, b1⟩; have B1 := BD.stepL b1 BD.size; have s1 := (LB _ B1).1)
    | (go_at_call 11; go_loud (refine (rcheckL_any w0 e1).mono ?_); rintro _ v2 ⟨rfl, b2⟩; have B2 := B1.stepL b2 B1.size; have s2 := (LB _ B2).1)
    | (go_at_call 12; go_loud (refine (lsec_any w0 e2).mono ?_); rintro _ v3 ⟨rfl, b3⟩; have B3 := B2.stepL b3 B2.size; have s3 := (LB _ B3).1)
    | (go_at_call 13; go_loud (refine (rsec_any w0 e2).mono ?_); rintro _ v4 ⟨rfl, b4⟩; have B4 := B3.stepL b4 B3.size; have s4 := (LB _ B4).1)
    | (go_at_call 14; go_loud (refine (larea_any w0 w1 w2 e3).mono ?_); rintro _ v5 ⟨rfl, b5⟩; have B5 := B4.stepL b5 B4.size; have s5 := (LB _ B5).1)
    | (go_at_call 15; go_loud (refine (rarea_any w0 e3).mono ?_); rintro _ v6 ⟨rfl, b6⟩; have B6 := B5.stepL b6 B5.size; have s6 := (LB _ B6).1))
  clear bD BD sD s0 B0 s1 b1 s2 b2 s3 b3 s4 b4 s5 b5 s6 b6 B1 B2 B3 B4 B5
  obtain ⟨⟨x0, x1, x2, x3, x4, x5⟩, F6⟩ := LB _ B6
  simp only at x0 x1 x2 x3 x4 x5
  have s6 := (LB _ B6).1
  have bD : Below v6.heap.size v6 v6.drew := (Below.refl _ _).drew
  have BD := B6.stepL bD B6.size
  have sD := (LB _ BD).1
  clear x0 x1 x2 x3 x4 x5 F6
  try go_wp2_with fail
  go_region_held3 (fun wx => wx.cell? ⟨w.heap.size, 0, none⟩ = some (.int .i64 k) ∧ wx.cell? ⟨w.heap.size, 1, none⟩ = some (.int .i64 m) ∧ wx.cell? ⟨w.heap.size, 2, none⟩ = some (.int .i64 z) ∧ wx.cell? ⟨w.heap.size, 3, none⟩ = some (.int .i64 s) ∧ wx.cell? ⟨w.heap.size, 4, none⟩ = some (.int .i64 t) ∧ wx.cell? ⟨w.heap.size, 5, none⟩ = some (.int .i64 o)) (first | exact s6 | exact sD | exact s10 | exact s9 | exact s8 | exact s7) (first
    | (go_at_call 16; go_loud (refine (lslot_any w0 w1 e4).mono ?_); rintro _ v7 ⟨rfl, b7⟩; have B7 := BD.stepL b7 BD.size; have s7 := (LB _ B7).1)
    | (go_at_call 17; go_loud (refine (rslot_any w0 e4).mono ?_); rintro _ v8 ⟨rfl, b8⟩; have B8 := B7.stepL b8 B7.size; have s8 := (LB _ B8).1)
    | (go_at_call 18; go_loud (refine (lstripe_any w0 w1 e5).mono ?_); rintro _ v9 ⟨rfl, b9⟩; have B9 := B8.stepL b9 B8.size; have s9 := (LB _ B9).1)
    | (go_at_call 19; go_loud (refine (rstripe_any w0 e5).mono ?_); rintro _ v10 ⟨rfl, b10⟩; have B10 := B9.stepL b10 B9.size; have s10 := (LB _ B10).1))
  clear bD BD sD s6 B6 s7 b7 s8 b8 s9 b9 s10 b10 B7 B8 B9
  obtain ⟨⟨x0, x1, x2, x3, x4, x5⟩, F10⟩ := LB _ B10
  simp only at x0 x1 x2 x3 x4 x5
  have s10 := (LB _ B10).1
  have bD : Below v10.heap.size v10 v10.drew := (Below.refl _ _).drew
  have BD := B10.stepL bD B10.size
  have sD := (LB _ BD).1
  clear x0 x1 x2 x3 x4 x5 F10
  try go_wp2_with fail
  go_region_held3 (fun wx => wx.cell? ⟨w.heap.size, 0, none⟩ = some (.int .i64 k) ∧ wx.cell? ⟨w.heap.size, 1, none⟩ = some (.int .i64 m) ∧ wx.cell? ⟨w.heap.size, 2, none⟩ = some (.int .i64 z) ∧ wx.cell? ⟨w.heap.size, 3, none⟩ = some (.int .i64 s) ∧ wx.cell? ⟨w.heap.size, 4, none⟩ = some (.int .i64 t) ∧ wx.cell? ⟨w.heap.size, 5, none⟩ = some (.int .i64 o)) (first | exact s10 | exact sD | exact s14 | exact s13 | exact s12 | exact s11) (first
    | (go_at_call 20; go_loud (refine (ldisk_any w0 w1 w2 e6).mono ?_); rintro _ v11 ⟨rfl, b11⟩; have B11 := BD.stepL b11 BD.size; have s11 := (LB _ B11).1)
    | (go_at_call 21; go_loud (refine (rdisk_any w0 w1 w2 e6).mono ?_); rintro _ v12 ⟨rfl, b12⟩; have B12 := B11.stepL b12 B11.size; have s12 := (LB _ B12).1)
    | (go_at_call 22; go_loud (refine (lshard_any w0 w1 w2 e7).mono ?_); rintro _ v13 ⟨rfl, b13⟩; have B13 := B12.stepL b13 B12.size; have s13 := (LB _ B13).1)
    | (go_at_call 23; go_loud (refine (rshard_any w0 w1 w2 e7).mono ?_); rintro _ v14 ⟨rfl, b14⟩; have B14 := B13.stepL b14 B13.size; have s14 := (LB _ B14).1))
  clear bD BD sD s10 B10 s11 b11 s12 b12 s13 b13 s14 b14 B11 B12 B13
  obtain ⟨⟨x0, x1, x2, x3, x4, x5⟩, F14⟩ := LB _ B14
  simp only at x0 x1 x2 x3 x4 x5
  have s14 := (LB _ B14).1
  have bD : Below v14.heap.size v14 v14.drew := (Below.refl _ _).drew
  have BD := B14.stepL bD B14.size
  have sD := (LB _ BD).1
  clear x0 x1 x2 x3 x4 x5 F14
  try go_wp2_with fail
  go_region_held3 (fun wx => wx.cell? ⟨w.heap.size, 0, none⟩ = some (.int .i64 k) ∧ wx.cell? ⟨w.heap.size, 1, none⟩ = some (.int .i64 m) ∧ wx.cell? ⟨w.heap.size, 2, none⟩ = some (.int .i64 z) ∧ wx.cell? ⟨w.heap.size, 3, none⟩ = some (.int .i64 s) ∧ wx.cell? ⟨w.heap.size, 4, none⟩ = some (.int .i64 t) ∧ wx.cell? ⟨w.heap.size, 5, none⟩ = some (.int .i64 o)) (first | exact s14 | exact sD | exact s16 | exact s15) (first
    | (go_at_call 24; go_loud (refine (lneeds_any w0 w3 e8).mono ?_); rintro _ v15 ⟨rfl, b15⟩; have B15 := BD.stepL b15 BD.size; have s15 := (LB _ B15).1)
    | (go_at_call 25; go_loud (refine (rneeds_any w0 w3 e8).mono ?_); rintro _ v16 ⟨rfl, b16⟩; have B16 := B15.stepL b16 B15.size; have s16 := (LB _ B16).1))
  clear bD BD sD s14 B14 s15 b15 s16 b16 B15
  obtain ⟨⟨x0, x1, x2, x3, x4, x5⟩, F16⟩ := LB _ B16
  simp only at x0 x1 x2 x3 x4 x5
  go_wp2
  go_ret
  exact ⟨rfl, F16⟩

/-! ### THE ROW's STEP: WRITTEN OUT: LEAVE IT -/
set_option maxRecDepth 100000 in
set_option maxHeartbeats 2000000 in
theorem lifted (os : Os) (started : os.Started) (H : Type) (enc : TypeId × Value → H) :
    ReturnsInHanded {} Try.checked os 4 .any (Rows.layoutTellsSpec.pre6 enc Try.prog Try.f4 Rows.layoutTellsRow.domain false) (Rows.layoutTellsSpec.post enc Try.prog Try.f4 false true false false) := by
  refine returnsInHanded_of_change (C := Try.checked) own started (by kernel_rfl) Try.func4
    (ChangeSpec.witness6 (enc := enc) (C := Try.checked) false ⟨#[], #[.agg #[.int .i64 0, .int .i64 0, .int .i64 0, .int .i64 0, .int .i64 0, .int .i64 0], .int .i64 0, .int .i64 0, .int .i64 0], []⟩ 8 (by kernel_rfl) (by kernel_rfl) (by kernel_rfl) (by kernel_rfl)) ?_
  intro W base args ds gs before hval0 hW hcnd _
  have hval : ∀ (j : Nat) t v, Try.f4.params[j]? = some t → args[j]? = some v → Value.okWide Try.prog W .any base t v := hval0
  have hW' := hW
  obtain ⟨p, q, hA0, hV, rfl, hfz, hnd⟩ := hW
  have hA : DataW.TrodAll enc Try.prog W 0 (fun _ => true) true Try.f4.params.toList args.toList ds p := hA0
  rw [Try.params4] at hA hval
  obtain ⟨v0, vs0, d0, ds0, p0, q0, hargs, rfl, rfl, h0, r0⟩ := trodAll_cons hA
  obtain ⟨v1, vs1, d1, ds1, p1, q1, rfl, rfl, rfl, h1, r1⟩ := trodAll_cons r0
  obtain ⟨v2, vs2, d2, ds2, p2, q2, rfl, rfl, rfl, h2, r2⟩ := trodAll_cons r1
  obtain ⟨v3, vs3, d3, ds3, p3, q3, rfl, rfl, rfl, h3, r3⟩ := trodAll_cons r2
  obtain ⟨rfl, rfl, rfl⟩ := trodAll_nil r3
  obtain rfl : args = #[v0, v1, v2, v3] := by cases args; simp_all
  obtain ⟨rfl, rfl⟩ := trodVars_none hV
  have k0 := h0
  have lt0 : ∀ x ∈ p0, x.block < W.heap.size := by obtain ⟨m, hm⟩ := k0; exact DataW.trod_lt m _ _ _ hm
  obtain ⟨c0, rfl, w0⟩ := open_geo Try.underlying24 (by kernel_rfl) rfl rfl rfl rfl rfl rfl (by kernel_rfl) (by kernel_rfl) (by kernel_rfl) (by kernel_rfl) (by kernel_rfl) (by kernel_rfl) (by kernel_rfl) (by kernel_rfl) (by kernel_rfl) (by kernel_rfl) (by kernel_rfl) (by kernel_rfl) (hval 0 24 v0 rfl rfl) h0
  obtain ⟨a1, rfl, rfl, rfl, w1⟩ := open_int Try.underlying3 (hval 1 3 v1 rfl rfl) h1
  obtain ⟨a2, rfl, rfl, rfl, w2⟩ := open_int Try.underlying3 (hval 2 3 v2 rfl rfl) h2
  obtain ⟨a3, rfl, rfl, rfl, w3⟩ := open_int Try.underlying3 (hval 3 3 v3 rfl rfl) h3
  clear hA0 hval0
  refine (walk c0 a1 a2 a3 W w0 w1 w2 w3).mono fun e W' ⟨he, bel⟩ => ?_
  subst he
  exact ⟨_, rfl, _, _, _, [], _, [], hW', trodAll_mk1 (shut_bool Try.underlying4 _), (trodAll_cons_mk (Below.trod laidOut (by kernel_rfl) (of_decide_eq_true (by kernel_rfl)) k0 bel lt0) (trodAll_cons_mk (shut_int Try.underlying3 w1) (trodAll_cons_mk (shut_int Try.underlying3 w2) (trodAll_cons_mk (shut_int Try.underlying3 w3) trodAll_mk0)))), rfl, bel.frame _, fun h => by cases h⟩

theorem over : Rows.layoutTellsRow.holds Try.pinned (OpenSpec.ofChange Rows.layoutTellsSpec) :=
  OpenClaim.holds_of_wide 4 Try.f4 rfl rfl rfl rfl rfl rfl rfl ⟨rfl, rfl, rfl, rfl, rfl⟩ rfl rfl rfl rfl rfl (by kernel_rfl) Try.func4 (by kernel_rfl)
    (of_decide_eq_true (by kernel_rfl)) (by unfold Func.isWrapper; first | (rw [if_pos (by decide +kernel)]; kernel_rfl) | (rw [if_neg (by decide +kernel)]; exact ⟨rfl, rfl⟩))
    (fun os started H enc _ => lifted os started H enc)

/-- ████ THE STATEMENT ████ -/
theorem proved : Rows.LayoutTellsSaid := over
end Go.Proofs.Ythicjoicfckmpaa.layoutTells
namespace Go.Proofs.Ythicjoicfckmpaa
theorem layoutTells_holds : Rows.LayoutTellsSaid := layoutTells.proved
#print axioms layoutTells_holds
end Go.Proofs.Ythicjoicfckmpaa
