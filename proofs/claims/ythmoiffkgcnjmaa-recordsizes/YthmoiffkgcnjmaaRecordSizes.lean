/- PROVED: for all records r and s the call RecordSizes(r, s) returns true, and its arguments read behind it as before; no conditions. -/
import Derived.ProofKit
import Derived.ShutString
import Derived.ChangeOld
import Derived.Below
import Derived.Test.YthmoiffkgcnjmaaTome12
import Derived.Test.YthmoiffkgcnjmaaTome13
namespace Go.Proofs.Ythmoiffkgcnjmaa.recordSizes
open Go.ChangeShapes Go.WideShapes Go.ChangeAt Go.RowKit
open Go.ChangeMaps (open_string shut_string)
set_option linter.unusedVariables false

theorem own : ownKnob Try.prog.godebug = none := by kernel_rfl
theorem laidOut : laidOutB Try.prog = true := by kernel_rfl

/-- WHAT THE WALK IS TOLD OF A SLICE OF INTEGERS THAT CAME IN: it is nil; or it leads to a row of 'cap' cells, the numbers 'zs' (the first 'len' are its elements, the rest its spare room), each fitting its kind. -/
def IsRow (k : IntKind) (w : World) (a : Option Addr) (len cap : Nat) (zs : List Int) : Prop :=
  (a = none ∧ len = 0 ∧ cap = 0 ∧ zs = []) ∨
  ∃ x, a = some x ∧ len ≤ cap ∧ cap ≤ maxLen ∧ zs.length = cap ∧ (∀ i, i < zs.length → w.cell? (x.add i) = some (.int k (zs.getD i 0))) ∧ ∀ n ∈ zs, (Lit.int k n).wf = true

open Gf
set_option linter.unusedSimpArgs false
theorem two_alike {r s : RcS} (hr : OkR r) (hs : OkR s) : sameB (enR r) (enR s) = sameR r s := by
  by_cases e : r = s
  · subst e
    rw [sameB_of rfl, sameR_iff.2 rfl]
  · have h1 : sameB (enR r) (enR s) = false := decide_eq_false fun q => e (en_inj hr hs (a := []) (b := []) (by rw [q])).1
    have h2 : sameR r s = false := by
      cases h : sameR r s with
      | false => rfl
      | true => exact absurd (sameR_iff.1 h) e
    rw [h1, h2]

set_option maxRecDepth 100000 in
set_option maxHeartbeats 4000000 in
theorem walk (c0 : RcV) (c1 : RcV) (w : World) (w0 : c0.In w) (w1 : c1.In w) :
    Calls Try.prog 8 #[aggR c0, aggR c1] w fun e w' => e = .returned (.bool true) ∧ Below w.heap.size w w' := by
  obtain ⟨⟨k0, y0, n0, s0⟩, v0⟩ := c0
  obtain ⟨⟨k1, y1, n1, s1⟩, v1⟩ := c1
  obtain ⟨a0, p0, e⟩ := w0.rs.form
  simp only at e
  subst e
  obtain ⟨a1, p1, e⟩ := w1.rs.form
  simp only at e
  subst e
  show Calls Try.prog 8 #[.agg #[.int .i64 k0, .string ⟨y0.toArray⟩, .int .i64 n0, .slice a0 s0.length p0], .agg #[.int .i64 k1, .string ⟨y1.toArray⟩, .int .i64 n1, .slice a1 s1.length p1]] w _
  obtain ⟨wb, hwb⟩ : ∃ wb, wb = (w.alloc (.cells #[.int .i64 k0, .string ⟨y0.toArray⟩, .int .i64 n0, .slice a0 s0.length p0] 25)).alloc (.cells #[.int .i64 k1, .string ⟨y1.toArray⟩, .int .i64 n1, .slice a1 s1.length p1] 25) := ⟨_, rfl⟩
  have BB : Below w.heap.size w wb := by rw [hwb]; exact (belR _ _).trans ((belR _ _).mono (by simp))
  have sb : wb.heap.size = w.heap.size + 2 := by rw [hwb]; simp
  have KP : Hid (∀ W, Below wb.heap.size wb W → (W.cell? ⟨w.heap.size, 0, none⟩ = some (.int .i64 k0) ∧ W.cell? ⟨w.heap.size, 1, none⟩ = some (.string ⟨y0.toArray⟩) ∧ W.cell? ⟨w.heap.size, 2, none⟩ = some (.int .i64 n0) ∧ W.cell? ⟨w.heap.size, 3, none⟩ = some (.slice a0 s0.length p0)) ∧ W.cell? ⟨w.heap.size + 1, 0, none⟩ = some (.int .i64 k1) ∧ W.cell? ⟨w.heap.size + 1, 1, none⟩ = some (.string ⟨y1.toArray⟩) ∧ W.cell? ⟨w.heap.size + 1, 2, none⟩ = some (.int .i64 n1) ∧ W.cell? ⟨w.heap.size + 1, 3, none⟩ = some (.slice a1 s1.length p1)) := by
    have g : ∀ j, wb.cell? ⟨w.heap.size, j, none⟩ = #[Value.int .i64 k0, .string ⟨y0.toArray⟩, .int .i64 n0, .slice a0 s0.length p0][j]? := fun j => by
      rw [hwb, World.cell?_alloc_lt _ _ _ (by simp), World.cell?_alloc_new]
    have g' : ∀ j, wb.cell? ⟨w.heap.size + 1, j, none⟩ = #[Value.int .i64 k1, .string ⟨y1.toArray⟩, .int .i64 n1, .slice a1 s1.length p1][j]? := fun j => by
      rw [hwb, show w.heap.size + 1 = (w.alloc (.cells #[.int .i64 k0, .string ⟨y0.toArray⟩, .int .i64 n0, .slice a0 s0.length p0] 25)).heap.size by simp, World.cell?_alloc_new]
    have f0 : ∀ W, Below wb.heap.size wb W → ∀ j, W.cell? ⟨w.heap.size, j, none⟩ = wb.cell? ⟨w.heap.size, j, none⟩ := fun W b j => b.cell (p := ⟨w.heap.size, j, none⟩) (by show w.heap.size < _; omega)
    have f1 : ∀ W, Below wb.heap.size wb W → ∀ j, W.cell? ⟨w.heap.size + 1, j, none⟩ = wb.cell? ⟨w.heap.size + 1, j, none⟩ := fun W b j => b.cell (p := ⟨w.heap.size + 1, j, none⟩) (by show w.heap.size + 1 < _; omega)
    exact fun W b => ⟨⟨(f0 W b 0).trans (g 0), (f0 W b 1).trans (g 1), (f0 W b 2).trans (g 2), (f0 W b 3).trans (g 3)⟩, (f1 W b 0).trans (g' 0), (f1 W b 1).trans (g' 1), (f1 W b 2).trans (g' 2), (f1 W b 3).trans (g' 3)⟩
  have I0 := w0.below BB
  have I1 := w1.below BB
  have FR : Hid (∀ W, Below wb.heap.size wb W → Below w.heap.size w W) := fun W b => BB.step16 b BB.size
  have I0' : Hid (∀ W, Below wb.heap.size wb W → RcV.In W ⟨⟨k0, y0, n0, s0⟩, .slice a0 s0.length p0⟩) := fun W b => I0.below b
  have I1' : Hid (∀ W, Below wb.heap.size wb W → RcV.In W ⟨⟨k1, y1, n1, s1⟩, .slice a1 s1.length p1⟩) := fun W b => I1.below b
  clear BB sb I0 I1 w0 w1
  go_enter Try.func8, Try.ntmps8
  go_wp2_with fail
  rw [← hwb]
  clear hwb
  refine (awake16_any _).mono ?_
  rintro _ u1 ⟨rfl, T⟩
  obtain ⟨⟨z0, z1, z2, z3⟩, x0, x1, x2, x3⟩ := KP.out u1 T
  have KF : Calls Try.prog 10 #[.agg #[.int .i64 k0, .string ⟨y0.toArray⟩, .int .i64 n0, .slice a0 s0.length p0]] u1 (fun e w' => e = .returned (.bool (decide (y0.length ≤ 300 ∧ s0.length ≤ 300))) ∧ Below u1.heap.size u1 w') := few16_any (c := ⟨⟨k0, y0, n0, s0⟩, .slice a0 s0.length p0⟩) (I0'.out u1 T)
  go_wp2_with fail
  refine KF.mono ?_
  rintro _ u2 ⟨rfl, b⟩
  clear KF z0 z1 z2 z3 x0 x1 x2 x3
  replace T := T.step16 b T.size
  clear b
  by_cases hf0 : y0.length ≤ 300 ∧ s0.length ≤ 300
  rotate_left
  · have FIN := FR.out _ T
    rw [decide_eq_false hf0]
    clear hf0
    go_wp2
    go_ret
    exact ⟨rfl, FIN⟩
  rw [decide_eq_true hf0]
  clear hf0
  obtain ⟨⟨z0, z1, z2, z3⟩, x0, x1, x2, x3⟩ := KP.out u2 T
  have KF : Calls Try.prog 10 #[.agg #[.int .i64 k1, .string ⟨y1.toArray⟩, .int .i64 n1, .slice a1 s1.length p1]] u2 (fun e w' => e = .returned (.bool (decide (y1.length ≤ 300 ∧ s1.length ≤ 300))) ∧ Below u2.heap.size u2 w') := few16_any (c := ⟨⟨k1, y1, n1, s1⟩, .slice a1 s1.length p1⟩) (I1'.out u2 T)
  go_wp2_with fail
  refine KF.mono ?_
  rintro _ u3 ⟨rfl, b⟩
  clear KF z0 z1 z2 z3 x0 x1 x2 x3
  replace T := T.step16 b T.size
  clear b
  by_cases hf1 : y1.length ≤ 300 ∧ s1.length ≤ 300
  rotate_left
  · have FIN := FR.out _ T
    rw [decide_eq_false hf1]
    clear hf1
    go_wp2
    go_ret
    exact ⟨rfl, FIN⟩
  rw [decide_eq_true hf1]
  have hl1 : s1.length ≤ 300 := hf1.2
  clear hf1
  obtain ⟨⟨z0, z1, z2, z3⟩, x0, x1, x2, x3⟩ := KP.out u3 T
  have KE : Calls Try.prog 11 #[.agg #[.int .i64 k0, .string ⟨y0.toArray⟩, .int .i64 n0, .slice a0 s0.length p0]] u3 (MakesE16 u3 (chR ⟨k0, y0, n0, s0⟩) (if OkR ⟨k0, y0, n0, s0⟩ then enR ⟨k0, y0, n0, s0⟩ else [])) := enc16_any (c := ⟨⟨k0, y0, n0, s0⟩, .slice a0 s0.length p0⟩) (I0'.out u3 T) rfl rfl
  go_wp2_with fail
  refine KE.mono ?_
  rintro _ u4 ⟨v4, rfl, R4, b⟩
  clear KE z0 z1 z2 z3 x0 x1 x2 x3
  replace T := T.step16 b T.size
  clear b
  obtain ⟨P0, hP0⟩ : ∃ P0, Hid (P0 = (if OkR ⟨k0, y0, n0, s0⟩ then enR ⟨k0, y0, n0, s0⟩ else [])) := ⟨_, rfl⟩
  rw [← hP0.out] at R4
  obtain ⟨a4, c4, e4⟩ := R4.form
  subst e4
  obtain ⟨⟨z0, z1, z2, z3⟩, x0, x1, x2, x3⟩ := KP.out u4 T
  have KE : Calls Try.prog 11 #[.agg #[.int .i64 k1, .string ⟨y1.toArray⟩, .int .i64 n1, .slice a1 s1.length p1]] u4 (MakesE16 u4 (chR ⟨k1, y1, n1, s1⟩) (if OkR ⟨k1, y1, n1, s1⟩ then enR ⟨k1, y1, n1, s1⟩ else [])) := enc16_any (c := ⟨⟨k1, y1, n1, s1⟩, .slice a1 s1.length p1⟩) (I1'.out u4 T) rfl rfl
  go_wp2_with fail
  refine KE.mono ?_
  rintro _ u5 ⟨v5, rfl, R5, b⟩
  clear KE z0 z1 z2 z3 x0 x1 x2 x3
  replace T := T.step16 b T.size
  replace R4 := R4.below b
  clear b
  obtain ⟨P1, hP1⟩ : ∃ P1, Hid (P1 = (if OkR ⟨k1, y1, n1, s1⟩ then enR ⟨k1, y1, n1, s1⟩ else [])) := ⟨_, rfl⟩
  rw [← hP1.out] at R5
  obtain ⟨a5, c5, e5⟩ := R5.form
  subst e5
  by_cases o0 : OkR ⟨k0, y0, n0, s0⟩
  rotate_left
  · have FIN := FR.out _ T
    have l0 : P0.length = 0 := by rw [hP0.out, if_neg o0]; rfl
    rw [show chR ⟨k0, y0, n0, s0⟩ = 1 from if_neg o0]
    rw [l0]
    generalize chR ⟨k1, y1, n1, s1⟩ = X1
    clear R4 R5 hP0 hP1 l0 o0
    go_wp2
    go_ret
    exact ⟨rfl, FIN⟩
  rw [show chR ⟨k0, y0, n0, s0⟩ = 0 from if_pos o0]
  by_cases o1 : OkR ⟨k1, y1, n1, s1⟩
  rotate_left
  · have FIN := FR.out _ T
    rw [show chR ⟨k1, y1, n1, s1⟩ = 1 from if_neg o1]
    clear R4 R5 hP0 hP1 o0 o1
    go_wp2
    go_ret
    exact ⟨rfl, FIN⟩
  rw [show chR ⟨k1, y1, n1, s1⟩ = 0 from if_pos o1]
  have KS := same_b R4 R5
  go_wp2_with fail
  refine KS.mono ?_
  rintro _ u6 ⟨rfl, b⟩
  clear KS
  have T6 := T.step16 b T.size
  obtain ⟨⟨z0, z1, z2, z3⟩, x0, x1, x2, x3⟩ := KP.out u6 T6
  have l0 : s0.length ≤ 256 := o0.2.2.2.2.2.1
  have KA : Calls Try.prog 16 #[.agg #[.int .i64 k0, .string ⟨y0.toArray⟩, .int .i64 n0, .slice a0 s0.length p0], .agg #[.int .i64 k1, .string ⟨y1.toArray⟩, .int .i64 n1, .slice a1 s1.length p1]] u6 (fun e w' => e = .returned (.bool (sameR ⟨k0, y0, n0, s0⟩ ⟨k1, y1, n1, s1⟩)) ∧ Below u6.heap.size u6 w') := same16_any (c := ⟨⟨k0, y0, n0, s0⟩, .slice a0 s0.length p0⟩) (d := ⟨⟨k1, y1, n1, s1⟩, .slice a1 s1.length p1⟩) (I0'.out u6 T6) (I1'.out u6 T6) (by show s0.length ≤ _; omega) (by show s1.length ≤ _; omega) rfl
  go_wp2_with fail
  refine KA.mono ?_
  rintro _ u7 ⟨rfl, b7⟩
  clear KA z0 z1 z2 z3 x0 x1 x2 x3
  have EB : Hid (sameB P0 P1 = sameR ⟨k0, y0, n0, s0⟩ ⟨k1, y1, n1, s1⟩) := by
    show _ = _
    rw [hP0.out, hP1.out, if_pos o0, if_pos o1]
    exact two_alike o0 o1
  rw [EB.out]
  generalize sameR ⟨k0, y0, n0, s0⟩ ⟨k1, y1, n1, s1⟩ = sx
  have T7 := T6.step16 b7 T6.size
  obtain ⟨⟨z0, z1, z2, z3⟩, -⟩ := KP.out u7 T7
  have FIN := FR.out _ T7
  have E0 : Hid (P0 = enR ⟨k0, y0, n0, s0⟩) := by rw [hP0.out, if_pos o0]; exact rfl
  have L0 : (P0.length : Int) = 8 + (y0.length : Int) + 2 * (s0.length : Int) := by rw [E0.out, enR_length]; show ((8 + y0.length + 2 * s0.length : Nat) : Int) = _; omega
  have hp0 : 0 < P0.length := by omega
  obtain ⟨b0, f0, ea, _, cz⟩ := ((R4.below b).below b7).byte hp0
  subst ea
  rw [Nat.add_zero] at cz
  have EK : Hid ((((co P0 0).toNat : Nat) : Int) = k0) := by
    show _ = _
    have hk := o0.1
    simp only at hk
    rw [E0.out]
    show (((UInt8.ofNat k0.toNat).toNat : Nat) : Int) = _
    rw [UInt8.toNat_ofNat']
    omega
  rw [EK.out] at cz
  have hk0 : 0 ≤ k0 ∧ k0 < 256 := by have := o0.1; simp only at this; omega
  have ly : y0.length ≤ 64 := o0.2.2.1
  generalize P0.length = m at L0 hp0
  have g1 : (m : Int) > 0 := by omega
  have g2 : IntKind.i64.wrap (8 + (y0.length : Int)) = 8 + (y0.length : Int) := by rw [IntKind.wrap_i64]; omega
  have g3 : IntKind.i64.wrap (2 * (s0.length : Int)) = 2 * (s0.length : Int) := by rw [IntKind.wrap_i64]; omega
  have g4 : IntKind.i64.wrap (m : Int) = (m : Int) := by rw [IntKind.wrap_i64]; omega
  have L1 : 8 + (y0.length : Int) + 2 * (s0.length : Int) = (m : Int) := L0.symm
  have g5 : wrap64 k0 = k0 := by unfold wrap64; omega
  clear EK E0 EB hP0 hP1 R4 R5 o0 o1 T T6 T7 b b7 L0
  go_wp2_with fail
  go_quiet (fail)
  go_wp2
  go_ret
  exact ⟨rfl, FIN.drewN nq⟩

/-! ### THE ROW's STEP: WRITTEN OUT: LEAVE IT -/
set_option maxRecDepth 100000 in
set_option maxHeartbeats 2000000 in
theorem lifted (os : Os) (started : os.Started) (H : Type) (enc : TypeId × Value → H) :
    ReturnsInHanded {} Try.checked os 8 .any (Rows.recordSizesSpec.pre6 enc Try.prog Try.f8 Rows.recordSizesRow.domain false) (Rows.recordSizesSpec.post enc Try.prog Try.f8 false true false false) := by
  refine returnsInHanded_of_change (C := Try.checked) own started (by kernel_rfl) Try.func8
    (ChangeSpec.witness6 (enc := enc) (C := Try.checked) false ⟨#[], #[.agg #[.int .i64 0, .string ⟨#[]⟩, .int .i64 0, .slice none 0 0], .agg #[.int .i64 0, .string ⟨#[]⟩, .int .i64 0, .slice none 0 0]], []⟩ 8 (by kernel_rfl) (by kernel_rfl) (by kernel_rfl) (by kernel_rfl)) ?_
  intro W base args ds gs before hval0 hW hcnd _
  have hval : ∀ (j : Nat) t v, Try.f8.params[j]? = some t → args[j]? = some v → Value.okWide Try.prog W .any base t v := hval0
  have hW' := hW
  obtain ⟨p, q, hA0, hV, rfl, hfz, hnd⟩ := hW
  have hA : DataW.TrodAll enc Try.prog W 0 (fun _ => true) true Try.f8.params.toList args.toList ds p := hA0
  rw [Try.params8] at hA hval
  obtain ⟨v0, vs0, d0, ds0, p0, q0, hargs, rfl, rfl, h0, r0⟩ := trodAll_cons hA
  obtain ⟨v1, vs1, d1, ds1, p1, q1, rfl, rfl, rfl, h1, r1⟩ := trodAll_cons r0
  obtain ⟨rfl, rfl, rfl⟩ := trodAll_nil r1
  obtain rfl : args = #[v0, v1] := by cases args; simp_all
  obtain ⟨rfl, rfl⟩ := trodVars_none hV
  have k0 := h0
  have lt0 : ∀ x ∈ p0, x.block < W.heap.size := by obtain ⟨m, hm⟩ := k0; exact DataW.trod_lt m _ _ _ hm
  obtain ⟨c0, rfl, w0⟩ := open_rec (si := 3) Try.underlying25 (by kernel_rfl) (by kernel_rfl) (by kernel_rfl) (by kernel_rfl) (by kernel_rfl) (by kernel_rfl) (by kernel_rfl) (by kernel_rfl) (hval 0 25 v0 rfl rfl) h0
  have k1 := h1
  have lt1 : ∀ x ∈ p1, x.block < W.heap.size := by obtain ⟨m, hm⟩ := k1; exact DataW.trod_lt m _ _ _ hm
  obtain ⟨c1, rfl, w1⟩ := open_rec (si := 3) Try.underlying25 (by kernel_rfl) (by kernel_rfl) (by kernel_rfl) (by kernel_rfl) (by kernel_rfl) (by kernel_rfl) (by kernel_rfl) (by kernel_rfl) (hval 1 25 v1 rfl rfl) h1
  clear hA0 hval0
  refine (walk c0 c1 W w0 w1).mono fun e W' ⟨he, bel⟩ => ?_
  subst he
  exact ⟨_, rfl, _, _, _, [], _, [], hW', trodAll_mk1 (shut_bool Try.underlying4 _), (trodAll_cons_mk (Below.trod laidOut (by kernel_rfl) (of_decide_eq_true (by kernel_rfl)) k0 bel lt0) (trodAll_cons_mk (Below.trod laidOut (by kernel_rfl) (of_decide_eq_true (by kernel_rfl)) k1 bel lt1) trodAll_mk0)), rfl, bel.frame _, fun h => by cases h⟩

theorem over : Rows.recordSizesRow.holds Try.pinned (OpenSpec.ofChange Rows.recordSizesSpec) :=
  OpenClaim.holds_of_wide 8 Try.f8 rfl rfl rfl rfl rfl rfl rfl ⟨rfl, rfl, rfl, rfl, rfl⟩ rfl rfl rfl rfl rfl (by kernel_rfl) Try.func8 (by kernel_rfl)
    (of_decide_eq_true (by kernel_rfl)) (by unfold Func.isWrapper; first | (rw [if_pos (by decide +kernel)]; kernel_rfl) | (rw [if_neg (by decide +kernel)]; exact ⟨rfl, rfl⟩))
    (fun os started H enc _ => lifted os started H enc)

/-- ████ THE STATEMENT ████ -/
theorem proved : Rows.RecordSizesSaid := over
end Go.Proofs.Ythmoiffkgcnjmaa.recordSizes
namespace Go.Proofs.Ythmoiffkgcnjmaa
theorem recordSizes_holds : Rows.RecordSizesSaid := recordSizes.proved
#print axioms recordSizes_holds
end Go.Proofs.Ythmoiffkgcnjmaa
