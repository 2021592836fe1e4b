/- PROVED: for all matrices a, b (whatever their rows and columns say) the call MatrixNil(a, b) returns true, and its arguments read behind it as before; no conditions. -/
import Derived.Test.YtljbecalobnkbaaRows
import Derived.Test.YtljbecalobnkbaaMxAwake
import Derived.Test.YtljbecalobnkbaaMxSmall
import Derived.Test.YtljbecalobnkbaaMxLaws
import Derived.WalkKit
import Derived.ProofKit
import Derived.OpenShut
import Derived.ShutString
import Derived.ChangeOld
import Derived.Below
import Derived.Lib.SmallJoins
namespace Go.Proofs.Ytljbecalobnkbaa.matrixNil
open Go.ChangeShapes Go.WideShapes Go.ChangeAt Go.RowKit
open Go.ChangeMaps (open_string shut_string)
set_option linter.unusedVariables false

theorem own : ownKnob Try.prog.godebug = none := by kernel_rfl
theorem laidOut : laidOutB Try.prog = true := by kernel_rfl

/-- WHAT THE WALK IS TOLD OF A SLICE OF INTEGERS THAT CAME IN: it is nil; or it leads to a row of 'cap' cells, the numbers 'zs' (the first 'len' are its elements, the rest its spare room), each fitting its kind. -/
def IsRow (k : IntKind) (w : World) (a : Option Addr) (len cap : Nat) (zs : List Int) : Prop :=
  (a = none ∧ len = 0 ∧ cap = 0 ∧ zs = []) ∨
  ∃ x, a = some x ∧ len ≤ cap ∧ cap ≤ maxLen ∧ zs.length = cap ∧ (∀ i, i < zs.length → w.cell? (x.add i) = some (.int k (zs.getD i 0))) ∧ ∀ n ∈ zs, (Lit.int k n).wf = true

open Gf
set_option linter.unusedSimpArgs false
set_option maxRecDepth 100000 in
set_option maxHeartbeats 2000000 in
theorem walk (mr0 mc0 : Int) (a0 : Option Addr) (len0 cap0 : Nat) (z0 : List Int) (mr1 mc1 : Int) (a1 : Option Addr) (len1 cap1 : Nat) (z1 : List Int) (w : World) (wr0 : (Lit.int .i64 mr0).wf = true) (wc0 : (Lit.int .i64 mc0).wf = true) (w0 : IsRow .u8 w a0 len0 cap0 z0) (wr1 : (Lit.int .i64 mr1).wf = true) (wc1 : (Lit.int .i64 mc1).wf = true) (w1 : IsRow .u8 w a1 len1 cap1 z1) :
    Calls Try.prog 8 #[.agg #[.int .i64 mr0, .int .i64 mc0, .slice a0 len0 cap0], .agg #[.int .i64 mr1, .int .i64 mc1, .slice a1 len1 cap1]] w fun e w' => e = .returned (.bool true) ∧ Below w.heap.size w w' := by
  obtain ⟨La, rfl, Ra⟩ := rd_row w0
  obtain ⟨Lb, rfl, Rb⟩ := rd_row w1
  go_enter Try.func8, Try.ntmps8
  have B : Below w.heap.size w w := Below.refl _ _
  go_wp2_with fail
  refine (awake3_any _).mono ?_
  rintro e u1 ⟨rfl, b⟩
  have D : Below w.heap.size w u1 := Below.next (by repeat (first | exact Below.refl _ _ | apply Below.draws | apply below_lit)) b
  have sD := D.size
  replace Ra := Ra.below D
  replace Rb := Rb.below D
  have Xa : Box u1 (w.heap.size) _ _ _ := Below.box b (by simp <;> omega) (by first | exact Box.new _ _ _ _ _ | exact (Box.new _ _ _ _ _).alloc (by simp) _ | exact ((Box.new _ _ _ _ _).alloc (by simp) _).alloc (by simp <;> omega) _ | exact Box.new1 _ _ _ _ _ _ | exact (Box.new1 _ _ _ _ _ _).alloc (by simp <;> omega) _ | exact Box.new2 _ _ _ _ _ _ _)
  have la : w.heap.size < u1.heap.size := by have := b.size; simp at this; omega
  have Xb : Box u1 (w.heap.size + 1) _ _ _ := Below.box b (by simp <;> omega) (by first | exact Box.new _ _ _ _ _ | exact (Box.new _ _ _ _ _).alloc (by simp) _ | exact ((Box.new _ _ _ _ _).alloc (by simp) _).alloc (by simp <;> omega) _ | exact Box.new1 _ _ _ _ _ _ | exact (Box.new1 _ _ _ _ _ _).alloc (by simp <;> omega) _ | exact Box.new2 _ _ _ _ _ _ _)
  have lb : w.heap.size + 1 < u1.heap.size := by have := b.size; simp at this; omega
  replace B := Below.next B D
  clear b D sD
  have xa0 := Xa.c0
  have xa1 := Xa.c1
  have xa2 := Xa.c2
  have xb0 := Xb.c0
  have xb1 := Xb.c1
  have xb2 := Xb.c2
  go_wp2_with fail
  refine (mmul_nil ⟨_, rfl, (Ra.below (by repeat (first | exact Below.refl _ _ | apply Below.draws | apply below_lit)))⟩ ⟨_, rfl, (Rb.below (by repeat (first | exact Below.refl _ _ | apply Below.draws | apply below_lit)))⟩).mono ?_
  rintro e u2 ⟨vm, rfl, Rm, b⟩
  clear xa0 xa1 xa2 xb0 xb1 xb2
  have D : Below (World.heap u1 |>.size) u1 u2 := Below.next (by repeat (first | exact Below.refl _ _ | apply Below.draws | apply below_lit)) b
  have sD := D.size
  replace Ra := Ra.below D
  replace Rb := Rb.below D
  replace Xa := Xa.below la D
  replace la := Nat.lt_of_lt_of_le la sD
  replace Xb := Xb.below lb D
  replace lb := Nat.lt_of_lt_of_le lb sD
  replace B := Below.next B D
  clear b D sD
  have xa0 := Xa.c0
  have xa1 := Xa.c1
  have xa2 := Xa.c2
  have xb0 := Xb.c0
  have xb1 := Xb.c1
  have xb2 := Xb.c2
  obtain ⟨am, cm, rfl⟩ := Rm.form
  clear Rm
  go_wp2_with fail
  refine (minv_nil ⟨_, rfl, (Ra.below (by repeat (first | exact Below.refl _ _ | apply Below.draws | apply below_lit)))⟩).mono ?_
  rintro e u3 ⟨vv, rfl, Rv, b⟩
  clear xa0 xa1 xa2 xb0 xb1 xb2
  have D : Below (World.heap u2 |>.size) u2 u3 := Below.next (by repeat (first | exact Below.refl _ _ | apply Below.draws | apply below_lit)) b
  have sD := D.size
  replace Ra := Ra.below D
  replace Rb := Rb.below D
  replace Xa := Xa.below la D
  replace la := Nat.lt_of_lt_of_le la sD
  replace Xb := Xb.below lb D
  replace lb := Nat.lt_of_lt_of_le lb sD
  have Xm : Box u3 (World.heap u2 |>.size) _ _ _ := Below.box b (by simp <;> omega) (by first | exact Box.new _ _ _ _ _ | exact (Box.new _ _ _ _ _).alloc (by simp) _ | exact ((Box.new _ _ _ _ _).alloc (by simp) _).alloc (by simp <;> omega) _)
  have lm : (World.heap u2 |>.size) < (World.heap u3 |>.size) := by have := b.size; simp at this; omega
  replace B := Below.next B D
  clear b D sD
  have xa0 := Xa.c0
  have xa1 := Xa.c1
  have xa2 := Xa.c2
  have xb0 := Xb.c0
  have xb1 := Xb.c1
  have xb2 := Xb.c2
  have xm0 := Xm.c0
  have xm1 := Xm.c1
  have xm2 := Xm.c2
  obtain ⟨av, cv, rfl⟩ := Rv.form
  clear Rv
  go_wp2
  go_ret
  exact ⟨rfl, Below.next B (by repeat (first | exact Below.refl _ _ | apply Below.draws | apply below_lit))⟩

/-! ### THE ROW's STEP: WRITTEN OUT: LEAVE IT -/
set_option maxRecDepth 100000 in
set_option maxHeartbeats 2000000 in
theorem lifted (os : Os) (started : os.Started) (H : Type) (enc : TypeId × Value → H) :
    ReturnsInHanded {} Try.checked os 8 .any (Rows.matrixNilSpec.pre6 enc Try.prog Try.f8 Rows.matrixNilRow.domain false) (Rows.matrixNilSpec.post enc Try.prog Try.f8 false true false false) := by
  refine returnsInHanded_of_change (C := Try.checked) own started (by kernel_rfl) Try.func8
    (ChangeSpec.witness6 (enc := enc) (C := Try.checked) false ⟨#[], #[.agg #[.int .i64 0, .int .i64 0, .slice none 0 0], .agg #[.int .i64 0, .int .i64 0, .slice none 0 0]], []⟩ 8 (by kernel_rfl) (by kernel_rfl) (by kernel_rfl) (by kernel_rfl)) ?_
  intro W base args ds gs before hval0 hW hcnd _
  have hval : ∀ (j : Nat) t v, Try.f8.params[j]? = some t → args[j]? = some v → Value.okWide Try.prog W .any base t v := hval0
  have hW' := hW
  obtain ⟨p, q, hA0, hV, rfl, hfz, hnd⟩ := hW
  have hA : DataW.TrodAll enc Try.prog W 0 (fun _ => true) true Try.f8.params.toList args.toList ds p := hA0
  rw [Try.params8] at hA hval
  obtain ⟨v0, vs0, d0, ds0, p0, q0, hargs, rfl, rfl, h0, r0⟩ := trodAll_cons hA
  obtain ⟨v1, vs1, d1, ds1, p1, q1, rfl, rfl, rfl, h1, r1⟩ := trodAll_cons r0
  obtain ⟨rfl, rfl, rfl⟩ := trodAll_nil r1
  obtain rfl : args = #[v0, v1] := by cases args; simp_all
  obtain ⟨rfl, rfl⟩ := trodVars_none hV
  have k0 := h0
  have lt0 : ∀ x ∈ p0, x.block < W.heap.size := by obtain ⟨m, hm⟩ := k0; exact DataW.trod_lt m _ _ _ hm
  obtain ⟨x00, x01, x02, y00, y01, y02, m0, rfl, rfl, rfl, hy00, hy01, hy02⟩ := Go.Joins.open_agg3 Try.underlying25 (by kernel_rfl) (by kernel_rfl) (hval 0 25 v0 rfl rfl) h0
  obtain ⟨mr0, e00, f00, wr0⟩ := DataW.trod_int Try.underlying3 hy00
  obtain ⟨mc0, e01, f01, wc0⟩ := DataW.trod_int Try.underlying3 hy01
  obtain ⟨a0, len0, cap0, z0, e02, w0⟩ : ∃ a len cap zs, x02 = .slice a len cap ∧ IsRow .u8 W a len cap zs := by
    rcases open_ints Try.underlying23 Try.underlying5 (by kernel_rfl) hy02 with ⟨hcs, _⟩ | ⟨x, l, c, zs, hcs, _, hl, hm, hz, _, hcell, hwz⟩
    · simp at hcs
      exact ⟨none, 0, 0, [], hcs, .inl ⟨rfl, rfl, rfl, rfl⟩⟩
    · simp at hcs
      exact ⟨_, _, _, zs, hcs, .inr ⟨_, rfl, hl, hm, by simpa using hz, hcell, hwz⟩⟩
  simp at e00 e01
  subst e00 e01 e02
  have k1 := h1
  have lt1 : ∀ x ∈ p1, x.block < W.heap.size := by obtain ⟨m, hm⟩ := k1; exact DataW.trod_lt m _ _ _ hm
  obtain ⟨x10, x11, x12, y10, y11, y12, m1, rfl, rfl, rfl, hy10, hy11, hy12⟩ := Go.Joins.open_agg3 Try.underlying25 (by kernel_rfl) (by kernel_rfl) (hval 1 25 v1 rfl rfl) h1
  obtain ⟨mr1, e10, f10, wr1⟩ := DataW.trod_int Try.underlying3 hy10
  obtain ⟨mc1, e11, f11, wc1⟩ := DataW.trod_int Try.underlying3 hy11
  obtain ⟨a1, len1, cap1, z1, e12, w1⟩ : ∃ a len cap zs, x12 = .slice a len cap ∧ IsRow .u8 W a len cap zs := by
    rcases open_ints Try.underlying23 Try.underlying5 (by kernel_rfl) hy12 with ⟨hcs, _⟩ | ⟨x, l, c, zs, hcs, _, hl, hm, hz, _, hcell, hwz⟩
    · simp at hcs
      exact ⟨none, 0, 0, [], hcs, .inl ⟨rfl, rfl, rfl, rfl⟩⟩
    · simp at hcs
      exact ⟨_, _, _, zs, hcs, .inr ⟨_, rfl, hl, hm, by simpa using hz, hcell, hwz⟩⟩
  simp at e10 e11
  subst e10 e11 e12
  clear hA0 hval0
  refine (walk mr0 mc0 a0 len0 cap0 z0 mr1 mc1 a1 len1 cap1 z1 W wr0 wc0 w0 wr1 wc1 w1).mono fun e W' ⟨he, bel⟩ => ?_
  subst he
  exact ⟨_, rfl, _, _, _, [], _, [], hW', trodAll_mk1 (shut_bool Try.underlying4 _), (trodAll_cons_mk (Below.trod laidOut (by kernel_rfl) (of_decide_eq_true (by kernel_rfl)) k0 bel lt0) (trodAll_cons_mk (Below.trod laidOut (by kernel_rfl) (of_decide_eq_true (by kernel_rfl)) k1 bel lt1) trodAll_mk0)), rfl, bel.frame _, fun h => by cases h⟩

theorem over : Rows.matrixNilRow.holds Try.pinned (OpenSpec.ofChange Rows.matrixNilSpec) :=
  OpenClaim.holds_of_wide 8 Try.f8 rfl rfl rfl rfl rfl rfl rfl ⟨rfl, rfl, rfl, rfl, rfl⟩ rfl rfl rfl rfl rfl (by kernel_rfl) Try.func8 (by kernel_rfl)
    (of_decide_eq_true (by kernel_rfl)) (by unfold Func.isWrapper; first | (rw [if_pos (by decide +kernel)]; kernel_rfl) | (rw [if_neg (by decide +kernel)]; exact ⟨rfl, rfl⟩))
    (fun os started H enc _ => lifted os started H enc)

/-- ████ THE STATEMENT ████ -/
theorem proved : Rows.MatrixNilSaid := over
end Go.Proofs.Ytljbecalobnkbaa.matrixNil
namespace Go.Proofs.Ytljbecalobnkbaa
theorem matrixNil_holds : Rows.MatrixNilSaid := matrixNil.proved
#print axioms matrixNil_holds
end Go.Proofs.Ytljbecalobnkbaa
