/- PROVED: for all lists l of objects and all parts the call RecordSnaps(l, parts) returns true, and its arguments read behind it as before; no conditions. -/
import Derived.ProofKit
import Derived.ShutString
import Derived.ChangeOld
import Derived.Below
import Derived.Deep.Matrix
import Derived.Test.YthmoiffkgcnjmaaQome18
namespace Go.Proofs.Ythmoiffkgcnjmaa.recordSnaps
open Go.ChangeShapes Go.WideShapes Go.ChangeAt Go.RowKit
open Go.ChangeMaps (open_string shut_string)
set_option linter.unusedVariables false

theorem own : ownKnob Try.prog.godebug = none := by kernel_rfl
theorem laidOut : laidOutB Try.prog = true := by kernel_rfl

/-- WHAT THE WALK IS TOLD OF A SLICE OF INTEGERS THAT CAME IN: it is nil; or it leads to a row of 'cap' cells, the numbers 'zs' (the first 'len' are its elements, the rest its spare room), each fitting its kind. -/
def IsRow (k : IntKind) (w : World) (a : Option Addr) (len cap : Nat) (zs : List Int) : Prop :=
  (a = none ∧ len = 0 ∧ cap = 0 ∧ zs = []) ∨
  ∃ x, a = some x ∧ len ≤ cap ∧ cap ≤ maxLen ∧ zs.length = cap ∧ (∀ i, i < zs.length → w.cell? (x.add i) = some (.int k (zs.getD i 0))) ∧ ∀ n ∈ zs, (Lit.int k n).wf = true

open Gf
set_option linter.unusedSimpArgs false
theorem may_st {L : List ObV} (h : MayL (oL L)) : ∀ i, i < L.length → (L.getD i default).o.st.length ≤ 1000000 := fun i hi => by
  have := ((may_up.1 h).2.1 i hi).1.1.2.2.2.2.2.1
  exact Nat.le_trans this (by decide)
theorem may_ll {L : List ObV} (h : MayL (oL L)) : L.length ≤ 1000 := by
  have := h.1
  rw [oL_length] at this
  omega
theorem isP_may {P : List (List UInt8)} {l : List ObS} (h : IsP P l) : MayL l := (isP_back h).1
/-- the rest behind both snaps -/
theorem sn_tail {p : Prop} (h : p := by
  have KU := uns16_any (RP.out uz T) hl1
  try go_wp2_with fail
  refine KU.mono ?_
  rintro _ ua (⟨L, vc, hp, rfl, RO, b⟩ | ⟨hn, rfl, b⟩)
  · have T2 := T.step16 b T.size
    have HP : Hid (IsP z1 (oL L)) := hp
    replace RX := RX.below b
    replace RY := RY.below b
    obtain ⟨ca, cc, ec⟩ := RO.form
    rw [ec] at RO
    rw [ec]
    clear ec vc KU hp b T
    have KV := runs16_any (RP.out ua T2)
    generalize L.length = nL at RO
    go_wp2_with fail
    refine KV.mono ?_
    rintro _ ub (⟨M, vd, hp, rfl, RD, b⟩ | ⟨hn, -⟩)
    rotate_left
    · exact absurd HP.out (hn _)
    have T3 := T2.step16 b T2.size
    have EL : Hid (oL L = oL M) := isP_one HP.out hp
    have HQ : Hid (IsP z1 (oL M)) := hp
    replace RX := RX.below b
    replace RY := RY.below b
    replace RO := RO.below b
    obtain ⟨da, dc, ed⟩ := RD.form
    rw [ed] at RD
    rw [ed]
    generalize M.length = nM at RD
    clear ed vd KV hp b T2
    have KP := parts16_any RX RY lX lX
    go_wp2_with fail
    refine KP.mono ?_
    rintro _ uc ⟨x, rfl, hx, b⟩
    obtain rfl : x = true := by first | exact hx.2 rfl | exact hx.2 trivial
    have T4 := T3.step16 b T3.size
    replace RO := RO.below b
    replace RD := RD.below b
    clear KP hx b T3 RX RY
    have KO := robjs16_any RO RD (may_ll (isP_may HP.out)) (may_st (isP_may HP.out)) (may_st (isP_may HQ.out))
    go_wp2_with fail
    refine KO.mono ?_
    rintro _ ud ⟨x, rfl, hx, b⟩
    obtain rfl : x = true := hx.2 EL.out
    have FIN := T4.step16 b T4.size
    clear KO hx b T4 RO RD
    go_wp2
    go_ret
    exact ⟨rfl, FIN⟩
  · have T2 := T.step16 b T.size
    have HN : Hid (∀ l, ¬ IsP z1 l) := hn
    replace RX := RX.below b
    replace RY := RY.below b
    clear KU hn b T
    have KV := runs16_any (RP.out ua T2)
    go_wp2_with fail
    refine KV.mono ?_
    rintro _ ub (⟨M, vd, hp, -⟩ | ⟨hn, rfl, b⟩)
    · exact absurd hp (HN.out _)
    have T3 := T2.step16 b T2.size
    replace RX := RX.below b
    replace RY := RY.below b
    clear KV hn b T2
    have KP := parts16_any RX RY lX lX
    go_wp2_with fail
    refine KP.mono ?_
    rintro _ uc ⟨x, rfl, hx, b⟩
    obtain rfl : x = true := by first | exact hx.2 rfl | exact hx.2 trivial
    have T4 := T3.step16 b T3.size
    clear KP hx b T3 RX RY
    have R0 : RdO uc (.slice none 0 0) [] := Or.inl ⟨none, 0, rfl, rfl⟩
    have KO := robjs16_any R0 R0 (Nat.zero_le _) (fun i hi => absurd hi (Nat.not_lt_zero _)) (fun i hi => absurd hi (Nat.not_lt_zero _))
    clear R0
    go_wp2_with fail
    refine KO.mono ?_
    rintro _ ud ⟨x, rfl, hx, b⟩
    obtain rfl : x = true := by first | exact hx.2 rfl | exact hx.2 trivial
    have FIN := T4.step16 b T4.size
    clear KO hx b T4
    go_wp2
    go_ret
    exact ⟨rfl, FIN⟩) : p := h

set_option maxRecDepth 100000 in
set_option maxHeartbeats 4000000 in
theorem walk (a0 : Option Addr) (len0 cap0 : Nat) (z0 : List ObV) (a1 : Option Addr) (len1 cap1 : Nat) (z1 : List (List UInt8)) (w : World) (w0 : RdO w (.slice a0 len0 cap0) z0) (w1 : Rs w (.slice a1 len1 cap1) z1) :
    Calls Try.prog 6 #[.slice a0 len0 cap0, .slice a1 len1 cap1] w fun e w' => e = .returned (.bool true) ∧ Below w.heap.size w w' := by
  obtain rfl := w0.lenEq
  obtain ⟨a9, c9, e9⟩ := w1.form
  simp at e9
  obtain ⟨rfl, rfl, rfl⟩ := e9
  have LO : Hid (∀ W, Below w.heap.size w W → RdO W (.slice a0 z0.length cap0) z0) := fun W b => w0.below b
  have RP : Hid (∀ W, Below w.heap.size w W → Rs W (.slice a1 z1.length cap1) z1) := fun W b => w1.below b
  clear w0 w1
  go_enter Try.func6, Try.ntmps6
  go_wp2_with fail
  refine (awake16_any _).mono ?_
  rintro _ u1 ⟨rfl, T⟩
  have KL := little16_any (LO.out u1 T)
  go_wp2_with fail
  refine KL.mono ?_
  rintro _ u2 ⟨x, rfl, hx, b⟩
  have HX : Hid (x = true ↔ Little16 z0) := hx
  clear KL hx
  replace T := T.step16 b T.size
  clear b
  cases x with
  | false =>
    clear HX
    go_wp2
    go_ret
    exact ⟨rfl, T⟩
  | true =>
    have LT : Hid (Little16 z0) := HX.out.1 rfl
    clear HX
    have KS := short16_any (RP.out u2 T)
    go_wp2_with fail
    refine KS.mono ?_
    rintro _ u3 ⟨x, rfl, hx, b⟩
    have HX : Hid (x = true ↔ Short16 z1) := hx
    clear KS hx
    replace T := T.step16 b T.size
    clear b
    cases x with
    | false =>
      clear HX
      go_wp2
      go_ret
      exact ⟨rfl, T⟩
    | true =>
      have hl1 : z1.length ≤ 1000 := by have := (HX.out.1 rfl).1; omega
      clear HX
      have hst : Hid (∀ i, i < z0.length → (z0.getD i default).o.st.length ≤ 1000000) := fun i hi => Nat.le_trans (LT.out.2 i hi).2 (by decide)
      have KN := snap16_any (LO.out u3 T) hst.out
      go_wp2_with fail
      refine KN.mono ?_
      rintro _ u4 (⟨hm, vx, rfl, RX, b⟩ | ⟨hn, rfl, b⟩)
      · have HM : Hid (MayL (oL z0)) := hm
        have T4 := T.step16 b T.size
        obtain ⟨xa, xc, ex⟩ := RX.form
        rw [ex] at RX
        rw [ex]
        have lx : (snP (oL z0)).length = 2 := rfl
        rw [lx] at RX
        rw [lx]
        clear ex vx KN T b hm lx
        have KM := rsnap16_any (LO.out u4 T4) hst.out
        go_wp2_with fail
        refine KM.mono ?_
        rintro _ uz (⟨-, vy, rfl, RY, b⟩ | ⟨hn, -⟩)
        rotate_left
        · exact absurd HM.out hn
        have T := T4.step16 b T4.size
        replace RX := RX.below b
        obtain ⟨ya, yc, ey⟩ := RY.form
        rw [ey] at RY
        rw [ey]
        have ly : (snP (oL z0)).length = 2 := rfl
        rw [ly] at RY
        rw [ly]
        have lX : (snP (oL z0)).length ≤ 1000000 := by rw [ly]; omega
        clear ey vy KM b T4 ly
        exact sn_tail
      · have HN : Hid (¬ MayL (oL z0)) := hn
        have T4 := T.step16 b T.size
        clear KN T b hn
        have KM := rsnap16_any (LO.out u4 T4) hst.out
        go_wp2_with fail
        refine KM.mono ?_
        rintro _ uz (⟨hm, -⟩ | ⟨-, rfl, b⟩)
        · exact absurd hm HN.out
        have T := T4.step16 b T4.size
        have RX : Rs uz (.slice none 0 0) [] := rs_none
        have RY : Rs uz (.slice none 0 0) [] := rs_none
        have lX : ([] : List (List UInt8)).length ≤ 1000000 := Nat.zero_le _
        clear KM b T4
        exact sn_tail

/-! ### THE ROW's STEP: WRITTEN OUT: LEAVE IT -/
set_option maxRecDepth 100000 in
theorem lifted (os : Os) (started : os.Started) (H : Type) (enc : TypeId × Value → H) :
    ReturnsInHanded {} Try.checked os 6 .any (Rows.recordSnapsSpec.pre6 enc Try.prog Try.f6 Rows.recordSnapsRow.domain false) (Rows.recordSnapsSpec.post enc Try.prog Try.f6 false true false false) := by
  refine returnsInHanded_of_change (C := Try.checked) own started (by kernel_rfl) Try.func6
    (ChangeSpec.witness6 (enc := enc) (C := Try.checked) false ⟨#[], #[.slice none 0 0, .slice none 0 0], []⟩ 8 (by kernel_rfl) (by kernel_rfl) (by kernel_rfl) (by kernel_rfl)) ?_
  intro W base args ds gs before hval0 hW hcnd _
  have hval : ∀ (j : Nat) t v, Try.f6.params[j]? = some t → args[j]? = some v → Value.okWide Try.prog W .any base t v := hval0
  have hW' := hW
  obtain ⟨p, q, hA0, hV, rfl, hfz, hnd⟩ := hW
  have hA : DataW.TrodAll enc Try.prog W 0 (fun _ => true) true Try.f6.params.toList args.toList ds p := hA0
  rw [Try.params6] at hA hval
  obtain ⟨v0, vs0, d0, ds0, p0, q0, hargs, rfl, rfl, h0, r0⟩ := trodAll_cons hA
  obtain ⟨v1, vs1, d1, ds1, p1, q1, rfl, rfl, rfl, h1, r1⟩ := trodAll_cons r0
  obtain ⟨rfl, rfl, rfl⟩ := trodAll_nil r1
  obtain rfl : args = #[v0, v1] := by cases args; simp_all
  obtain ⟨rfl, rfl⟩ := trodVars_none hV
  obtain ⟨a0, len0, cap0, rfl⟩ := okWide_slice Try.underlying37 (hval 0 37 v0 rfl rfl)
  have k0 := h0
  have lt0 : ∀ x ∈ p0, x.block < W.heap.size := by obtain ⟨m, hm⟩ := k0; exact DataW.trod_lt m _ _ _ hm
  obtain ⟨z0, w0⟩ : ∃ zs, RdO W (.slice a0 len0 cap0) zs := by
    obtain ⟨fuel, hf⟩ := h0
    obtain ⟨a9, l9, c9, L9, hcs, _, hR⟩ := open_objs (si := 3) Try.underlying37 Try.underlying62 (by kernel_rfl) rfl rfl rfl rfl (by kernel_rfl) (by kernel_rfl) (by kernel_rfl) (by kernel_rfl) (by kernel_rfl) (by kernel_rfl) (by kernel_rfl) (by kernel_rfl) (by kernel_rfl) (by kernel_rfl) hf
    simp [Value.cells] at hcs
    obtain ⟨rfl, rfl, rfl⟩ := hcs
    exact ⟨L9, hR⟩
  obtain ⟨a1, len1, cap1, rfl⟩ := okWide_slice Try.underlying38 (hval 1 38 v1 rfl rfl)
  have k1 := h1
  have lt1 : ∀ x ∈ p1, x.block < W.heap.size := by obtain ⟨m, hm⟩ := k1; exact DataW.trod_lt m _ _ _ hm
  obtain ⟨z1, w1⟩ : ∃ zs, Rs W (.slice a1 len1 cap1) zs := by
    obtain ⟨fuel, hf⟩ := h1
    rcases Go.Deep.open_int_rows Try.underlying38 Try.underlying26 Try.underlying5 (by kernel_rfl) (by kernel_rfl) hf with ⟨hcs, _⟩ | ⟨x, l, c, A, N, C, Z, hcs, _, hl, hm, _, hrows⟩
    · simp [Value.cells] at hcs
      obtain ⟨rfl, rfl, rfl⟩ := hcs
      exact ⟨[], rs_none⟩
    · simp [Value.cells] at hcs
      obtain ⟨rfl, rfl, rfl⟩ := hcs
      exact rs_rows hl hm hrows
  clear hA0 hval0
  refine (walk a0 len0 cap0 z0 a1 len1 cap1 z1 W w0 w1).mono fun e W' ⟨he, bel⟩ => ?_
  subst he
  exact ⟨_, rfl, _, _, _, [], _, [], hW', trodAll_mk1 (shut_bool Try.underlying4 _), (trodAll_cons_mk (Below.trod laidOut (by kernel_rfl) (of_decide_eq_true (by kernel_rfl)) k0 bel lt0) (trodAll_cons_mk (Below.trod laidOut (by kernel_rfl) (of_decide_eq_true (by kernel_rfl)) k1 bel lt1) trodAll_mk0)), rfl, bel.frame _, fun h => by cases h⟩

theorem over : Rows.recordSnapsRow.holds Try.pinned (OpenSpec.ofChange Rows.recordSnapsSpec) :=
  OpenClaim.holds_of_wide 6 Try.f6 rfl rfl rfl rfl rfl rfl rfl ⟨rfl, rfl, rfl, rfl, rfl⟩ rfl rfl rfl rfl rfl (by kernel_rfl) Try.func6 (by kernel_rfl)
    (of_decide_eq_true (by kernel_rfl)) (by unfold Func.isWrapper; first | (rw [if_pos (by decide +kernel)]; kernel_rfl) | (rw [if_neg (by decide +kernel)]; exact ⟨rfl, rfl⟩))
    (fun os started H enc _ => lifted os started H enc)

/-- ████ THE STATEMENT ████ -/
theorem proved : Rows.RecordSnapsSaid := over
end Go.Proofs.Ythmoiffkgcnjmaa.recordSnaps
namespace Go.Proofs.Ythmoiffkgcnjmaa
theorem recordSnaps_holds : Rows.RecordSnapsSaid := recordSnaps.proved
#print axioms recordSnaps_holds
end Go.Proofs.Ythmoiffkgcnjmaa
