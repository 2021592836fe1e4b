/- PROVED: for all k, m, every word and all slices missing of bools the call ErrdecWords(k, m, word, missing) returns true, and its arguments read behind it as before; no conditions. -/
import Derived.Test.YtchfonofjbpmaaaRows
import Derived.Test.YtchfonofjbpmaaaTome22
import Derived.WalkKit
import Derived.ProofKit
import Derived.OpenShut
import Derived.ShutString
import Derived.ChangeOld
import Derived.Below
import Derived.Deep.Grids
namespace Go.Proofs.Ytchfonofjbpmaaa.errdecWords
open Go.ChangeShapes Go.WideShapes Go.ChangeAt Go.RowKit
open Go.ChangeMaps (open_string shut_string)
set_option linter.unusedVariables false

theorem own : ownKnob Try.prog.godebug = none := by kernel_rfl
theorem laidOut : laidOutB Try.prog = true := by kernel_rfl

/-- WHAT THE WALK IS TOLD OF A SLICE OF INTEGERS THAT CAME IN: it is nil; or it leads to a row of 'cap' cells, the numbers 'zs' (the first 'len' are its elements, the rest its spare room), each fitting its kind. -/
def IsRow (k : IntKind) (w : World) (a : Option Addr) (len cap : Nat) (zs : List Int) : Prop :=
  (a = none ∧ len = 0 ∧ cap = 0 ∧ zs = []) ∨
  ∃ x, a = some x ∧ len ≤ cap ∧ cap ≤ maxLen ∧ zs.length = cap ∧ (∀ i, i < zs.length → w.cell? (x.add i) = some (.int k (zs.getD i 0))) ∧ ∀ n ∈ zs, (Lit.int k n).wf = true

open Gf
set_option linter.unusedSimpArgs false
set_option maxRecDepth 100000 in
set_option maxHeartbeats 4000000 in
theorem walk (a0 : Int) (a1 : Int) (a2 : Option Addr) (len2 cap2 : Nat) (z2 : List Int) (a3 : Option Addr) (len3 cap3 : Nat) (z3 : List Bool) (w : World) (w0 : (Lit.int .i64 a0).wf = true) (w1 : (Lit.int .i64 a1).wf = true) (w2 : IsRow .u8 w a2 len2 cap2 z2) (w3 : RdB w (.slice a3 len3 cap3) z3) :
    Calls Try.prog 3 #[.int .i64 a0, .int .i64 a1, .slice a2 len2 cap2, .slice a3 len3 cap3] w fun e w' => e = .returned (.bool true) ∧ Below w.heap.size w w' := by
  obtain ⟨z2, rfl, w2⟩ := rd_row w2
  obtain rfl := w3.lenEq
  go_enter Try.func3, Try.ntmps3
  have B : Below w.heap.size w w := Below.refl _ _
  go_wp2_with fail
  refine (awake10_any _).mono ?_
  rintro e u1 ⟨rfl, b⟩
  have D : Below (World.heap w |>.size) w u1 := Below.next (by repeat (first | exact Below.refl _ _ | apply Below.drewN | apply Below.drew | apply Below.draws | apply below_lit)) b
  replace w2 := w2.below D
  replace w3 := w3.below D
  replace B := Below.next B D
  clear b D
  go_wp2_with fail
  refine (new_any _).mono ?_
  rintro e u2 ⟨rfl, F, hO⟩
  have b := hO.below
  clear hO
  have D : Below (World.heap u1 |>.size) u1 u2 := Below.next (by repeat (first | exact Below.refl _ _ | apply Below.drewN | apply Below.drew | apply Below.draws | apply below_lit)) b
  replace w2 := w2.below D
  replace w3 := w3.below D
  replace B := Below.next B D
  clear b D
  go_wp2_with fail
  refine (few10_any a0 a1 _).mono ?_
  rintro e u3 ⟨t0, rfl, b⟩
  have D : Below (World.heap u2 |>.size) u2 u3 := Below.next (by repeat (first | exact Below.refl _ _ | apply Below.drewN | apply Below.drew | apply Below.draws | apply below_lit)) b
  replace w2 := w2.below D
  replace w3 := w3.below D
  replace F := F.below D
  replace B := Below.next B D
  clear b D
  cases t0
  · skip
    go_wp2
    go_ret
    exact ⟨rfl, Below.next B (by repeat (first | exact Below.refl _ _ | apply Below.drewN | apply Below.drew | apply Below.draws | apply below_lit))⟩
  · skip
    go_wp2_with fail
    refine (eword_any (k := a0) (m := a1) (F.below (by repeat (first | exact Below.refl _ _ | apply Below.drewN | apply Below.drew | apply Below.draws | apply below_lit))) (w2.below (by repeat (first | exact Below.refl _ _ | apply Below.drewN | apply Below.drew | apply Below.draws | apply below_lit))) (w3.below (by repeat (first | exact Below.refl _ _ | apply Below.drewN | apply Below.drew | apply Below.draws | apply below_lit)))).mono ?_
    rintro e u4 ⟨va, vd, rfl, Ra, Oa, b, fa⟩
    have Wa := Oa.rd (wdP_small _ _ _ _)
    clear fa Oa
    have D : Below (World.heap u3 |>.size) u3 u4 := Below.next (by repeat (first | exact Below.refl _ _ | apply Below.drewN | apply Below.drew | apply Below.draws | apply below_lit)) b
    replace w2 := w2.below D
    replace w3 := w3.below D
    replace F := F.below D
    replace B := Below.next B D
    clear b D
    obtain ⟨aa, ac, rfl⟩ := Ra.form
    obtain ⟨da, dc, rfl⟩ := Wa.form
    go_wp2_with fail
    refine (rword_any (k := a0) (m := a1) (w2.below (by repeat (first | exact Below.refl _ _ | apply Below.drewN | apply Below.drew | apply Below.draws | apply below_lit))) (w3.below (by repeat (first | exact Below.refl _ _ | apply Below.drewN | apply Below.drew | apply Below.draws | apply below_lit)))).mono ?_
    rintro e u5 ⟨vb, ve, rfl, Rb, Ob, b, fb⟩
    have Wb := Ob.rd (wdP_small _ _ _ _)
    clear fb Ob
    have D : Below (World.heap u4 |>.size) u4 u5 := Below.next (by repeat (first | exact Below.refl _ _ | apply Below.drewN | apply Below.drew | apply Below.draws | apply below_lit)) b
    replace w2 := w2.below D
    replace w3 := w3.below D
    replace F := F.below D
    replace Ra := Ra.below D
    replace Wa := Wa.below D
    replace B := Below.next B D
    clear b D
    obtain ⟨ba, bc, rfl⟩ := Rb.form
    obtain ⟨ea, ec, rfl⟩ := Wb.form
    have hWl : Hid ((toI (wdP a0 a1 z2 z3)).length ≤ 1000000) := (by rw [toI_length]; exact wdP_small _ _ _ _ : (toI (wdP a0 a1 z2 z3)).length ≤ 1000000)
    go_wp2_with fail
    refine (same10_t (Ra.below (by repeat (first | exact Below.refl _ _ | apply Below.drewN | apply Below.drew | apply Below.draws | apply below_lit))) (Rb.below (by repeat (first | exact Below.refl _ _ | apply Below.drewN | apply Below.drew | apply Below.draws | apply below_lit))) rfl).mono ?_
    rintro e u6 ⟨rfl, b⟩
    have D : Below (World.heap u5 |>.size) u5 u6 := Below.next (by repeat (first | exact Below.refl _ _ | apply Below.drewN | apply Below.drew | apply Below.draws | apply below_lit)) b
    replace w2 := w2.below D
    replace w3 := w3.below D
    replace F := F.below D
    replace Ra := Ra.below D
    replace Wa := Wa.below D
    replace Rb := Rb.below D
    replace Wb := Wb.below D
    replace B := Below.next B D
    clear b D
    go_wp2_with fail
    refine (ints_t (Wa.below (by repeat (first | exact Below.refl _ _ | apply Below.drewN | apply Below.drew | apply Below.draws | apply below_lit))) (Wb.below (by repeat (first | exact Below.refl _ _ | apply Below.drewN | apply Below.drew | apply Below.draws | apply below_lit))) hWl.out hWl.out rfl).mono ?_
    rintro e u7 ⟨rfl, b⟩
    have D : Below (World.heap u6 |>.size) u6 u7 := Below.next (by repeat (first | exact Below.refl _ _ | apply Below.drewN | apply Below.drew | apply Below.draws | apply below_lit)) b
    replace w2 := w2.below D
    replace w3 := w3.below D
    replace F := F.below D
    replace Ra := Ra.below D
    replace Wa := Wa.below D
    replace Rb := Rb.below D
    replace Wb := Wb.below D
    replace B := Below.next B D
    clear b D
    generalize wdX a0 a1 z2 z3 = x1
    go_wp2
    go_ret
    exact ⟨rfl, Below.next B (by repeat (first | exact Below.refl _ _ | apply Below.drewN | apply Below.drew | apply Below.draws | apply below_lit))⟩

/-! ### THE ROW's STEP: WRITTEN OUT: LEAVE IT -/
set_option maxRecDepth 100000 in
theorem lifted (os : Os) (started : os.Started) (H : Type) (enc : TypeId × Value → H) :
    ReturnsInHanded {} Try.checked os 3 .any (Rows.errdecWordsSpec.pre6 enc Try.prog Try.f3 Rows.errdecWordsRow.domain false) (Rows.errdecWordsSpec.post enc Try.prog Try.f3 false true false false) := by
  refine returnsInHanded_of_change (C := Try.checked) own started (by kernel_rfl) Try.func3
    (ChangeSpec.witness6 (enc := enc) (C := Try.checked) false ⟨#[], #[.int .i64 0, .int .i64 0, .slice none 0 0, .slice none 0 0], []⟩ 8 (by kernel_rfl) (by kernel_rfl) (by kernel_rfl) (by kernel_rfl)) ?_
  intro W base args ds gs before hval0 hW hcnd _
  have hval : ∀ (j : Nat) t v, Try.f3.params[j]? = some t → args[j]? = some v → Value.okWide Try.prog W .any base t v := hval0
  have hW' := hW
  obtain ⟨p, q, hA0, hV, rfl, hfz, hnd⟩ := hW
  have hA : DataW.TrodAll enc Try.prog W 0 (fun _ => true) true Try.f3.params.toList args.toList ds p := hA0
  rw [Try.params3] at hA hval
  obtain ⟨v0, vs0, d0, ds0, p0, q0, hargs, rfl, rfl, h0, r0⟩ := trodAll_cons hA
  obtain ⟨v1, vs1, d1, ds1, p1, q1, rfl, rfl, rfl, h1, r1⟩ := trodAll_cons r0
  obtain ⟨v2, vs2, d2, ds2, p2, q2, rfl, rfl, rfl, h2, r2⟩ := trodAll_cons r1
  obtain ⟨v3, vs3, d3, ds3, p3, q3, rfl, rfl, rfl, h3, r3⟩ := trodAll_cons r2
  obtain ⟨rfl, rfl, rfl⟩ := trodAll_nil r3
  obtain rfl : args = #[v0, v1, v2, v3] := by cases args; simp_all
  obtain ⟨rfl, rfl⟩ := trodVars_none hV
  obtain ⟨a0, rfl, rfl, rfl, w0⟩ := open_int Try.underlying3 (hval 0 3 v0 rfl rfl) h0
  obtain ⟨a1, rfl, rfl, rfl, w1⟩ := open_int Try.underlying3 (hval 1 3 v1 rfl rfl) h1
  obtain ⟨a2, len2, cap2, rfl⟩ := okWide_slice Try.underlying22 (hval 2 22 v2 rfl rfl)
  have k2 := h2
  have lt2 : ∀ x ∈ p2, x.block < W.heap.size := by obtain ⟨m, hm⟩ := k2; exact DataW.trod_lt m _ _ _ hm
  obtain ⟨z2, w2⟩ : ∃ zs, IsRow .u8 W a2 len2 cap2 zs := by
    obtain ⟨fuel, hf⟩ := h2
    rcases open_ints Try.underlying22 Try.underlying5 (by kernel_rfl) hf with ⟨hcs, _⟩ | ⟨x, l, c, zs, hcs, _, hl, hm, hz, _, hcell, hwz⟩
    · simp [Value.cells] at hcs
      obtain ⟨rfl, rfl, rfl⟩ := hcs
      exact ⟨[], .inl ⟨rfl, rfl, rfl, rfl⟩⟩
    · simp [Value.cells] at hcs
      obtain ⟨rfl, rfl, rfl⟩ := hcs
      exact ⟨zs, .inr ⟨_, rfl, hl, hm, by simpa using hz, hcell, hwz⟩⟩
  obtain ⟨a3, len3, cap3, rfl⟩ := okWide_slice Try.underlying23 (hval 3 23 v3 rfl rfl)
  have k3 := h3
  have lt3 : ∀ x ∈ p3, x.block < W.heap.size := by obtain ⟨m, hm⟩ := k3; exact DataW.trod_lt m _ _ _ hm
  obtain ⟨z3, w3⟩ : ∃ zs, RdB W (.slice a3 len3 cap3) zs := by
    obtain ⟨fuel, hf⟩ := h3
    rcases Go.Deep.open_bools Try.underlying23 Try.underlying4 (by kernel_rfl) hf with ⟨hcs, _⟩ | ⟨x, l, c, B, hcs, _, hl, hm, _, hcell⟩
    · simp [Value.cells] at hcs
      obtain ⟨rfl, rfl, rfl⟩ := hcs
      exact ⟨[], rdB_none⟩
    · simp [Value.cells] at hcs
      obtain ⟨rfl, rfl, rfl⟩ := hcs
      exact rdB_row hl hm hcell
  clear hA0 hval0
  refine (walk a0 a1 a2 len2 cap2 z2 a3 len3 cap3 z3 W w0 w1 w2 w3).mono fun e W' ⟨he, bel⟩ => ?_
  subst he
  exact ⟨_, rfl, _, _, _, [], _, [], hW', trodAll_mk1 (shut_bool Try.underlying4 _), (trodAll_cons_mk (shut_int Try.underlying3 w0) (trodAll_cons_mk (shut_int Try.underlying3 w1) (trodAll_cons_mk (Below.trod laidOut (by kernel_rfl) (of_decide_eq_true (by kernel_rfl)) k2 bel lt2) (trodAll_cons_mk (Below.trod laidOut (by kernel_rfl) (of_decide_eq_true (by kernel_rfl)) k3 bel lt3) trodAll_mk0)))), rfl, bel.frame _, fun h => by cases h⟩

theorem over : Rows.errdecWordsRow.holds Try.pinned (OpenSpec.ofChange Rows.errdecWordsSpec) :=
  OpenClaim.holds_of_wide 3 Try.f3 rfl rfl rfl rfl rfl rfl rfl ⟨rfl, rfl, rfl, rfl, rfl⟩ rfl rfl rfl rfl rfl (by kernel_rfl) Try.func3 (by kernel_rfl)
    (of_decide_eq_true (by kernel_rfl)) (by unfold Func.isWrapper; first | (rw [if_pos (by decide +kernel)]; kernel_rfl) | (rw [if_neg (by decide +kernel)]; exact ⟨rfl, rfl⟩))
    (fun os started H enc _ => lifted os started H enc)

/-- ████ THE STATEMENT ████ -/
theorem proved : Rows.ErrdecWordsSaid := over
end Go.Proofs.Ytchfonofjbpmaaa.errdecWords
namespace Go.Proofs.Ytchfonofjbpmaaa
theorem errdecWords_holds : Rows.ErrdecWordsSaid := errdecWords.proved
#print axioms errdecWords_holds
end Go.Proofs.Ytchfonofjbpmaaa
