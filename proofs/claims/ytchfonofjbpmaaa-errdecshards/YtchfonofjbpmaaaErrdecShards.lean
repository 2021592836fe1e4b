/- PROVED: for all k, m, all slices has of bools and all slices shards of byte slices the call ErrdecShards(k, m, has, shards) returns true, and its arguments read behind it as before; no conditions. -/
import Derived.Test.YtchfonofjbpmaaaRows
import Derived.Test.YtchfonofjbpmaaaTome14
import Derived.Test.YtchfonofjbpmaaaTome20
import Derived.WalkKit
import Derived.ProofKit
import Derived.OpenShut
import Derived.ShutString
import Derived.ChangeOld
import Derived.Below
import Derived.Deep.Grids
import Derived.Deep.Matrix
namespace Go.Proofs.Ytchfonofjbpmaaa.errdecShards
open Go.ChangeShapes Go.WideShapes Go.ChangeAt Go.RowKit
open Go.ChangeMaps (open_string shut_string)
set_option linter.unusedVariables false

theorem own : ownKnob Try.prog.godebug = none := by kernel_rfl
theorem laidOut : laidOutB Try.prog = true := by kernel_rfl

/-- WHAT THE WALK IS TOLD OF A SLICE OF INTEGERS THAT CAME IN: it is nil; or it leads to a row of 'cap' cells, the numbers 'zs' (the first 'len' are its elements, the rest its spare room), each fitting its kind. -/
def IsRow (k : IntKind) (w : World) (a : Option Addr) (len cap : Nat) (zs : List Int) : Prop :=
  (a = none ∧ len = 0 ∧ cap = 0 ∧ zs = []) ∨
  ∃ x, a = some x ∧ len ≤ cap ∧ cap ≤ maxLen ∧ zs.length = cap ∧ (∀ i, i < zs.length → w.cell? (x.add i) = some (.int k (zs.getD i 0))) ∧ ∀ n ∈ zs, (Lit.int k n).wf = true

open Gf
set_option linter.unusedSimpArgs false
set_option maxRecDepth 100000 in
set_option maxHeartbeats 4000000 in
theorem walk (a0 : Int) (a1 : Int) (a2 : Option Addr) (len2 cap2 : Nat) (z2 : List Bool) (a3 : Option Addr) (len3 cap3 : Nat) (z3 : List (List UInt8)) (w : World) (w0 : (Lit.int .i64 a0).wf = true) (w1 : (Lit.int .i64 a1).wf = true) (w2 : RdB w (.slice a2 len2 cap2) z2) (w3 : Rs w (.slice a3 len3 cap3) z3) :
    Calls Try.prog 4 #[.int .i64 a0, .int .i64 a1, .slice a2 len2 cap2, .slice a3 len3 cap3] w fun e w' => e = .returned (.bool true) ∧ Below w.heap.size w w' := by
  obtain rfl := w2.lenEq
  obtain rfl := rs_lenEq w3
  go_enter Try.func4, Try.ntmps4
  have B : Below w.heap.size w w := Below.refl _ _
  go_wp2_with fail
  refine (awake10_any _).mono ?_
  rintro e u1 ⟨rfl, b⟩
  have D : Below (World.heap w |>.size) w u1 := Below.next (by repeat (first | exact Below.refl _ _ | apply Below.drewN | apply Below.drew | apply Below.draws | apply below_lit)) b
  replace w2 := w2.below D
  replace w3 := w3.below D
  replace B := Below.next B D
  clear b D
  go_wp2_with fail
  refine (new_any _).mono ?_
  rintro e u2 ⟨rfl, F, hO⟩
  have b := hO.below
  clear hO
  have D : Below (World.heap u1 |>.size) u1 u2 := Below.next (by repeat (first | exact Below.refl _ _ | apply Below.drewN | apply Below.drew | apply Below.draws | apply below_lit)) b
  replace w2 := w2.below D
  replace w3 := w3.below D
  replace B := Below.next B D
  clear b D
  go_wp2_with fail
  refine (few10_any a0 a1 _).mono ?_
  rintro e u3 ⟨t0, rfl, b⟩
  have D : Below (World.heap u2 |>.size) u2 u3 := Below.next (by repeat (first | exact Below.refl _ _ | apply Below.drewN | apply Below.drew | apply Below.draws | apply below_lit)) b
  replace w2 := w2.below D
  replace w3 := w3.below D
  replace F := F.below D
  replace B := Below.next B D
  clear b D
  cases t0
  · skip
    go_wp2
    go_ret
    exact ⟨rfl, Below.next B (by repeat (first | exact Below.refl _ _ | apply Below.drewN | apply Below.drew | apply Below.draws | apply below_lit))⟩
  · by_cases h10 : (z3.length : Int) > 10
    · skip
      go_wp2
      go_ret
      exact ⟨rfl, Below.next B (by repeat (first | exact Below.refl _ _ | apply Below.drewN | apply Below.drew | apply Below.draws | apply below_lit))⟩
    · skip
      go_wp2
      go_loop [11] (fun i => ∃ r : Nat, r ≤ z3.length ∧ i = .int .i64 (r : Int) ∧ Hid (∀ j, j < r → (ro z3 j).length ≤ 6)) (fun i => z3.length - (intOf i).toNat)
      case atStart => exact ⟨0, by omega, rfl, fun j hj => by omega⟩
      case round =>
        obtain ⟨r, hr, rfl, hI⟩ := hrel
        by_cases hlt : r < z3.length
        · have hlt' : (r : Int) < (z3.length : Int) := by omega
          obtain ⟨b1, o1, xa, xc, e1, _, c1, r1⟩ := w3.at hlt
          subst e1
          have hll := r1.len
          unfold maxLen at hll
          by_cases h6 : (ro z3 r).length ≤ 6
          · have h6' : ¬ ((ro z3 r).length : Int) > 6 := by omega
            have HI : Hid (∀ j, j < r + 1 → (ro z3 j).length ≤ 6) := fun j hj => by
              by_cases q : j = r
              · rw [q]; exact h6
              · exact hI.out j (by omega)
            clear r1 hI h6
            go_wp2
            go_round
            case rel => exact ⟨r + 1, by omega, by go_num, HI⟩
            case measure => simp [intOf]; omega
          · have h6' : ((ro z3 r).length : Int) > 6 := by omega
            clear r1 hI h6
            go_wp2
            go_ret
            exact ⟨rfl, Below.next B (by repeat (first | exact Below.refl _ _ | apply Below.drewN | apply Below.drew | apply Below.draws | apply below_lit))⟩
        · have hge : ¬ (r : Int) < (z3.length : Int) := by omega
          have hsm : Hid (∀ i, hb z2 i = true → (ro z3 i).length ≤ 300) := fun i _ => by
            rcases Nat.lt_or_ge i z3.length with h | h
            · have h9 := hI.out i (by omega); omega
            · rw [ro_ge h]; simp
          clear hI
          go_wp2_with fail
          refine (esh_any (k := a0) (m := a1) (F.below (by repeat (first | exact Below.refl _ _ | apply Below.drewN | apply Below.drew | apply Below.draws | apply below_lit))) (w2.below (by repeat (first | exact Below.refl _ _ | apply Below.drewN | apply Below.drew | apply Below.draws | apply below_lit))) (w3.below (by repeat (first | exact Below.refl _ _ | apply Below.drewN | apply Below.drew | apply Below.draws | apply below_lit))) hsm.out).mono ?_
          rintro e u4 ⟨va, vd, rfl, Ra, Oa, b⟩
          have Wa := Oa.rd (shP_small _ _ _ _)
          clear Oa
          have D : Below (World.heap u3 |>.size) u3 u4 := Below.next (by repeat (first | exact Below.refl _ _ | apply Below.drewN | apply Below.drew | apply Below.draws | apply below_lit)) b
          replace F := F.below D
          replace w2 := w2.below D
          replace w3 := w3.below D
          replace B := Below.next B D
          clear b D
          obtain ⟨aa, ac, rfl⟩ := Ra.form
          obtain ⟨da, dc, rfl⟩ := Wa.form
          go_wp2_with fail
          refine (rsh_any (k := a0) (m := a1) (w2.below (by repeat (first | exact Below.refl _ _ | apply Below.drewN | apply Below.drew | apply Below.draws | apply below_lit))) (w3.below (by repeat (first | exact Below.refl _ _ | apply Below.drewN | apply Below.drew | apply Below.draws | apply below_lit))) hsm.out).mono ?_
          rintro e u5 ⟨vb, ve, rfl, Rb, Ob, b⟩
          have Wb := Ob.rd (shP_small _ _ _ _)
          clear Ob
          have D : Below (World.heap u4 |>.size) u4 u5 := Below.next (by repeat (first | exact Below.refl _ _ | apply Below.drewN | apply Below.drew | apply Below.draws | apply below_lit)) b
          replace F := F.below D
          replace w2 := w2.below D
          replace w3 := w3.below D
          replace Ra := Ra.below D
          replace Wa := Wa.below D
          replace B := Below.next B D
          clear b D
          obtain ⟨ba, bc, rfl⟩ := Rb.form
          obtain ⟨ea, ec, rfl⟩ := Wb.form
          have hWl : Hid ((toI (shP a0 a1 z2 z3)).length ≤ 1000000) := (by rw [toI_length]; exact shP_small _ _ _ _ : (toI (shP a0 a1 z2 z3)).length ≤ 1000000)
          go_wp2_with fail
          refine (same106_t (Ra.below (by repeat (first | exact Below.refl _ _ | apply Below.drewN | apply Below.drew | apply Below.draws | apply below_lit))) (Rb.below (by repeat (first | exact Below.refl _ _ | apply Below.drewN | apply Below.drew | apply Below.draws | apply below_lit))) rfl).mono ?_
          rintro e u6 ⟨rfl, b⟩
          have D : Below (World.heap u5 |>.size) u5 u6 := Below.next (by repeat (first | exact Below.refl _ _ | apply Below.drewN | apply Below.drew | apply Below.draws | apply below_lit)) b
          replace F := F.below D
          replace w2 := w2.below D
          replace w3 := w3.below D
          replace Ra := Ra.below D
          replace Wa := Wa.below D
          replace Rb := Rb.below D
          replace Wb := Wb.below D
          replace B := Below.next B D
          clear b D
          go_wp2_with fail
          refine (ints_t (Wa.below (by repeat (first | exact Below.refl _ _ | apply Below.drewN | apply Below.drew | apply Below.draws | apply below_lit))) (Wb.below (by repeat (first | exact Below.refl _ _ | apply Below.drewN | apply Below.drew | apply Below.draws | apply below_lit))) hWl.out hWl.out rfl).mono ?_
          rintro e u7 ⟨rfl, b⟩
          have D : Below (World.heap u6 |>.size) u6 u7 := Below.next (by repeat (first | exact Below.refl _ _ | apply Below.drewN | apply Below.drew | apply Below.draws | apply below_lit)) b
          replace F := F.below D
          replace w2 := w2.below D
          replace w3 := w3.below D
          replace Ra := Ra.below D
          replace Wa := Wa.below D
          replace Rb := Rb.below D
          replace Wb := Wb.below D
          replace B := Below.next B D
          clear b D
          generalize shX a0 a1 z2 z3 = x1
          go_wp2
          go_ret
          exact ⟨rfl, Below.next B (by repeat (first | exact Below.refl _ _ | apply Below.drewN | apply Below.drew | apply Below.draws | apply below_lit))⟩

/-! ### THE ROW's STEP: WRITTEN OUT: LEAVE IT -/
set_option maxRecDepth 100000 in
theorem lifted (os : Os) (started : os.Started) (H : Type) (enc : TypeId × Value → H) :
    ReturnsInHanded {} Try.checked os 4 .any (Rows.errdecShardsSpec.pre6 enc Try.prog Try.f4 Rows.errdecShardsRow.domain false) (Rows.errdecShardsSpec.post enc Try.prog Try.f4 false true false false) := by
  refine returnsInHanded_of_change (C := Try.checked) own started (by kernel_rfl) Try.func4
    (ChangeSpec.witness6 (enc := enc) (C := Try.checked) false ⟨#[], #[.int .i64 0, .int .i64 0, .slice none 0 0, .slice none 0 0], []⟩ 8 (by kernel_rfl) (by kernel_rfl) (by kernel_rfl) (by kernel_rfl)) ?_
  intro W base args ds gs before hval0 hW hcnd _
  have hval : ∀ (j : Nat) t v, Try.f4.params[j]? = some t → args[j]? = some v → Value.okWide Try.prog W .any base t v := hval0
  have hW' := hW
  obtain ⟨p, q, hA0, hV, rfl, hfz, hnd⟩ := hW
  have hA : DataW.TrodAll enc Try.prog W 0 (fun _ => true) true Try.f4.params.toList args.toList ds p := hA0
  rw [Try.params4] at hA hval
  obtain ⟨v0, vs0, d0, ds0, p0, q0, hargs, rfl, rfl, h0, r0⟩ := trodAll_cons hA
  obtain ⟨v1, vs1, d1, ds1, p1, q1, rfl, rfl, rfl, h1, r1⟩ := trodAll_cons r0
  obtain ⟨v2, vs2, d2, ds2, p2, q2, rfl, rfl, rfl, h2, r2⟩ := trodAll_cons r1
  obtain ⟨v3, vs3, d3, ds3, p3, q3, rfl, rfl, rfl, h3, r3⟩ := trodAll_cons r2
  obtain ⟨rfl, rfl, rfl⟩ := trodAll_nil r3
  obtain rfl : args = #[v0, v1, v2, v3] := by cases args; simp_all
  obtain ⟨rfl, rfl⟩ := trodVars_none hV
  obtain ⟨a0, rfl, rfl, rfl, w0⟩ := open_int Try.underlying3 (hval 0 3 v0 rfl rfl) h0
  obtain ⟨a1, rfl, rfl, rfl, w1⟩ := open_int Try.underlying3 (hval 1 3 v1 rfl rfl) h1
  obtain ⟨a2, len2, cap2, rfl⟩ := okWide_slice Try.underlying23 (hval 2 23 v2 rfl rfl)
  have k2 := h2
  have lt2 : ∀ x ∈ p2, x.block < W.heap.size := by obtain ⟨m, hm⟩ := k2; exact DataW.trod_lt m _ _ _ hm
  obtain ⟨z2, w2⟩ : ∃ zs, RdB W (.slice a2 len2 cap2) zs := by
    obtain ⟨fuel, hf⟩ := h2
    rcases Go.Deep.open_bools Try.underlying23 Try.underlying4 (by kernel_rfl) hf with ⟨hcs, _⟩ | ⟨x, l, c, B, hcs, _, hl, hm, _, hcell⟩
    · simp [Value.cells] at hcs
      obtain ⟨rfl, rfl, rfl⟩ := hcs
      exact ⟨[], rdB_none⟩
    · simp [Value.cells] at hcs
      obtain ⟨rfl, rfl, rfl⟩ := hcs
      exact rdB_row hl hm hcell
  obtain ⟨a3, len3, cap3, rfl⟩ := okWide_slice Try.underlying36 (hval 3 36 v3 rfl rfl)
  have k3 := h3
  have lt3 : ∀ x ∈ p3, x.block < W.heap.size := by obtain ⟨m, hm⟩ := k3; exact DataW.trod_lt m _ _ _ hm
  obtain ⟨z3, w3⟩ : ∃ zs, Rs W (.slice a3 len3 cap3) zs := by
    obtain ⟨fuel, hf⟩ := h3
    rcases Go.Deep.open_int_rows Try.underlying36 Try.underlying22 Try.underlying5 (by kernel_rfl) (by kernel_rfl) hf with ⟨hcs, _⟩ | ⟨x, l, c, A, N, C, Z, hcs, _, hl, hm, _, hrows⟩
    · simp [Value.cells] at hcs
      obtain ⟨rfl, rfl, rfl⟩ := hcs
      exact ⟨[], rs_none⟩
    · simp [Value.cells] at hcs
      obtain ⟨rfl, rfl, rfl⟩ := hcs
      exact rs_rows hl hm hrows
  clear hA0 hval0
  refine (walk a0 a1 a2 len2 cap2 z2 a3 len3 cap3 z3 W w0 w1 w2 w3).mono fun e W' ⟨he, bel⟩ => ?_
  subst he
  exact ⟨_, rfl, _, _, _, [], _, [], hW', trodAll_mk1 (shut_bool Try.underlying4 _), (trodAll_cons_mk (shut_int Try.underlying3 w0) (trodAll_cons_mk (shut_int Try.underlying3 w1) (trodAll_cons_mk (Below.trod laidOut (by kernel_rfl) (of_decide_eq_true (by kernel_rfl)) k2 bel lt2) (trodAll_cons_mk (Below.trod laidOut (by kernel_rfl) (of_decide_eq_true (by kernel_rfl)) k3 bel lt3) trodAll_mk0)))), rfl, bel.frame _, fun h => by cases h⟩

theorem over : Rows.errdecShardsRow.holds Try.pinned (OpenSpec.ofChange Rows.errdecShardsSpec) :=
  OpenClaim.holds_of_wide 4 Try.f4 rfl rfl rfl rfl rfl rfl rfl ⟨rfl, rfl, rfl, rfl, rfl⟩ rfl rfl rfl rfl rfl (by kernel_rfl) Try.func4 (by kernel_rfl)
    (of_decide_eq_true (by kernel_rfl)) (by unfold Func.isWrapper; first | (rw [if_pos (by decide +kernel)]; kernel_rfl) | (rw [if_neg (by decide +kernel)]; exact ⟨rfl, rfl⟩))
    (fun os started H enc _ => lifted os started H enc)

/-- ████ THE STATEMENT ████ -/
theorem proved : Rows.ErrdecShardsSaid := over
end Go.Proofs.Ytchfonofjbpmaaa.errdecShards
namespace Go.Proofs.Ytchfonofjbpmaaa
theorem errdecShards_holds : Rows.ErrdecShardsSaid := errdecShards.proved
#print axioms errdecShards_holds
end Go.Proofs.Ytchfonofjbpmaaa
