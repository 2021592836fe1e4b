/- PROVED: for all numbers addr, epoch, a and e and all lists data and d of bytes the call SectorApart(addr, epoch, data, a, e, d) returns true, and its arguments read behind it as before; no conditions. -/
import Derived.Test.YtfdihdndldiafaaRows
import Derived.Test.YtfdihdndldiafaaTome4
import Derived.Test.YtfdihdndldiafaaTome2
import Derived.WalkKit
import Derived.ProofKit
import Derived.OpenShut
import Derived.ShutString
import Derived.ChangeOld
import Derived.Below
namespace Go.Proofs.Ytfdihdndldiafaa.sectorApart
open Go.ChangeShapes Go.WideShapes Go.ChangeAt Go.RowKit
open Go.ChangeMaps (open_string shut_string)
set_option linter.unusedVariables false

theorem own : ownKnob Try.prog.godebug = none := by kernel_rfl
theorem laidOut : laidOutB Try.prog = true := by kernel_rfl

/-- WHAT THE WALK IS TOLD OF A SLICE OF INTEGERS THAT CAME IN: it is nil; or it leads to a row of 'cap' cells, the numbers 'zs' (the first 'len' are its elements, the rest its spare room), each fitting its kind. -/
def IsRow (k : IntKind) (w : World) (a : Option Addr) (len cap : Nat) (zs : List Int) : Prop :=
  (a = none ∧ len = 0 ∧ cap = 0 ∧ zs = []) ∨
  ∃ x, a = some x ∧ len ≤ cap ∧ cap ≤ maxLen ∧ zs.length = cap ∧ (∀ i, i < zs.length → w.cell? (x.add i) = some (.int k (zs.getD i 0))) ∧ ∀ n ∈ zs, (Lit.int k n).wf = true

open Gf
set_option linter.unusedSimpArgs false
set_option maxRecDepth 100000 in
set_option maxHeartbeats 4000000 in
theorem walk (a0 : Int) (a1 : Int) (a2 : Option Addr) (len2 cap2 : Nat) (z2 : List Int) (a3 : Int) (a4 : Int) (a5 : Option Addr) (len5 cap5 : Nat) (z5 : List Int) (w : World) (w0 : (Lit.int .i64 a0).wf = true) (w1 : (Lit.int .i64 a1).wf = true) (w2 : IsRow .u8 w a2 len2 cap2 z2) (w3 : (Lit.int .i64 a3).wf = true) (w4 : (Lit.int .i64 a4).wf = true) (w5 : IsRow .u8 w a5 len5 cap5 z5) :
    Calls Try.prog 8 #[.int .i64 a0, .int .i64 a1, .slice a2 len2 cap2, .int .i64 a3, .int .i64 a4, .slice a5 len5 cap5] w fun e w' => e = .returned (.bool true) ∧ Below w.heap.size w w' := by
  obtain ⟨P, rfl, R2⟩ := rd_row w2
  obtain ⟨Q, rfl, R5⟩ := rd_row w5
  by_cases hl : P.length ≤ 3000
  · have hl' : ¬ (P.length : Int) > 3000 := by omega
    by_cases hm : Q.length ≤ 3000
    · have hm' : ¬ (Q.length : Int) > 3000 := by omega
      by_cases ho : OkS a0 a1 P.length
      · have px := pa_ok ho
        by_cases hq : OkS a3 a4 Q.length
        · have qx := pa_ok hq
          have hpl : Hid ((pkS a0.toNat a1.toNat P).length = P.length + 12) := pk_length _ _ _
          have gw : IntKind.i64.wrap ((P.length : Int) + 12) = (P.length : Int) + 12 := by rw [IntKind.wrap_i64]; omega
          by_cases e0 : a0 = a3
          · by_cases e1 : a1 = a4
            · by_cases e2 : P = Q
              · subst e0 e1 e2
                have dX := sameB_self (pkS a0.toNat a1.toNat P)
                have dY := sameB_self P
                go_enter Try.func8, Try.ntmps8
                go_wp2_with fail
                refine (awake11_any _).mono ?_
                rintro e u1 ⟨rfl, b⟩
                replace R2 := R2.below b
                replace R5 := R5.below b
                have B : Below w.heap.size w u1 := b
                clear b
                go_wp2_with fail
                refine (spack_any R2).mono ?_
                rintro e u2 ⟨v2, rfl, X2, b⟩
                replace R2 := R2.below b
                replace R5 := R5.below b
                replace B := Below.step B b
                clear b
                rw [px.1]
                rw [px.2] at X2
                go_wp2_with fail
                refine (spack_any R5).mono ?_
                rintro e u3 ⟨v3, rfl, X3, b⟩
                replace R2 := R2.below b
                replace R5 := R5.below b
                replace X2 := X2.below b
                replace B := Below.step B b
                clear b
                rw [qx.1]
                rw [qx.2] at X3
                obtain ⟨k1, k2, rfl⟩ := X2.form
                have hx : Hid (((pkS a0.toNat a1.toNat P).length : Int) = (P.length : Int) + 12) := by show _ = _; rw [hpl.out]; rfl
                have B0 := B
                go_wp2_with fail
                refine (same_any X2 X3).mono ?_
                rintro e u4 ⟨rfl, k4, rfl⟩
                rw [dX]
                replace R2 := R2.drewN k4
                replace R5 := R5.drewN k4
                replace X2 := X2.drewN k4
                replace X3 := X3.drewN k4
                replace B := Below.drawsS B k4
                clear X2 X3
                go_wp2_with fail
                refine (same_any R2 R5).mono ?_
                rintro e u5 ⟨rfl, k5, rfl⟩
                rw [dY]
                replace R2 := R2.drewN k5
                replace R5 := R5.drewN k5
                replace B := Below.drawsS B k5
                clear R2 R5
                have hx2 := hx.out
                go_wp2
                go_ret
                exact ⟨rfl, by first | exact B | exact Below.drawsS B _ | exact Below.drawsS B0 _⟩
              · have dY : sameB P Q = false := decide_eq_false e2
                have dX : sameB (pkS a0.toNat a1.toNat P) (pkS a3.toNat a4.toNat Q) = false := decide_eq_false fun h => (by
                  have h1 := ho.1; have h2 := ho.2.1; have h3 := hq.1; have h4 := hq.2.1
                  have h5 := pk_inj (by omega) (by omega) (by omega) (by omega) h
                  exact e2 h5.2.2)
                subst e0 e1
                go_enter Try.func8, Try.ntmps8
                go_wp2_with fail
                refine (awake11_any _).mono ?_
                rintro e u1 ⟨rfl, b⟩
                replace R2 := R2.below b
                replace R5 := R5.below b
                have B : Below w.heap.size w u1 := b
                clear b
                go_wp2_with fail
                refine (spack_any R2).mono ?_
                rintro e u2 ⟨v2, rfl, X2, b⟩
                replace R2 := R2.below b
                replace R5 := R5.below b
                replace B := Below.step B b
                clear b
                rw [px.1]
                rw [px.2] at X2
                go_wp2_with fail
                refine (spack_any R5).mono ?_
                rintro e u3 ⟨v3, rfl, X3, b⟩
                replace R2 := R2.below b
                replace R5 := R5.below b
                replace X2 := X2.below b
                replace B := Below.step B b
                clear b
                rw [qx.1]
                rw [qx.2] at X3
                obtain ⟨k1, k2, rfl⟩ := X2.form
                have hx : Hid (((pkS a0.toNat a1.toNat P).length : Int) = (P.length : Int) + 12) := by show _ = _; rw [hpl.out]; rfl
                have B0 := B
                go_wp2_with fail
                refine (same_any X2 X3).mono ?_
                rintro e u4 ⟨rfl, k4, rfl⟩
                rw [dX]
                replace R2 := R2.drewN k4
                replace R5 := R5.drewN k4
                replace X2 := X2.drewN k4
                replace X3 := X3.drewN k4
                replace B := Below.drawsS B k4
                clear X2 X3
                go_wp2_with fail
                refine (same_any R2 R5).mono ?_
                rintro e u5 ⟨rfl, k5, rfl⟩
                rw [dY]
                replace R2 := R2.drewN k5
                replace R5 := R5.drewN k5
                replace B := Below.drawsS B k5
                clear R2 R5
                have hx2 := hx.out
                go_wp2
                go_ret
                exact ⟨rfl, by first | exact B | exact Below.drawsS B _ | exact Below.drawsS B0 _⟩
            · have e1' : (a1 == a4) = false := by rw [beq_eq_false_iff_ne]; exact e1
              have dX : sameB (pkS a0.toNat a1.toNat P) (pkS a3.toNat a4.toNat Q) = false := decide_eq_false fun h => (by
                have h1 := ho.1; have h2 := ho.2.1; have h3 := hq.1; have h4 := hq.2.1
                have h5 := pk_inj (by omega) (by omega) (by omega) (by omega) h
                omega)
              subst e0
              go_enter Try.func8, Try.ntmps8
              go_wp2_with fail
              refine (awake11_any _).mono ?_
              rintro e u1 ⟨rfl, b⟩
              replace R2 := R2.below b
              replace R5 := R5.below b
              have B : Below w.heap.size w u1 := b
              clear b
              go_wp2_with fail
              refine (spack_any R2).mono ?_
              rintro e u2 ⟨v2, rfl, X2, b⟩
              replace R2 := R2.below b
              replace R5 := R5.below b
              replace B := Below.step B b
              clear b
              rw [px.1]
              rw [px.2] at X2
              go_wp2_with fail
              refine (spack_any R5).mono ?_
              rintro e u3 ⟨v3, rfl, X3, b⟩
              replace R2 := R2.below b
              replace R5 := R5.below b
              replace X2 := X2.below b
              replace B := Below.step B b
              clear b
              rw [qx.1]
              rw [qx.2] at X3
              obtain ⟨k1, k2, rfl⟩ := X2.form
              have hx : Hid (((pkS a0.toNat a1.toNat P).length : Int) = (P.length : Int) + 12) := by show _ = _; rw [hpl.out]; rfl
              have B0 := B
              go_wp2_with fail
              refine (same_any X2 X3).mono ?_
              rintro e u4 ⟨rfl, k4, rfl⟩
              rw [dX]
              replace R2 := R2.drewN k4
              replace R5 := R5.drewN k4
              replace X2 := X2.drewN k4
              replace X3 := X3.drewN k4
              replace B := Below.drawsS B k4
              clear X2 X3
              go_wp2_with fail
              refine (same_any R2 R5).mono ?_
              rintro e u5 ⟨rfl, k5, rfl⟩
              replace R2 := R2.drewN k5
              replace R5 := R5.drewN k5
              replace B := Below.drawsS B k5
              clear R2 R5
              have hx2 := hx.out
              go_wp2
              go_ret
              exact ⟨rfl, by first | exact B | exact Below.drawsS B _ | exact Below.drawsS B0 _⟩
          · have e0' : (a0 == a3) = false := by rw [beq_eq_false_iff_ne]; exact e0
            have dX : sameB (pkS a0.toNat a1.toNat P) (pkS a3.toNat a4.toNat Q) = false := decide_eq_false fun h => (by
              have h1 := ho.1; have h2 := ho.2.1; have h3 := hq.1; have h4 := hq.2.1
              have h5 := pk_inj (by omega) (by omega) (by omega) (by omega) h
              omega)
            go_enter Try.func8, Try.ntmps8
            go_wp2_with fail
            refine (awake11_any _).mono ?_
            rintro e u1 ⟨rfl, b⟩
            replace R2 := R2.below b
            replace R5 := R5.below b
            have B : Below w.heap.size w u1 := b
            clear b
            go_wp2_with fail
            refine (spack_any R2).mono ?_
            rintro e u2 ⟨v2, rfl, X2, b⟩
            replace R2 := R2.below b
            replace R5 := R5.below b
            replace B := Below.step B b
            clear b
            rw [px.1]
            rw [px.2] at X2
            go_wp2_with fail
            refine (spack_any R5).mono ?_
            rintro e u3 ⟨v3, rfl, X3, b⟩
            replace R2 := R2.below b
            replace R5 := R5.below b
            replace X2 := X2.below b
            replace B := Below.step B b
            clear b
            rw [qx.1]
            rw [qx.2] at X3
            obtain ⟨k1, k2, rfl⟩ := X2.form
            have hx : Hid (((pkS a0.toNat a1.toNat P).length : Int) = (P.length : Int) + 12) := by show _ = _; rw [hpl.out]; rfl
            have B0 := B
            go_wp2_with fail
            refine (same_any X2 X3).mono ?_
            rintro e u4 ⟨rfl, k4, rfl⟩
            rw [dX]
            replace R2 := R2.drewN k4
            replace R5 := R5.drewN k4
            replace X2 := X2.drewN k4
            replace X3 := X3.drewN k4
            replace B := Below.drawsS B k4
            clear X2 X3
            go_wp2_with fail
            refine (same_any R2 R5).mono ?_
            rintro e u5 ⟨rfl, k5, rfl⟩
            replace R2 := R2.drewN k5
            replace R5 := R5.drewN k5
            replace B := Below.drawsS B k5
            clear R2 R5
            have hx2 := hx.out
            go_wp2
            go_ret
            exact ⟨rfl, by first | exact B | exact Below.drawsS B _ | exact Below.drawsS B0 _⟩
        · have qx := pa_not hq
          go_enter Try.func8, Try.ntmps8
          go_wp2_with fail
          refine (awake11_any _).mono ?_
          rintro e u1 ⟨rfl, b⟩
          replace R2 := R2.below b
          replace R5 := R5.below b
          have B : Below w.heap.size w u1 := b
          clear b
          go_wp2_with fail
          refine (spack_any R2).mono ?_
          rintro e u2 ⟨v2, rfl, X2, b⟩
          replace R2 := R2.below b
          replace R5 := R5.below b
          replace B := Below.step B b
          clear b
          rw [px.1]
          rw [px.2] at X2
          go_wp2_with fail
          refine (spack_any R5).mono ?_
          rintro e u3 ⟨v3, rfl, X3, b⟩
          replace R2 := R2.below b
          replace R5 := R5.below b
          replace X2 := X2.below b
          replace B := Below.step B b
          clear b
          rw [qx.1]
          rw [qx.2] at X3
          clear X2 X3 R2 R5
          go_wp2
          go_ret
          exact ⟨rfl, by first | exact B | exact Below.drawsS B _ | exact Below.drawsS B0 _⟩
      · have px := pa_not ho
        go_enter Try.func8, Try.ntmps8
        go_wp2_with fail
        refine (awake11_any _).mono ?_
        rintro e u1 ⟨rfl, b⟩
        replace R2 := R2.below b
        replace R5 := R5.below b
        have B : Below w.heap.size w u1 := b
        clear b
        go_wp2_with fail
        refine (spack_any R2).mono ?_
        rintro e u2 ⟨v2, rfl, X2, b⟩
        replace R2 := R2.below b
        replace R5 := R5.below b
        replace B := Below.step B b
        clear b
        rw [px.1]
        go_wp2_with fail
        refine (spack_any R5).mono ?_
        rintro e u3 ⟨v3, rfl, X3, b⟩
        replace R2 := R2.below b
        replace R5 := R5.below b
        replace X2 := X2.below b
        replace B := Below.step B b
        clear b
        clear X2 X3 R2 R5
        go_wp2
        go_ret
        exact ⟨rfl, by first | exact B | exact Below.drawsS B _ | exact Below.drawsS B0 _⟩
    · have hm' : (Q.length : Int) > 3000 := by omega
      go_enter Try.func8, Try.ntmps8
      go_wp2_with fail
      refine (awake11_any _).mono ?_
      rintro e u1 ⟨rfl, b⟩
      have B : Below w.heap.size w u1 := b
      clear b
      go_wp2
      go_ret
      exact ⟨rfl, by first | exact B | exact Below.drawsS B _ | exact Below.drawsS B0 _⟩
  · have hl' : (P.length : Int) > 3000 := by omega
    go_enter Try.func8, Try.ntmps8
    go_wp2_with fail
    refine (awake11_any _).mono ?_
    rintro e u1 ⟨rfl, b⟩
    have B : Below w.heap.size w u1 := b
    clear b
    go_wp2
    go_ret
    exact ⟨rfl, by first | exact B | exact Below.drawsS B _ | exact Below.drawsS B0 _⟩

/-! ### THE ROW's STEP: WRITTEN OUT: LEAVE IT -/
set_option maxRecDepth 100000 in
theorem lifted (os : Os) (started : os.Started) (H : Type) (enc : TypeId × Value → H) :
    ReturnsInHanded {} Try.checked os 8 .any (Rows.sectorApartSpec.pre6 enc Try.prog Try.f8 Rows.sectorApartRow.domain false) (Rows.sectorApartSpec.post enc Try.prog Try.f8 false true false false) := by
  refine returnsInHanded_of_change (C := Try.checked) own started (by kernel_rfl) Try.func8
    (ChangeSpec.witness6 (enc := enc) (C := Try.checked) false ⟨#[], #[.int .i64 0, .int .i64 0, .slice none 0 0, .int .i64 0, .int .i64 0, .slice none 0 0], []⟩ 8 (by kernel_rfl) (by kernel_rfl) (by kernel_rfl) (by kernel_rfl)) ?_
  intro W base args ds gs before hval0 hW hcnd _
  have hval : ∀ (j : Nat) t v, Try.f8.params[j]? = some t → args[j]? = some v → Value.okWide Try.prog W .any base t v := hval0
  have hW' := hW
  obtain ⟨p, q, hA0, hV, rfl, hfz, hnd⟩ := hW
  have hA : DataW.TrodAll enc Try.prog W 0 (fun _ => true) true Try.f8.params.toList args.toList ds p := hA0
  rw [Try.params8] at hA hval
  obtain ⟨v0, vs0, d0, ds0, p0, q0, hargs, rfl, rfl, h0, r0⟩ := trodAll_cons hA
  obtain ⟨v1, vs1, d1, ds1, p1, q1, rfl, rfl, rfl, h1, r1⟩ := trodAll_cons r0
  obtain ⟨v2, vs2, d2, ds2, p2, q2, rfl, rfl, rfl, h2, r2⟩ := trodAll_cons r1
  obtain ⟨v3, vs3, d3, ds3, p3, q3, rfl, rfl, rfl, h3, r3⟩ := trodAll_cons r2
  obtain ⟨v4, vs4, d4, ds4, p4, q4, rfl, rfl, rfl, h4, r4⟩ := trodAll_cons r3
  obtain ⟨v5, vs5, d5, ds5, p5, q5, rfl, rfl, rfl, h5, r5⟩ := trodAll_cons r4
  obtain ⟨rfl, rfl, rfl⟩ := trodAll_nil r5
  obtain rfl : args = #[v0, v1, v2, v3, v4, v5] := by cases args; simp_all
  obtain ⟨rfl, rfl⟩ := trodVars_none hV
  obtain ⟨a0, rfl, rfl, rfl, w0⟩ := open_int Try.underlying3 (hval 0 3 v0 rfl rfl) h0
  obtain ⟨a1, rfl, rfl, rfl, w1⟩ := open_int Try.underlying3 (hval 1 3 v1 rfl rfl) h1
  obtain ⟨a2, len2, cap2, rfl⟩ := okWide_slice Try.underlying23 (hval 2 23 v2 rfl rfl)
  have k2 := h2
  have lt2 : ∀ x ∈ p2, x.block < W.heap.size := by obtain ⟨m, hm⟩ := k2; exact DataW.trod_lt m _ _ _ hm
  obtain ⟨z2, w2⟩ : ∃ zs, IsRow .u8 W a2 len2 cap2 zs := by
    obtain ⟨fuel, hf⟩ := h2
    rcases open_ints Try.underlying23 Try.underlying5 (by kernel_rfl) hf with ⟨hcs, _⟩ | ⟨x, l, c, zs, hcs, _, hl, hm, hz, _, hcell, hwz⟩
    · simp [Value.cells] at hcs
      obtain ⟨rfl, rfl, rfl⟩ := hcs
      exact ⟨[], .inl ⟨rfl, rfl, rfl, rfl⟩⟩
    · simp [Value.cells] at hcs
      obtain ⟨rfl, rfl, rfl⟩ := hcs
      exact ⟨zs, .inr ⟨_, rfl, hl, hm, by simpa using hz, hcell, hwz⟩⟩
  obtain ⟨a3, rfl, rfl, rfl, w3⟩ := open_int Try.underlying3 (hval 3 3 v3 rfl rfl) h3
  obtain ⟨a4, rfl, rfl, rfl, w4⟩ := open_int Try.underlying3 (hval 4 3 v4 rfl rfl) h4
  obtain ⟨a5, len5, cap5, rfl⟩ := okWide_slice Try.underlying23 (hval 5 23 v5 rfl rfl)
  have k5 := h5
  have lt5 : ∀ x ∈ p5, x.block < W.heap.size := by obtain ⟨m, hm⟩ := k5; exact DataW.trod_lt m _ _ _ hm
  obtain ⟨z5, w5⟩ : ∃ zs, IsRow .u8 W a5 len5 cap5 zs := by
    obtain ⟨fuel, hf⟩ := h5
    rcases open_ints Try.underlying23 Try.underlying5 (by kernel_rfl) hf with ⟨hcs, _⟩ | ⟨x, l, c, zs, hcs, _, hl, hm, hz, _, hcell, hwz⟩
    · simp [Value.cells] at hcs
      obtain ⟨rfl, rfl, rfl⟩ := hcs
      exact ⟨[], .inl ⟨rfl, rfl, rfl, rfl⟩⟩
    · simp [Value.cells] at hcs
      obtain ⟨rfl, rfl, rfl⟩ := hcs
      exact ⟨zs, .inr ⟨_, rfl, hl, hm, by simpa using hz, hcell, hwz⟩⟩
  clear hA0 hval0
  refine (walk a0 a1 a2 len2 cap2 z2 a3 a4 a5 len5 cap5 z5 W w0 w1 w2 w3 w4 w5).mono fun e W' ⟨he, bel⟩ => ?_
  subst he
  exact ⟨_, rfl, _, _, _, [], _, [], hW', trodAll_mk1 (shut_bool Try.underlying4 _), (trodAll_cons_mk (shut_int Try.underlying3 w0) (trodAll_cons_mk (shut_int Try.underlying3 w1) (trodAll_cons_mk (Below.trod laidOut (by kernel_rfl) (of_decide_eq_true (by kernel_rfl)) k2 bel lt2) (trodAll_cons_mk (shut_int Try.underlying3 w3) (trodAll_cons_mk (shut_int Try.underlying3 w4) (trodAll_cons_mk (Below.trod laidOut (by kernel_rfl) (of_decide_eq_true (by kernel_rfl)) k5 bel lt5) trodAll_mk0)))))), rfl, bel.frame _, fun h => by cases h⟩

theorem over : Rows.sectorApartRow.holds Try.pinned (OpenSpec.ofChange Rows.sectorApartSpec) :=
  OpenClaim.holds_of_wide 8 Try.f8 rfl rfl rfl rfl rfl rfl rfl ⟨rfl, rfl, rfl, rfl, rfl⟩ rfl rfl rfl rfl rfl (by kernel_rfl) Try.func8 (by kernel_rfl)
    (of_decide_eq_true (by kernel_rfl)) (by unfold Func.isWrapper; first | (rw [if_pos (by decide +kernel)]; kernel_rfl) | (rw [if_neg (by decide +kernel)]; exact ⟨rfl, rfl⟩))
    (fun os started H enc _ => lifted os started H enc)

/-- ████ THE STATEMENT ████ -/
theorem proved : Rows.SectorApartSaid := over
end Go.Proofs.Ytfdihdndldiafaa.sectorApart
namespace Go.Proofs.Ytfdihdndldiafaa
theorem sectorApart_holds : Rows.SectorApartSaid := sectorApart.proved
#print axioms sectorApart_holds
end Go.Proofs.Ytfdihdndldiafaa
