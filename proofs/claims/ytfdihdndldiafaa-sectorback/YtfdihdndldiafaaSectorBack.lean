/- PROVED: for all numbers addr, epoch and other and all lists data and b of bytes the call SectorBack(addr, epoch, data, other, b) returns true, and its arguments read behind it as before; no conditions. -/
import Derived.Test.YtfdihdndldiafaaRows
import Derived.Test.YtfdihdndldiafaaTome4
import Derived.Test.YtfdihdndldiafaaTome2
import Derived.WalkKit
import Derived.ProofKit
import Derived.OpenShut
import Derived.ShutString
import Derived.ChangeOld
import Derived.Below
namespace Go.Proofs.Ytfdihdndldiafaa.sectorBack
open Go.ChangeShapes Go.WideShapes Go.ChangeAt Go.RowKit
open Go.ChangeMaps (open_string shut_string)
set_option linter.unusedVariables false

theorem own : ownKnob Try.prog.godebug = none := by kernel_rfl
theorem laidOut : laidOutB Try.prog = true := by kernel_rfl

/-- WHAT THE WALK IS TOLD OF A SLICE OF INTEGERS THAT CAME IN: it is nil; or it leads to a row of 'cap' cells, the numbers 'zs' (the first 'len' are its elements, the rest its spare room), each fitting its kind. -/
def IsRow (k : IntKind) (w : World) (a : Option Addr) (len cap : Nat) (zs : List Int) : Prop :=
  (a = none ∧ len = 0 ∧ cap = 0 ∧ zs = []) ∨
  ∃ x, a = some x ∧ len ≤ cap ∧ cap ≤ maxLen ∧ zs.length = cap ∧ (∀ i, i < zs.length → w.cell? (x.add i) = some (.int k (zs.getD i 0))) ∧ ∀ n ∈ zs, (Lit.int k n).wf = true

open Gf
set_option linter.unusedSimpArgs false
set_option maxRecDepth 100000 in
set_option maxHeartbeats 4000000 in
theorem walk (a0 : Int) (a1 : Int) (a2 : Option Addr) (len2 cap2 : Nat) (z2 : List Int) (a3 : Int) (a4 : Option Addr) (len4 cap4 : Nat) (z4 : List Int) (w : World) (w0 : (Lit.int .i64 a0).wf = true) (w1 : (Lit.int .i64 a1).wf = true) (w2 : IsRow .u8 w a2 len2 cap2 z2) (w3 : (Lit.int .i64 a3).wf = true) (w4 : IsRow .u8 w a4 len4 cap4 z4) :
    Calls Try.prog 5 #[.int .i64 a0, .int .i64 a1, .slice a2 len2 cap2, .int .i64 a3, .slice a4 len4 cap4] w fun e w' => e = .returned (.bool true) ∧ Below w.heap.size w w' := by
  obtain ⟨P, rfl, R2⟩ := rd_row w2
  obtain ⟨Q, rfl, R4⟩ := rd_row w4
  by_cases hl : P.length ≤ 5000
  · have hl' : ¬ (P.length : Int) > 5000 := by omega
    by_cases hm : Q.length ≤ 5000
    · have hm' : ¬ (Q.length : Int) > 5000 := by omega
      by_cases ho : OkS a0 a1 P.length
      · have px := pa_ok ho
        have pk1 := ok_pk ho
        have pu : upX a0 (pkS a0.toNat a1.toNat P) = 0 ∧ upN a0 (pkS a0.toNat a1.toNat P) = a1.toNat ∧ upD a0 (pkS a0.toNat a1.toNat P) = P := ⟨(up_ok pk1.1).1, (up_ok pk1.1).2.1.trans pk1.2.1, (up_ok pk1.1).2.2.trans pk1.2.2⟩
        clear pk1
        have ge : ((a1.toNat : Nat) : Int) = a1 := by have := ho.2.1; omega
        by_cases hoth : a3 = a0
        · subst a3
          clear ho
          by_cases hq : OkU a0 Q
          · have qu := up_ok hq
            have qb0 := ok_back hq
            have qb : paX a0 ((epS Q : Nat) : Int) (daS Q) = 0 ∧ paR a0 ((epS Q : Nat) : Int) (daS Q) = Q := ⟨(pa_ok qb0.1).1, (pa_ok qb0.1).2.trans qb0.2⟩
            clear qb0 hq
            go_enter Try.func5, Try.ntmps5
            go_wp2_with fail
            refine (awake11_any _).mono ?_
            rintro e u1 ⟨rfl, b⟩
            replace R2 := R2.below b
            replace R4 := R4.below b
            have B : Below w.heap.size w u1 := b
            clear b
            go_wp2_with fail
            refine (spack_any R2).mono ?_
            rintro e u2 ⟨v2, rfl, X2, b⟩
            replace R2 := R2.below b
            replace R4 := R4.below b
            replace B := Below.step B b
            clear b
            rw [px.1]
            rw [px.2] at X2
            go_wp2_with fail
            refine (sunpack_any X2 (by rw [pk_length]; omega)).mono ?_
            rintro e u3 ⟨v3, rfl, X3, b⟩
            replace R2 := R2.below b
            replace R4 := R4.below b
            replace X2 := X2.below b
            replace B := Below.step B b
            clear b
            rw [pu.1, pu.2.1]
            rw [pu.2.2] at X3
            have B0 := B
            go_wp2_with fail
            refine (same_any X3 R2).mono ?_
            rintro e u4 ⟨rfl, k4, rfl⟩
            rw [sameB_self P]
            replace R2 := R2.drewN k4
            replace R4 := R4.drewN k4
            replace X2 := X2.drewN k4
            replace X3 := X3.drewN k4
            replace B := Below.drawsS B k4
            clear X3 R2
            clear B0
            go_wp2_with fail
            refine (sunpack_any X2 (by rw [pk_length]; omega)).mono ?_
            rintro e u5 ⟨v5, rfl, X5, b⟩
            replace R4 := R4.below b
            replace X2 := X2.below b
            replace B := Below.step B b
            clear b
            clear X2 X5
            go_wp2_with fail
            refine (sunpack_any R4 (by omega)).mono ?_
            rintro e u6 ⟨v8, rfl, X8, b⟩
            replace R4 := R4.below b
            replace B := Below.step B b
            clear b
            rw [qu.1, qu.2.1]
            rw [qu.2.2] at X8
            go_wp2_with fail
            refine (spack_any X8).mono ?_
            rintro e u7 ⟨v9, rfl, X9, b⟩
            replace R4 := R4.below b
            replace X8 := X8.below b
            replace B := Below.step B b
            clear b
            rw [qb.1]
            rw [qb.2] at X9
            have B0 := B
            go_wp2_with fail
            refine (same_any X9 R4).mono ?_
            rintro e u8 ⟨rfl, k8, rfl⟩
            rw [sameB_self Q]
            replace R4 := R4.drewN k8
            replace X8 := X8.drewN k8
            replace X9 := X9.drewN k8
            replace B := Below.drawsS B k8
            clear R4
            clear X8
            clear X9
            go_wp2
            go_ret
            exact ⟨rfl, by first | exact B | exact Below.drawsS B _ | exact Below.drawsS B0 _⟩
          · have qu := up_not hq
            clear hq
            go_enter Try.func5, Try.ntmps5
            go_wp2_with fail
            refine (awake11_any _).mono ?_
            rintro e u1 ⟨rfl, b⟩
            replace R2 := R2.below b
            replace R4 := R4.below b
            have B : Below w.heap.size w u1 := b
            clear b
            go_wp2_with fail
            refine (spack_any R2).mono ?_
            rintro e u2 ⟨v2, rfl, X2, b⟩
            replace R2 := R2.below b
            replace R4 := R4.below b
            replace B := Below.step B b
            clear b
            rw [px.1]
            rw [px.2] at X2
            go_wp2_with fail
            refine (sunpack_any X2 (by rw [pk_length]; omega)).mono ?_
            rintro e u3 ⟨v3, rfl, X3, b⟩
            replace R2 := R2.below b
            replace R4 := R4.below b
            replace X2 := X2.below b
            replace B := Below.step B b
            clear b
            rw [pu.1, pu.2.1]
            rw [pu.2.2] at X3
            have B0 := B
            go_wp2_with fail
            refine (same_any X3 R2).mono ?_
            rintro e u4 ⟨rfl, k4, rfl⟩
            rw [sameB_self P]
            replace R2 := R2.drewN k4
            replace R4 := R4.drewN k4
            replace X2 := X2.drewN k4
            replace X3 := X3.drewN k4
            replace B := Below.drawsS B k4
            clear X3 R2
            clear B0
            go_wp2_with fail
            refine (sunpack_any X2 (by rw [pk_length]; omega)).mono ?_
            rintro e u5 ⟨v5, rfl, X5, b⟩
            replace R4 := R4.below b
            replace X2 := X2.below b
            replace B := Below.step B b
            clear b
            clear X2 X5
            go_wp2_with fail
            refine (sunpack_any R4 (by omega)).mono ?_
            rintro e u6 ⟨v8, rfl, X8, b⟩
            replace R4 := R4.below b
            replace B := Below.step B b
            clear b
            rw [qu.1, qu.2.1]
            rw [qu.2.2] at X8
            obtain ⟨k8, k9, rfl⟩ := X8.form
            clear X8
            clear R4
            go_wp2
            go_ret
            exact ⟨rfl, by first | exact B | exact Below.drawsS B _ | exact Below.drawsS B0 _⟩
        · have hoth' : (a3 != a0) = true := by rw [bne_iff_ne]; exact hoth
          have po : upX a3 (pkS a0.toNat a1.toNat P) = 110 := (up_not (pk_other ho hoth)).1
          clear ho
          by_cases hq : OkU a0 Q
          · have qu := up_ok hq
            have qb0 := ok_back hq
            have qb : paX a0 ((epS Q : Nat) : Int) (daS Q) = 0 ∧ paR a0 ((epS Q : Nat) : Int) (daS Q) = Q := ⟨(pa_ok qb0.1).1, (pa_ok qb0.1).2.trans qb0.2⟩
            clear qb0 hq
            go_enter Try.func5, Try.ntmps5
            go_wp2_with fail
            refine (awake11_any _).mono ?_
            rintro e u1 ⟨rfl, b⟩
            replace R2 := R2.below b
            replace R4 := R4.below b
            have B : Below w.heap.size w u1 := b
            clear b
            go_wp2_with fail
            refine (spack_any R2).mono ?_
            rintro e u2 ⟨v2, rfl, X2, b⟩
            replace R2 := R2.below b
            replace R4 := R4.below b
            replace B := Below.step B b
            clear b
            rw [px.1]
            rw [px.2] at X2
            go_wp2_with fail
            refine (sunpack_any X2 (by rw [pk_length]; omega)).mono ?_
            rintro e u3 ⟨v3, rfl, X3, b⟩
            replace R2 := R2.below b
            replace R4 := R4.below b
            replace X2 := X2.below b
            replace B := Below.step B b
            clear b
            rw [pu.1, pu.2.1]
            rw [pu.2.2] at X3
            have B0 := B
            go_wp2_with fail
            refine (same_any X3 R2).mono ?_
            rintro e u4 ⟨rfl, k4, rfl⟩
            rw [sameB_self P]
            replace R2 := R2.drewN k4
            replace R4 := R4.drewN k4
            replace X2 := X2.drewN k4
            replace X3 := X3.drewN k4
            replace B := Below.drawsS B k4
            clear X3 R2
            clear B0
            go_wp2_with fail
            refine (sunpack_any X2 (by rw [pk_length]; omega)).mono ?_
            rintro e u5 ⟨v5, rfl, X5, b⟩
            replace R4 := R4.below b
            replace X2 := X2.below b
            replace B := Below.step B b
            clear b
            rw [po]
            clear X2 X5
            go_wp2_with fail
            refine (sunpack_any R4 (by omega)).mono ?_
            rintro e u6 ⟨v8, rfl, X8, b⟩
            replace R4 := R4.below b
            replace B := Below.step B b
            clear b
            rw [qu.1, qu.2.1]
            rw [qu.2.2] at X8
            go_wp2_with fail
            refine (spack_any X8).mono ?_
            rintro e u7 ⟨v9, rfl, X9, b⟩
            replace R4 := R4.below b
            replace X8 := X8.below b
            replace B := Below.step B b
            clear b
            rw [qb.1]
            rw [qb.2] at X9
            have B0 := B
            go_wp2_with fail
            refine (same_any X9 R4).mono ?_
            rintro e u8 ⟨rfl, k8, rfl⟩
            rw [sameB_self Q]
            replace R4 := R4.drewN k8
            replace X8 := X8.drewN k8
            replace X9 := X9.drewN k8
            replace B := Below.drawsS B k8
            clear R4
            clear X8
            clear X9
            go_wp2
            go_ret
            exact ⟨rfl, by first | exact B | exact Below.drawsS B _ | exact Below.drawsS B0 _⟩
          · have qu := up_not hq
            clear hq
            go_enter Try.func5, Try.ntmps5
            go_wp2_with fail
            refine (awake11_any _).mono ?_
            rintro e u1 ⟨rfl, b⟩
            replace R2 := R2.below b
            replace R4 := R4.below b
            have B : Below w.heap.size w u1 := b
            clear b
            go_wp2_with fail
            refine (spack_any R2).mono ?_
            rintro e u2 ⟨v2, rfl, X2, b⟩
            replace R2 := R2.below b
            replace R4 := R4.below b
            replace B := Below.step B b
            clear b
            rw [px.1]
            rw [px.2] at X2
            go_wp2_with fail
            refine (sunpack_any X2 (by rw [pk_length]; omega)).mono ?_
            rintro e u3 ⟨v3, rfl, X3, b⟩
            replace R2 := R2.below b
            replace R4 := R4.below b
            replace X2 := X2.below b
            replace B := Below.step B b
            clear b
            rw [pu.1, pu.2.1]
            rw [pu.2.2] at X3
            have B0 := B
            go_wp2_with fail
            refine (same_any X3 R2).mono ?_
            rintro e u4 ⟨rfl, k4, rfl⟩
            rw [sameB_self P]
            replace R2 := R2.drewN k4
            replace R4 := R4.drewN k4
            replace X2 := X2.drewN k4
            replace X3 := X3.drewN k4
            replace B := Below.drawsS B k4
            clear X3 R2
            clear B0
            go_wp2_with fail
            refine (sunpack_any X2 (by rw [pk_length]; omega)).mono ?_
            rintro e u5 ⟨v5, rfl, X5, b⟩
            replace R4 := R4.below b
            replace X2 := X2.below b
            replace B := Below.step B b
            clear b
            rw [po]
            clear X2 X5
            go_wp2_with fail
            refine (sunpack_any R4 (by omega)).mono ?_
            rintro e u6 ⟨v8, rfl, X8, b⟩
            replace R4 := R4.below b
            replace B := Below.step B b
            clear b
            rw [qu.1, qu.2.1]
            rw [qu.2.2] at X8
            obtain ⟨k8, k9, rfl⟩ := X8.form
            clear X8
            clear R4
            go_wp2
            go_ret
            exact ⟨rfl, by first | exact B | exact Below.drawsS B _ | exact Below.drawsS B0 _⟩
      · have px := pa_not ho
        clear ho
        by_cases hq : OkU a0 Q
        · have qu := up_ok hq
          have qb0 := ok_back hq
          have qb : paX a0 ((epS Q : Nat) : Int) (daS Q) = 0 ∧ paR a0 ((epS Q : Nat) : Int) (daS Q) = Q := ⟨(pa_ok qb0.1).1, (pa_ok qb0.1).2.trans qb0.2⟩
          clear qb0 hq
          go_enter Try.func5, Try.ntmps5
          go_wp2_with fail
          refine (awake11_any _).mono ?_
          rintro e u1 ⟨rfl, b⟩
          replace R2 := R2.below b
          replace R4 := R4.below b
          have B : Below w.heap.size w u1 := b
          clear b
          go_wp2_with fail
          refine (spack_any R2).mono ?_
          rintro e u2 ⟨v2, rfl, X2, b⟩
          replace R2 := R2.below b
          replace R4 := R4.below b
          replace B := Below.step B b
          clear b
          rw [px.1]
          clear X2
          go_wp2_with fail
          refine (sunpack_any R4 (by omega)).mono ?_
          rintro e u3 ⟨v8, rfl, X8, b⟩
          replace R2 := R2.below b
          replace R4 := R4.below b
          replace B := Below.step B b
          clear b
          rw [qu.1, qu.2.1]
          rw [qu.2.2] at X8
          go_wp2_with fail
          refine (spack_any X8).mono ?_
          rintro e u4 ⟨v9, rfl, X9, b⟩
          replace R2 := R2.below b
          replace R4 := R4.below b
          replace X8 := X8.below b
          replace B := Below.step B b
          clear b
          rw [qb.1]
          rw [qb.2] at X9
          have B0 := B
          go_wp2_with fail
          refine (same_any X9 R4).mono ?_
          rintro e u5 ⟨rfl, k5, rfl⟩
          rw [sameB_self Q]
          replace R2 := R2.drewN k5
          replace R4 := R4.drewN k5
          replace X8 := X8.drewN k5
          replace X9 := X9.drewN k5
          replace B := Below.drawsS B k5
          clear R2
          clear R4
          clear X8
          clear X9
          go_wp2
          go_ret
          exact ⟨rfl, by first | exact B | exact Below.drawsS B _ | exact Below.drawsS B0 _⟩
        · have qu := up_not hq
          clear hq
          go_enter Try.func5, Try.ntmps5
          go_wp2_with fail
          refine (awake11_any _).mono ?_
          rintro e u1 ⟨rfl, b⟩
          replace R2 := R2.below b
          replace R4 := R4.below b
          have B : Below w.heap.size w u1 := b
          clear b
          go_wp2_with fail
          refine (spack_any R2).mono ?_
          rintro e u2 ⟨v2, rfl, X2, b⟩
          replace R2 := R2.below b
          replace R4 := R4.below b
          replace B := Below.step B b
          clear b
          rw [px.1]
          clear X2
          go_wp2_with fail
          refine (sunpack_any R4 (by omega)).mono ?_
          rintro e u3 ⟨v8, rfl, X8, b⟩
          replace R2 := R2.below b
          replace R4 := R4.below b
          replace B := Below.step B b
          clear b
          rw [qu.1, qu.2.1]
          rw [qu.2.2] at X8
          obtain ⟨k8, k9, rfl⟩ := X8.form
          clear X8
          clear R2
          clear R4
          go_wp2
          go_ret
          exact ⟨rfl, by first | exact B | exact Below.drawsS B _ | exact Below.drawsS B0 _⟩
    · have hm' : (Q.length : Int) > 5000 := by omega
      go_enter Try.func5, Try.ntmps5
      go_wp2_with fail
      refine (awake11_any _).mono ?_
      rintro e u1 ⟨rfl, b⟩
      have B : Below w.heap.size w u1 := b
      clear b
      go_wp2
      go_ret
      exact ⟨rfl, by first | exact B | exact Below.drawsS B _ | exact Below.drawsS B0 _⟩
  · have hl' : (P.length : Int) > 5000 := by omega
    go_enter Try.func5, Try.ntmps5
    go_wp2_with fail
    refine (awake11_any _).mono ?_
    rintro e u1 ⟨rfl, b⟩
    have B : Below w.heap.size w u1 := b
    clear b
    go_wp2
    go_ret
    exact ⟨rfl, by first | exact B | exact Below.drawsS B _ | exact Below.drawsS B0 _⟩

/-! ### THE ROW's STEP: WRITTEN OUT: LEAVE IT -/
set_option maxRecDepth 100000 in
theorem lifted (os : Os) (started : os.Started) (H : Type) (enc : TypeId × Value → H) :
    ReturnsInHanded {} Try.checked os 5 .any (Rows.sectorBackSpec.pre6 enc Try.prog Try.f5 Rows.sectorBackRow.domain false) (Rows.sectorBackSpec.post enc Try.prog Try.f5 false true false false) := by
  refine returnsInHanded_of_change (C := Try.checked) own started (by kernel_rfl) Try.func5
    (ChangeSpec.witness6 (enc := enc) (C := Try.checked) false ⟨#[], #[.int .i64 0, .int .i64 0, .slice none 0 0, .int .i64 0, .slice none 0 0], []⟩ 8 (by kernel_rfl) (by kernel_rfl) (by kernel_rfl) (by kernel_rfl)) ?_
  intro W base args ds gs before hval0 hW hcnd _
  have hval : ∀ (j : Nat) t v, Try.f5.params[j]? = some t → args[j]? = some v → Value.okWide Try.prog W .any base t v := hval0
  have hW' := hW
  obtain ⟨p, q, hA0, hV, rfl, hfz, hnd⟩ := hW
  have hA : DataW.TrodAll enc Try.prog W 0 (fun _ => true) true Try.f5.params.toList args.toList ds p := hA0
  rw [Try.params5] at hA hval
  obtain ⟨v0, vs0, d0, ds0, p0, q0, hargs, rfl, rfl, h0, r0⟩ := trodAll_cons hA
  obtain ⟨v1, vs1, d1, ds1, p1, q1, rfl, rfl, rfl, h1, r1⟩ := trodAll_cons r0
  obtain ⟨v2, vs2, d2, ds2, p2, q2, rfl, rfl, rfl, h2, r2⟩ := trodAll_cons r1
  obtain ⟨v3, vs3, d3, ds3, p3, q3, rfl, rfl, rfl, h3, r3⟩ := trodAll_cons r2
  obtain ⟨v4, vs4, d4, ds4, p4, q4, rfl, rfl, rfl, h4, r4⟩ := trodAll_cons r3
  obtain ⟨rfl, rfl, rfl⟩ := trodAll_nil r4
  obtain rfl : args = #[v0, v1, v2, v3, v4] := by cases args; simp_all
  obtain ⟨rfl, rfl⟩ := trodVars_none hV
  obtain ⟨a0, rfl, rfl, rfl, w0⟩ := open_int Try.underlying3 (hval 0 3 v0 rfl rfl) h0
  obtain ⟨a1, rfl, rfl, rfl, w1⟩ := open_int Try.underlying3 (hval 1 3 v1 rfl rfl) h1
  obtain ⟨a2, len2, cap2, rfl⟩ := okWide_slice Try.underlying23 (hval 2 23 v2 rfl rfl)
  have k2 := h2
  have lt2 : ∀ x ∈ p2, x.block < W.heap.size := by obtain ⟨m, hm⟩ := k2; exact DataW.trod_lt m _ _ _ hm
  obtain ⟨z2, w2⟩ : ∃ zs, IsRow .u8 W a2 len2 cap2 zs := by
    obtain ⟨fuel, hf⟩ := h2
    rcases open_ints Try.underlying23 Try.underlying5 (by kernel_rfl) hf with ⟨hcs, _⟩ | ⟨x, l, c, zs, hcs, _, hl, hm, hz, _, hcell, hwz⟩
    · simp [Value.cells] at hcs
      obtain ⟨rfl, rfl, rfl⟩ := hcs
      exact ⟨[], .inl ⟨rfl, rfl, rfl, rfl⟩⟩
    · simp [Value.cells] at hcs
      obtain ⟨rfl, rfl, rfl⟩ := hcs
      exact ⟨zs, .inr ⟨_, rfl, hl, hm, by simpa using hz, hcell, hwz⟩⟩
  obtain ⟨a3, rfl, rfl, rfl, w3⟩ := open_int Try.underlying3 (hval 3 3 v3 rfl rfl) h3
  obtain ⟨a4, len4, cap4, rfl⟩ := okWide_slice Try.underlying23 (hval 4 23 v4 rfl rfl)
  have k4 := h4
  have lt4 : ∀ x ∈ p4, x.block < W.heap.size := by obtain ⟨m, hm⟩ := k4; exact DataW.trod_lt m _ _ _ hm
  obtain ⟨z4, w4⟩ : ∃ zs, IsRow .u8 W a4 len4 cap4 zs := by
    obtain ⟨fuel, hf⟩ := h4
    rcases open_ints Try.underlying23 Try.underlying5 (by kernel_rfl) hf with ⟨hcs, _⟩ | ⟨x, l, c, zs, hcs, _, hl, hm, hz, _, hcell, hwz⟩
    · simp [Value.cells] at hcs
      obtain ⟨rfl, rfl, rfl⟩ := hcs
      exact ⟨[], .inl ⟨rfl, rfl, rfl, rfl⟩⟩
    · simp [Value.cells] at hcs
      obtain ⟨rfl, rfl, rfl⟩ := hcs
      exact ⟨zs, .inr ⟨_, rfl, hl, hm, by simpa using hz, hcell, hwz⟩⟩
  clear hA0 hval0
  refine (walk a0 a1 a2 len2 cap2 z2 a3 a4 len4 cap4 z4 W w0 w1 w2 w3 w4).mono fun e W' ⟨he, bel⟩ => ?_
  subst he
  exact ⟨_, rfl, _, _, _, [], _, [], hW', trodAll_mk1 (shut_bool Try.underlying4 _), (trodAll_cons_mk (shut_int Try.underlying3 w0) (trodAll_cons_mk (shut_int Try.underlying3 w1) (trodAll_cons_mk (Below.trod laidOut (by kernel_rfl) (of_decide_eq_true (by kernel_rfl)) k2 bel lt2) (trodAll_cons_mk (shut_int Try.underlying3 w3) (trodAll_cons_mk (Below.trod laidOut (by kernel_rfl) (of_decide_eq_true (by kernel_rfl)) k4 bel lt4) trodAll_mk0))))), rfl, bel.frame _, fun h => by cases h⟩

theorem over : Rows.sectorBackRow.holds Try.pinned (OpenSpec.ofChange Rows.sectorBackSpec) :=
  OpenClaim.holds_of_wide 5 Try.f5 rfl rfl rfl rfl rfl rfl rfl ⟨rfl, rfl, rfl, rfl, rfl⟩ rfl rfl rfl rfl rfl (by kernel_rfl) Try.func5 (by kernel_rfl)
    (of_decide_eq_true (by kernel_rfl)) (by unfold Func.isWrapper; first | (rw [if_pos (by decide +kernel)]; kernel_rfl) | (rw [if_neg (by decide +kernel)]; exact ⟨rfl, rfl⟩))
    (fun os started H enc _ => lifted os started H enc)

/-- ████ THE STATEMENT ████ -/
theorem proved : Rows.SectorBackSaid := over
end Go.Proofs.Ytfdihdndldiafaa.sectorBack
namespace Go.Proofs.Ytfdihdndldiafaa
theorem sectorBack_holds : Rows.SectorBackSaid := sectorBack.proved
#print axioms sectorBack_holds
end Go.Proofs.Ytfdihdndldiafaa
