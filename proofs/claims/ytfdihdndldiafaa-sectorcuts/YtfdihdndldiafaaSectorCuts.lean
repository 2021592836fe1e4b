/- PROVED: for all numbers addr, epoch and n and every list data of bytes the call SectorCuts(addr, epoch, data, n) returns true, and its arguments read behind it as before; no conditions. -/
import Derived.Test.YtfdihdndldiafaaRows
import Derived.Test.YtfdihdndldiafaaTome4
import Derived.Test.YtfdihdndldiafaaTome2
import Derived.WalkKit
import Derived.ProofKit
import Derived.OpenShut
import Derived.ShutString
import Derived.ChangeOld
import Derived.Below
namespace Go.Proofs.Ytfdihdndldiafaa.sectorCuts
open Go.ChangeShapes Go.WideShapes Go.ChangeAt Go.RowKit
open Go.ChangeMaps (open_string shut_string)
set_option linter.unusedVariables false

theorem own : ownKnob Try.prog.godebug = none := by kernel_rfl
theorem laidOut : laidOutB Try.prog = true := by kernel_rfl

/-- WHAT THE WALK IS TOLD OF A SLICE OF INTEGERS THAT CAME IN: it is nil; or it leads to a row of 'cap' cells, the numbers 'zs' (the first 'len' are its elements, the rest its spare room), each fitting its kind. -/
def IsRow (k : IntKind) (w : World) (a : Option Addr) (len cap : Nat) (zs : List Int) : Prop :=
  (a = none ∧ len = 0 ∧ cap = 0 ∧ zs = []) ∨
  ∃ x, a = some x ∧ len ≤ cap ∧ cap ≤ maxLen ∧ zs.length = cap ∧ (∀ i, i < zs.length → w.cell? (x.add i) = some (.int k (zs.getD i 0))) ∧ ∀ n ∈ zs, (Lit.int k n).wf = true

open Gf
set_option linter.unusedSimpArgs false
set_option maxRecDepth 100000 in
set_option maxHeartbeats 4000000 in
theorem walk (a0 : Int) (a1 : Int) (a2 : Option Addr) (len2 cap2 : Nat) (z2 : List Int) (a3 : Int) (w : World) (w0 : (Lit.int .i64 a0).wf = true) (w1 : (Lit.int .i64 a1).wf = true) (w2 : IsRow .u8 w a2 len2 cap2 z2) (w3 : (Lit.int .i64 a3).wf = true) :
    Calls Try.prog 7 #[.int .i64 a0, .int .i64 a1, .slice a2 len2 cap2, .int .i64 a3] w fun e w' => e = .returned (.bool true) ∧ Below w.heap.size w w' := by
  obtain ⟨P, rfl, R2⟩ := rd_row w2
  have hb3 := bounds_i64 w3
  by_cases ho : OkS a0 a1 P.length
  · have px := pa_ok ho
    obtain ⟨L, hL⟩ : ∃ L, Hid (L = pkS a0.toNat a1.toNat P) := ⟨_, rfl⟩
    have HT : Hid (∀ t, t < L.length → OkU a0 (L.take t) → epS (L.take t) = a1.toNat ∧ daS (L.take t) = P.take (t - 12) ∧ t - 12 ≤ P.length) := by intro t ht hu; rw [hL.out] at ht hu ⊢; exact cut_ok ho ht hu
    have hLl : Hid (L.length = P.length + 12) := by show _ = _; rw [hL.out, pk_length]
    rw [← hL.out] at px
    have ge : ((a1.toNat : Nat) : Int) = a1 := by have := ho.2.1; omega
    clear hL
    by_cases hl : P.length ≤ 3000
    · have hl' : ¬ (P.length : Int) > 3000 := by omega
      have hn0 : 0 < L.length := by have := hLl.out; omega
      have hn5 : L.length ≤ 5000 := by have := hLl.out; omega
      have hz' : ((L.length : Int) == 0) = false := by rw [beq_eq_false_iff_ne]; omega
      by_cases hneg : 0 ≤ a3
      · obtain ⟨x, rfl⟩ := Int.eq_ofNat_of_zero_le hneg
        obtain ⟨t, et⟩ : ∃ t, Hid (t = x % L.length) := ⟨_, rfl⟩
        have ht : t < L.length := by rw [et.out]; exact Nat.mod_lt _ hn0
        have g0 : (x : Int) % (L.length : Int) = (t : Int) := by rw [et.out]; omega
        have ht' : (t : Int) ≤ (L.length : Int) := by omega
        clear et
        by_cases hu : OkU a0 (L.take t)
        · have cu := HT.out t ht hu
          have qu := up_ok hu
          rw [cu.1, cu.2.1] at qu
          obtain ⟨D, hD⟩ : ∃ D, Hid (D = P.take (t - 12)) := ⟨_, rfl⟩
          have hDl : D.length ≤ P.length := by rw [hD.out, List.length_take]; omega
          have hDP : Hid (P.take D.length = D) := by show _ = _; rw [hD.out, List.length_take, take_min_lengthS]
          rw [← hD.out] at qu
          have hDl' : ¬ (D.length : Int) > (P.length : Int) := by omega
          have hDl'' : (D.length : Int) ≤ (P.length : Int) := by omega
          clear HT hu cu hD hLl
          go_enter Try.func7, Try.ntmps7
          go_wp2_with fail
          refine (awake11_any _).mono ?_
          rintro e u1 ⟨rfl, b⟩
          replace R2 := R2.below b
          have B : Below w.heap.size w u1 := b
          clear b
          go_wp2_with fail
          refine (spack_any R2).mono ?_
          rintro e u2 ⟨v2, rfl, R, b⟩
          replace R2 := R2.below b
          replace B := Below.step B b
          clear b
          rw [px.1]
          rw [px.2] at R
          obtain ⟨k1, k2, rfl⟩ := R.form
          have hc := R.capS
          have hc2 : (t : Int) ≤ (k2 : Int) := by omega
          have hc3 : t ≤ k2 := by omega
          have RT := R.headS (k := t) (by omega)
          have hp2 := R2.capS
          have hp3 : (D.length : Int) ≤ (cap2 : Int) := by omega
          have hp4 : D.length ≤ cap2 := by omega
          go_wp2_with fail
          refine (sunpack_any RT (by rw [List.length_take]; omega)).mono ?_
          rintro e u3 ⟨v5, rfl, R5, b⟩
          replace R2 := R2.below b
          replace B := Below.step B b
          clear b
          rw [qu.1, qu.2.1]
          rw [qu.2.2] at R5
          obtain ⟨k5, k6, rfl⟩ := R5.form
          have R6 := R2.headS (k := D.length) hDl
          rw [hDP.out] at R6
          clear R RT R2 hDP
          have B0 := B
          go_wp2_with fail
          refine (same_any R5 R6).mono ?_
          rintro e u4 ⟨rfl, k4, rfl⟩
          rw [sameB_self D]
          replace R5 := R5.drewN k4
          replace R6 := R6.drewN k4
          replace B := Below.drawsS B k4
          clear R5 R6
          go_wp2
          go_ret
          exact ⟨rfl, by first | exact B | exact Below.drawsS B _ | exact Below.drawsS B0 _⟩
        · have qu := up_not hu
          clear HT hu hLl
          go_enter Try.func7, Try.ntmps7
          go_wp2_with fail
          refine (awake11_any _).mono ?_
          rintro e u1 ⟨rfl, b⟩
          replace R2 := R2.below b
          have B : Below w.heap.size w u1 := b
          clear b
          go_wp2_with fail
          refine (spack_any R2).mono ?_
          rintro e u2 ⟨v2, rfl, R, b⟩
          clear R2
          replace B := Below.step B b
          clear b
          rw [px.1]
          rw [px.2] at R
          obtain ⟨k1, k2, rfl⟩ := R.form
          have hc := R.capS
          have hc2 : (t : Int) ≤ (k2 : Int) := by omega
          have hc3 : t ≤ k2 := by omega
          have RT := R.headS (k := t) (by omega)
          go_wp2_with fail
          refine (sunpack_any RT (by rw [List.length_take]; omega)).mono ?_
          rintro e u3 ⟨v5, rfl, R5, b⟩
          replace B := Below.step B b
          clear b
          rw [qu.1]
          clear R RT R5
          go_wp2
          go_ret
          exact ⟨rfl, by first | exact B | exact Below.drawsS B _ | exact Below.drawsS B0 _⟩
      · obtain ⟨x, hx⟩ : ∃ x : Nat, a3 = -(x : Int) - 1 := ⟨(-a3 - 1).toNat, by omega⟩
        subst hx
        have hneg' : -(x : Int) - 1 < 0 := by omega
        obtain ⟨t, et⟩ : ∃ t, Hid (t = x % L.length) := ⟨_, rfl⟩
        have ht : t < L.length := by rw [et.out]; exact Nat.mod_lt _ hn0
        have g0 : (x : Int) % (L.length : Int) = (t : Int) := by rw [et.out]; omega
        have ht' : (t : Int) ≤ (L.length : Int) := by omega
        clear et
        by_cases hu : OkU a0 (L.take t)
        · have cu := HT.out t ht hu
          have qu := up_ok hu
          rw [cu.1, cu.2.1] at qu
          obtain ⟨D, hD⟩ : ∃ D, Hid (D = P.take (t - 12)) := ⟨_, rfl⟩
          have hDl : D.length ≤ P.length := by rw [hD.out, List.length_take]; omega
          have hDP : Hid (P.take D.length = D) := by show _ = _; rw [hD.out, List.length_take, take_min_lengthS]
          rw [← hD.out] at qu
          have hDl' : ¬ (D.length : Int) > (P.length : Int) := by omega
          have hDl'' : (D.length : Int) ≤ (P.length : Int) := by omega
          clear HT hu cu hD hLl
          go_enter Try.func7, Try.ntmps7
          go_wp2_with fail
          refine (awake11_any _).mono ?_
          rintro e u1 ⟨rfl, b⟩
          replace R2 := R2.below b
          have B : Below w.heap.size w u1 := b
          clear b
          go_wp2_with fail
          refine (spack_any R2).mono ?_
          rintro e u2 ⟨v2, rfl, R, b⟩
          replace R2 := R2.below b
          replace B := Below.step B b
          clear b
          rw [px.1]
          rw [px.2] at R
          obtain ⟨k1, k2, rfl⟩ := R.form
          have hc := R.capS
          have hc2 : (t : Int) ≤ (k2 : Int) := by omega
          have hc3 : t ≤ k2 := by omega
          have RT := R.headS (k := t) (by omega)
          have hp2 := R2.capS
          have hp3 : (D.length : Int) ≤ (cap2 : Int) := by omega
          have hp4 : D.length ≤ cap2 := by omega
          go_wp2_with fail
          refine (sunpack_any RT (by rw [List.length_take]; omega)).mono ?_
          rintro e u3 ⟨v5, rfl, R5, b⟩
          replace R2 := R2.below b
          replace B := Below.step B b
          clear b
          rw [qu.1, qu.2.1]
          rw [qu.2.2] at R5
          obtain ⟨k5, k6, rfl⟩ := R5.form
          have R6 := R2.headS (k := D.length) hDl
          rw [hDP.out] at R6
          clear R RT R2 hDP
          have B0 := B
          go_wp2_with fail
          refine (same_any R5 R6).mono ?_
          rintro e u4 ⟨rfl, k4, rfl⟩
          rw [sameB_self D]
          replace R5 := R5.drewN k4
          replace R6 := R6.drewN k4
          replace B := Below.drawsS B k4
          clear R5 R6
          go_wp2
          go_ret
          exact ⟨rfl, by first | exact B | exact Below.drawsS B _ | exact Below.drawsS B0 _⟩
        · have qu := up_not hu
          clear HT hu hLl
          go_enter Try.func7, Try.ntmps7
          go_wp2_with fail
          refine (awake11_any _).mono ?_
          rintro e u1 ⟨rfl, b⟩
          replace R2 := R2.below b
          have B : Below w.heap.size w u1 := b
          clear b
          go_wp2_with fail
          refine (spack_any R2).mono ?_
          rintro e u2 ⟨v2, rfl, R, b⟩
          clear R2
          replace B := Below.step B b
          clear b
          rw [px.1]
          rw [px.2] at R
          obtain ⟨k1, k2, rfl⟩ := R.form
          have hc := R.capS
          have hc2 : (t : Int) ≤ (k2 : Int) := by omega
          have hc3 : t ≤ k2 := by omega
          have RT := R.headS (k := t) (by omega)
          go_wp2_with fail
          refine (sunpack_any RT (by rw [List.length_take]; omega)).mono ?_
          rintro e u3 ⟨v5, rfl, R5, b⟩
          replace B := Below.step B b
          clear b
          rw [qu.1]
          clear R RT R5
          go_wp2
          go_ret
          exact ⟨rfl, by first | exact B | exact Below.drawsS B _ | exact Below.drawsS B0 _⟩
    · have hl' : (P.length : Int) > 3000 := by omega
      clear HT hLl
      go_enter Try.func7, Try.ntmps7
      go_wp2_with fail
      refine (awake11_any _).mono ?_
      rintro e u1 ⟨rfl, b⟩
      replace R2 := R2.below b
      have B : Below w.heap.size w u1 := b
      clear b
      go_wp2_with fail
      refine (spack_any R2).mono ?_
      rintro e u2 ⟨v2, rfl, R, b⟩
      clear R2
      replace B := Below.step B b
      clear b
      rw [px.1]
      rw [px.2] at R
      obtain ⟨k1, k2, rfl⟩ := R.form
      clear R
      go_wp2
      go_ret
      exact ⟨rfl, by first | exact B | exact Below.drawsS B _ | exact Below.drawsS B0 _⟩
  · have px := pa_not ho
    go_enter Try.func7, Try.ntmps7
    go_wp2_with fail
    refine (awake11_any _).mono ?_
    rintro e u1 ⟨rfl, b⟩
    replace R2 := R2.below b
    have B : Below w.heap.size w u1 := b
    clear b
    go_wp2_with fail
    refine (spack_any R2).mono ?_
    rintro e u2 ⟨v2, rfl, R, b⟩
    clear R2
    replace B := Below.step B b
    clear b
    rw [px.1]
    clear R
    go_wp2
    go_ret
    exact ⟨rfl, by first | exact B | exact Below.drawsS B _ | exact Below.drawsS B0 _⟩

/-! ### THE ROW's STEP: WRITTEN OUT: LEAVE IT -/
set_option maxRecDepth 100000 in
theorem lifted (os : Os) (started : os.Started) (H : Type) (enc : TypeId × Value → H) :
    ReturnsInHanded {} Try.checked os 7 .any (Rows.sectorCutsSpec.pre6 enc Try.prog Try.f7 Rows.sectorCutsRow.domain false) (Rows.sectorCutsSpec.post enc Try.prog Try.f7 false true false false) := by
  refine returnsInHanded_of_change (C := Try.checked) own started (by kernel_rfl) Try.func7
    (ChangeSpec.witness6 (enc := enc) (C := Try.checked) false ⟨#[], #[.int .i64 0, .int .i64 0, .slice none 0 0, .int .i64 0], []⟩ 8 (by kernel_rfl) (by kernel_rfl) (by kernel_rfl) (by kernel_rfl)) ?_
  intro W base args ds gs before hval0 hW hcnd _
  have hval : ∀ (j : Nat) t v, Try.f7.params[j]? = some t → args[j]? = some v → Value.okWide Try.prog W .any base t v := hval0
  have hW' := hW
  obtain ⟨p, q, hA0, hV, rfl, hfz, hnd⟩ := hW
  have hA : DataW.TrodAll enc Try.prog W 0 (fun _ => true) true Try.f7.params.toList args.toList ds p := hA0
  rw [Try.params7] at hA hval
  obtain ⟨v0, vs0, d0, ds0, p0, q0, hargs, rfl, rfl, h0, r0⟩ := trodAll_cons hA
  obtain ⟨v1, vs1, d1, ds1, p1, q1, rfl, rfl, rfl, h1, r1⟩ := trodAll_cons r0
  obtain ⟨v2, vs2, d2, ds2, p2, q2, rfl, rfl, rfl, h2, r2⟩ := trodAll_cons r1
  obtain ⟨v3, vs3, d3, ds3, p3, q3, rfl, rfl, rfl, h3, r3⟩ := trodAll_cons r2
  obtain ⟨rfl, rfl, rfl⟩ := trodAll_nil r3
  obtain rfl : args = #[v0, v1, v2, v3] := by cases args; simp_all
  obtain ⟨rfl, rfl⟩ := trodVars_none hV
  obtain ⟨a0, rfl, rfl, rfl, w0⟩ := open_int Try.underlying3 (hval 0 3 v0 rfl rfl) h0
  obtain ⟨a1, rfl, rfl, rfl, w1⟩ := open_int Try.underlying3 (hval 1 3 v1 rfl rfl) h1
  obtain ⟨a2, len2, cap2, rfl⟩ := okWide_slice Try.underlying23 (hval 2 23 v2 rfl rfl)
  have k2 := h2
  have lt2 : ∀ x ∈ p2, x.block < W.heap.size := by obtain ⟨m, hm⟩ := k2; exact DataW.trod_lt m _ _ _ hm
  obtain ⟨z2, w2⟩ : ∃ zs, IsRow .u8 W a2 len2 cap2 zs := by
    obtain ⟨fuel, hf⟩ := h2
    rcases open_ints Try.underlying23 Try.underlying5 (by kernel_rfl) hf with ⟨hcs, _⟩ | ⟨x, l, c, zs, hcs, _, hl, hm, hz, _, hcell, hwz⟩
    · simp [Value.cells] at hcs
      obtain ⟨rfl, rfl, rfl⟩ := hcs
      exact ⟨[], .inl ⟨rfl, rfl, rfl, rfl⟩⟩
    · simp [Value.cells] at hcs
      obtain ⟨rfl, rfl, rfl⟩ := hcs
      exact ⟨zs, .inr ⟨_, rfl, hl, hm, by simpa using hz, hcell, hwz⟩⟩
  obtain ⟨a3, rfl, rfl, rfl, w3⟩ := open_int Try.underlying3 (hval 3 3 v3 rfl rfl) h3
  clear hA0 hval0
  refine (walk a0 a1 a2 len2 cap2 z2 a3 W w0 w1 w2 w3).mono fun e W' ⟨he, bel⟩ => ?_
  subst he
  exact ⟨_, rfl, _, _, _, [], _, [], hW', trodAll_mk1 (shut_bool Try.underlying4 _), (trodAll_cons_mk (shut_int Try.underlying3 w0) (trodAll_cons_mk (shut_int Try.underlying3 w1) (trodAll_cons_mk (Below.trod laidOut (by kernel_rfl) (of_decide_eq_true (by kernel_rfl)) k2 bel lt2) (trodAll_cons_mk (shut_int Try.underlying3 w3) trodAll_mk0)))), rfl, bel.frame _, fun h => by cases h⟩

theorem over : Rows.sectorCutsRow.holds Try.pinned (OpenSpec.ofChange Rows.sectorCutsSpec) :=
  OpenClaim.holds_of_wide 7 Try.f7 rfl rfl rfl rfl rfl rfl rfl ⟨rfl, rfl, rfl, rfl, rfl⟩ rfl rfl rfl rfl rfl (by kernel_rfl) Try.func7 (by kernel_rfl)
    (of_decide_eq_true (by kernel_rfl)) (by unfold Func.isWrapper; first | (rw [if_pos (by decide +kernel)]; kernel_rfl) | (rw [if_neg (by decide +kernel)]; exact ⟨rfl, rfl⟩))
    (fun os started H enc _ => lifted os started H enc)

/-- ████ THE STATEMENT ████ -/
theorem proved : Rows.SectorCutsSaid := over
end Go.Proofs.Ytfdihdndldiafaa.sectorCuts
namespace Go.Proofs.Ytfdihdndldiafaa
theorem sectorCuts_holds : Rows.SectorCutsSaid := sectorCuts.proved
#print axioms sectorCuts_holds
end Go.Proofs.Ytfdihdndldiafaa
