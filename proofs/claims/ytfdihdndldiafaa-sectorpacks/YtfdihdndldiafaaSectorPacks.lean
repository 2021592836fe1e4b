/- PROVED: for all numbers addr and epoch and all lists data and b of bytes the call SectorPacks(addr, epoch, data, b) returns true, and its arguments read behind it as before; no conditions. -/
import Derived.Test.YtfdihdndldiafaaRows
import Derived.Test.YtfdihdndldiafaaTome4
import Derived.Test.YtfdihdndldiafaaTome5
import Derived.Test.YtfdihdndldiafaaTome2
import Derived.WalkKit
import Derived.ProofKit
import Derived.OpenShut
import Derived.ShutString
import Derived.ChangeOld
import Derived.Below
namespace Go.Proofs.Ytfdihdndldiafaa.sectorPacks
open Go.ChangeShapes Go.WideShapes Go.ChangeAt Go.RowKit
open Go.ChangeMaps (open_string shut_string)
set_option linter.unusedVariables false

theorem own : ownKnob Try.prog.godebug = none := by kernel_rfl
theorem laidOut : laidOutB Try.prog = true := by kernel_rfl

/-- WHAT THE WALK IS TOLD OF A SLICE OF INTEGERS THAT CAME IN: it is nil; or it leads to a row of 'cap' cells, the numbers 'zs' (the first 'len' are its elements, the rest its spare room), each fitting its kind. -/
def IsRow (k : IntKind) (w : World) (a : Option Addr) (len cap : Nat) (zs : List Int) : Prop :=
  (a = none ∧ len = 0 ∧ cap = 0 ∧ zs = []) ∨
  ∃ x, a = some x ∧ len ≤ cap ∧ cap ≤ maxLen ∧ zs.length = cap ∧ (∀ i, i < zs.length → w.cell? (x.add i) = some (.int k (zs.getD i 0))) ∧ ∀ n ∈ zs, (Lit.int k n).wf = true

open Gf
set_option linter.unusedSimpArgs false
set_option maxRecDepth 100000 in
set_option maxHeartbeats 4000000 in
theorem walk (a0 : Int) (a1 : Int) (a2 : Option Addr) (len2 cap2 : Nat) (z2 : List Int) (a3 : Option Addr) (len3 cap3 : Nat) (z3 : List Int) (w : World) (w0 : (Lit.int .i64 a0).wf = true) (w1 : (Lit.int .i64 a1).wf = true) (w2 : IsRow .u8 w a2 len2 cap2 z2) (w3 : IsRow .u8 w a3 len3 cap3 z3) :
    Calls Try.prog 4 #[.int .i64 a0, .int .i64 a1, .slice a2 len2 cap2, .slice a3 len3 cap3] w fun e w' => e = .returned (.bool true) ∧ Below w.heap.size w w' := by
  obtain ⟨P, rfl, R2⟩ := rd_row w2
  obtain ⟨Q, rfl, R3⟩ := rd_row w3
  by_cases hl : P.length ≤ 5000
  · have hl' : ¬ (P.length : Int) > 5000 := by omega
    by_cases hm : Q.length ≤ 5000
    · have hm' : ¬ (Q.length : Int) > 5000 := by omega
      have sB := sameB_self
      go_enter Try.func4, Try.ntmps4
      go_wp2_with fail
      refine (awake11_any _).mono ?_
      rintro e u1 ⟨rfl, B⟩
      replace R2 := R2.below B
      replace R3 := R3.below B
      go_wp2_with fail
      refine (spack_any R2).mono ?_
      rintro e u2 ⟨v2, rfl, X2, b⟩
      replace R2 := R2.below b
      replace R3 := R3.below b
      replace B := Below.step B b
      clear b
      go_wp2_with fail
      refine (rpack_any R2 (by omega)).mono ?_
      rintro e u3 ⟨v3, rfl, X3, b⟩
      replace R3 := R3.below b
      replace X2 := X2.below b
      replace B := Below.step B b
      clear b R2
      go_wp2_with fail
      refine (sunpack_any R3 (by omega)).mono ?_
      rintro e u4 ⟨v4, rfl, X4, b⟩
      replace R3 := R3.below b
      replace X2 := X2.below b
      replace X3 := X3.below b
      replace B := Below.step B b
      clear b
      go_wp2_with fail
      refine (runpack_any R3 (by omega)).mono ?_
      rintro e u5 ⟨v5, rfl, X5, b⟩
      replace X2 := X2.below b
      replace X3 := X3.below b
      replace X4 := X4.below b
      replace B := Below.step B b
      clear b R3
      generalize paX a0 a1 P = pX at *
      generalize paR a0 a1 P = pR at *
      generalize upX a0 Q = uX at *
      generalize upN a0 Q = uN at *
      generalize upD a0 Q = uD at *
      go_wp2_with fail
      refine (same_any X2 X3).mono ?_
      rintro e u6 ⟨rfl, k6, rfl⟩
      rw [sameB_self]
      clear X2 X3
      replace X4 := X4.drewN k6
      replace X5 := X5.drewN k6
      go_wp2_with fail
      refine (same_any X4 X5).mono ?_
      rintro e u7 ⟨rfl, k7, rfl⟩
      rw [sameB_self]
      clear X4 X5 sB
      go_wp2
      go_ret
      exact ⟨rfl, Below.drawsS B _⟩
    · have hm' : (Q.length : Int) > 5000 := by omega
      go_enter Try.func4, Try.ntmps4
      go_wp2_with fail
      refine (awake11_any _).mono ?_
      rintro e u1 ⟨rfl, B⟩
      go_wp2
      go_ret
      exact ⟨rfl, B⟩
  · have hl' : (P.length : Int) > 5000 := by omega
    go_enter Try.func4, Try.ntmps4
    go_wp2_with fail
    refine (awake11_any _).mono ?_
    rintro e u1 ⟨rfl, B⟩
    go_wp2
    go_ret
    exact ⟨rfl, B⟩

/-! ### THE ROW's STEP: WRITTEN OUT: LEAVE IT -/
set_option maxRecDepth 100000 in
theorem lifted (os : Os) (started : os.Started) (H : Type) (enc : TypeId × Value → H) :
    ReturnsInHanded {} Try.checked os 4 .any (Rows.sectorPacksSpec.pre6 enc Try.prog Try.f4 Rows.sectorPacksRow.domain false) (Rows.sectorPacksSpec.post enc Try.prog Try.f4 false true false false) := by
  refine returnsInHanded_of_change (C := Try.checked) own started (by kernel_rfl) Try.func4
    (ChangeSpec.witness6 (enc := enc) (C := Try.checked) false ⟨#[], #[.int .i64 0, .int .i64 0, .slice none 0 0, .slice none 0 0], []⟩ 8 (by kernel_rfl) (by kernel_rfl) (by kernel_rfl) (by kernel_rfl)) ?_
  intro W base args ds gs before hval0 hW hcnd _
  have hval : ∀ (j : Nat) t v, Try.f4.params[j]? = some t → args[j]? = some v → Value.okWide Try.prog W .any base t v := hval0
  have hW' := hW
  obtain ⟨p, q, hA0, hV, rfl, hfz, hnd⟩ := hW
  have hA : DataW.TrodAll enc Try.prog W 0 (fun _ => true) true Try.f4.params.toList args.toList ds p := hA0
  rw [Try.params4] at hA hval
  obtain ⟨v0, vs0, d0, ds0, p0, q0, hargs, rfl, rfl, h0, r0⟩ := trodAll_cons hA
  obtain ⟨v1, vs1, d1, ds1, p1, q1, rfl, rfl, rfl, h1, r1⟩ := trodAll_cons r0
  obtain ⟨v2, vs2, d2, ds2, p2, q2, rfl, rfl, rfl, h2, r2⟩ := trodAll_cons r1
  obtain ⟨v3, vs3, d3, ds3, p3, q3, rfl, rfl, rfl, h3, r3⟩ := trodAll_cons r2
  obtain ⟨rfl, rfl, rfl⟩ := trodAll_nil r3
  obtain rfl : args = #[v0, v1, v2, v3] := by cases args; simp_all
  obtain ⟨rfl, rfl⟩ := trodVars_none hV
  obtain ⟨a0, rfl, rfl, rfl, w0⟩ := open_int Try.underlying3 (hval 0 3 v0 rfl rfl) h0
  obtain ⟨a1, rfl, rfl, rfl, w1⟩ := open_int Try.underlying3 (hval 1 3 v1 rfl rfl) h1
  obtain ⟨a2, len2, cap2, rfl⟩ := okWide_slice Try.underlying23 (hval 2 23 v2 rfl rfl)
  have k2 := h2
  have lt2 : ∀ x ∈ p2, x.block < W.heap.size := by obtain ⟨m, hm⟩ := k2; exact DataW.trod_lt m _ _ _ hm
  obtain ⟨z2, w2⟩ : ∃ zs, IsRow .u8 W a2 len2 cap2 zs := by
    obtain ⟨fuel, hf⟩ := h2
    rcases open_ints Try.underlying23 Try.underlying5 (by kernel_rfl) hf with ⟨hcs, _⟩ | ⟨x, l, c, zs, hcs, _, hl, hm, hz, _, hcell, hwz⟩
    · simp [Value.cells] at hcs
      obtain ⟨rfl, rfl, rfl⟩ := hcs
      exact ⟨[], .inl ⟨rfl, rfl, rfl, rfl⟩⟩
    · simp [Value.cells] at hcs
      obtain ⟨rfl, rfl, rfl⟩ := hcs
      exact ⟨zs, .inr ⟨_, rfl, hl, hm, by simpa using hz, hcell, hwz⟩⟩
  obtain ⟨a3, len3, cap3, rfl⟩ := okWide_slice Try.underlying23 (hval 3 23 v3 rfl rfl)
  have k3 := h3
  have lt3 : ∀ x ∈ p3, x.block < W.heap.size := by obtain ⟨m, hm⟩ := k3; exact DataW.trod_lt m _ _ _ hm
  obtain ⟨z3, w3⟩ : ∃ zs, IsRow .u8 W a3 len3 cap3 zs := by
    obtain ⟨fuel, hf⟩ := h3
    rcases open_ints Try.underlying23 Try.underlying5 (by kernel_rfl) hf with ⟨hcs, _⟩ | ⟨x, l, c, zs, hcs, _, hl, hm, hz, _, hcell, hwz⟩
    · simp [Value.cells] at hcs
      obtain ⟨rfl, rfl, rfl⟩ := hcs
      exact ⟨[], .inl ⟨rfl, rfl, rfl, rfl⟩⟩
    · simp [Value.cells] at hcs
      obtain ⟨rfl, rfl, rfl⟩ := hcs
      exact ⟨zs, .inr ⟨_, rfl, hl, hm, by simpa using hz, hcell, hwz⟩⟩
  clear hA0 hval0
  refine (walk a0 a1 a2 len2 cap2 z2 a3 len3 cap3 z3 W w0 w1 w2 w3).mono fun e W' ⟨he, bel⟩ => ?_
  subst he
  exact ⟨_, rfl, _, _, _, [], _, [], hW', trodAll_mk1 (shut_bool Try.underlying4 _), (trodAll_cons_mk (shut_int Try.underlying3 w0) (trodAll_cons_mk (shut_int Try.underlying3 w1) (trodAll_cons_mk (Below.trod laidOut (by kernel_rfl) (of_decide_eq_true (by kernel_rfl)) k2 bel lt2) (trodAll_cons_mk (Below.trod laidOut (by kernel_rfl) (of_decide_eq_true (by kernel_rfl)) k3 bel lt3) trodAll_mk0)))), rfl, bel.frame _, fun h => by cases h⟩

theorem over : Rows.sectorPacksRow.holds Try.pinned (OpenSpec.ofChange Rows.sectorPacksSpec) :=
  OpenClaim.holds_of_wide 4 Try.f4 rfl rfl rfl rfl rfl rfl rfl ⟨rfl, rfl, rfl, rfl, rfl⟩ rfl rfl rfl rfl rfl (by kernel_rfl) Try.func4 (by kernel_rfl)
    (of_decide_eq_true (by kernel_rfl)) (by unfold Func.isWrapper; first | (rw [if_pos (by decide +kernel)]; kernel_rfl) | (rw [if_neg (by decide +kernel)]; exact ⟨rfl, rfl⟩))
    (fun os started H enc _ => lifted os started H enc)

/-- ████ THE STATEMENT ████ -/
theorem proved : Rows.SectorPacksSaid := over
end Go.Proofs.Ytfdihdndldiafaa.sectorPacks
namespace Go.Proofs.Ytfdihdndldiafaa
theorem sectorPacks_holds : Rows.SectorPacksSaid := sectorPacks.proved
#print axioms sectorPacks_holds
end Go.Proofs.Ytfdihdndldiafaa
