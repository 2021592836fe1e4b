/- PROVED: for every number sum and all lists a and b of bytes the call CrcJoins(sum, a, b) returns true, and its arguments read behind it as before; no conditions. -/
import Derived.Test.YtpplniahjgdknaaRows
import Derived.Test.YtpplniahjgdknaaCrLaws
import Derived.WalkKit
import Derived.ProofKit
import Derived.OpenShut
import Derived.ShutString
import Derived.ChangeOld
import Derived.Below
namespace Go.Proofs.Ytpplniahjgdknaa.crcJoins
open Go.ChangeShapes Go.WideShapes Go.ChangeAt Go.RowKit
open Go.ChangeMaps (open_string shut_string)
set_option linter.unusedVariables false

theorem own : ownKnob Try.prog.godebug = none := by kernel_rfl
theorem laidOut : laidOutB Try.prog = true := by kernel_rfl

/-- WHAT THE WALK IS TOLD OF A SLICE OF INTEGERS THAT CAME IN: it is nil; or it leads to a row of 'cap' cells, the numbers 'zs' (the first 'len' are its elements, the rest its spare room), each fitting its kind. -/
def IsRow (k : IntKind) (w : World) (a : Option Addr) (len cap : Nat) (zs : List Int) : Prop :=
  (a = none ∧ len = 0 ∧ cap = 0 ∧ zs = []) ∨
  ∃ x, a = some x ∧ len ≤ cap ∧ cap ≤ maxLen ∧ zs.length = cap ∧ (∀ i, i < zs.length → w.cell? (x.add i) = some (.int k (zs.getD i 0))) ∧ ∀ n ∈ zs, (Lit.int k n).wf = true

open Gf
set_option linter.unusedSimpArgs false
set_option maxRecDepth 100000 in
set_option maxHeartbeats 2000000 in
theorem walk (a0 : Int) (a1 : Option Addr) (len1 cap1 : Nat) (z1 : List Int) (a2 : Option Addr) (len2 cap2 : Nat) (z2 : List Int) (w : World) (w0 : (Lit.int .u32 a0).wf = true) (w1 : IsRow .u8 w a1 len1 cap1 z1) (w2 : IsRow .u8 w a2 len2 cap2 z2) :
    Calls Try.prog 4 #[.int .u32 a0, .slice a1 len1 cap1, .slice a2 len2 cap2] w fun e w' => e = .returned (.bool true) ∧ Below w.heap.size w w' := by
  obtain ⟨La, rfl, Ra⟩ := rd_row w1
  obtain ⟨Lb, rfl, Rb⟩ := rd_row w2
  obtain ⟨s, hs, rfl⟩ := u32_nat w0
  by_cases hl : La.length ≤ 2000
  · by_cases hl2 : Lb.length ≤ 2000
    · have hl' : ¬ (La.length : Int) > 2000 := by omega
      have hl2' : ¬ (Lb.length : Int) > 2000 := by omega
      obtain ⟨i0, hi, hz0, hz1, hz2⟩ := info_parts info_u8
      have HS1 : Hid (more (more 0 La) Lb = more 0 (La ++ Lb)) := (more_append (by decide) La Lb).symm
      have HS2 : Hid (more (more s La) Lb = more s (La ++ Lb)) := (more_append hs La Lb).symm
      have HS3 : Hid (more s [] = s) := more_nil hs
      have HL : Hid ((La ++ Lb).length ≤ 4000) := by show _ ≤ _; rw [List.length_append]; omega
      go_enter Try.func4, Try.ntmps4
      go_wp2_with fail
      refine (awake4_any _).mono ?_
      rintro e u1 ⟨rfl, b⟩
      have B : Below w.heap.size w u1 := b
      replace Ra := Ra.below b
      replace Rb := Rb.below b
      clear b
      have hA1 : Below u1.heap.size u1 (u1.alloc (.cells #[] 5)) := (Below.refl _ _).alloc (Nat.le_refl _) _
      have Ra1 := Ra.below hA1
      go_wp2_with (first
        | (at_builtin; refine wpList_append_rd _ rfl (.tmp 19) (.tmp 20) 23 rfl u1.heap.size 5 i0 Try.underlying23 hi hz0 hz1 hz2 (.slice (some ⟨u1.heap.size, 0, none⟩) 0 0) 0 [] rfl (own_new _ _) _ La rfl Ra1 (by omega) (by simp) ?_; intro v1 u2 hv1 hg1; rw [own_block] at hg1; have B1 := below_new hg1; have Rb1 := Rb.below B1)
        | (at_builtin; refine wpList_append_rd _ rfl (.tmp 21) (.tmp 22) 23 rfl u1.heap.size 5 i0 Try.underlying23 hi hz0 hz1 hz2 v1 _ _ rfl hv1 _ Lb rfl Rb1 (by omega) B1.size ?_; intro v2 u3 hv2 hg2; have B2 := below_own B1 B1.size hv1 hg2; clear hg1 hg2 B1 Rb1 hv1)
        | fail)
      have R2 := rd_two hv2
      replace B := Below.step B B2
      replace Ra := Ra.below B2
      replace Rb := Rb.below B2
      clear hv2 B2 hA1 Ra1
      refine (csum_any Ra (by omega)).mono ?_
      rintro e u4 ⟨rfl, b⟩
      replace B := Below.step B b
      replace Ra := Ra.below b
      replace Rb := Rb.below b
      replace R2 := R2.below b
      clear b
      go_wp2_with fail
      refine (cmore_any rfl (more_lt _ _) Rb (by omega)).mono ?_
      rintro e u5 ⟨rfl, b⟩
      rw [HS1.out]
      replace B := Below.step B b
      replace Ra := Ra.below b
      replace Rb := Rb.below b
      replace R2 := R2.below b
      clear b
      go_wp2_with fail
      refine (csum_any R2 (by have := HL.out; omega)).mono ?_
      rintro e u6 ⟨rfl, b⟩
      replace B := Below.step B b
      replace Ra := Ra.below b
      replace Rb := Rb.below b
      replace R2 := R2.below b
      clear b
      go_wp2_with fail
      refine (cmore_any rfl hs Ra (by omega)).mono ?_
      rintro e u7 ⟨rfl, b⟩
      replace B := Below.step B b
      replace Rb := Rb.below b
      replace R2 := R2.below b
      clear b Ra
      go_wp2_with fail
      refine (cmore_any rfl (more_lt _ _) Rb (by omega)).mono ?_
      rintro e u8 ⟨rfl, b⟩
      rw [HS2.out]
      replace B := Below.step B b
      replace R2 := R2.below b
      clear b Rb
      go_wp2_with fail
      refine (cmore_any rfl hs R2 (by have := HL.out; omega)).mono ?_
      rintro e u9 ⟨rfl, b⟩
      replace B := Below.step B b
      clear b R2
      go_wp2_with fail
      refine (cmore_any rfl hs rd_nil0 (by decide)).mono ?_
      rintro e u10 ⟨rfl, b⟩
      rw [HS3.out]
      replace B := Below.step B b
      clear b
      go_wp2
      go_ret
      exact ⟨rfl, B⟩
    · have hl' : ¬ (La.length : Int) > 2000 := by omega
      have hl2' : (Lb.length : Int) > 2000 := by omega
      go_enter Try.func4, Try.ntmps4
      go_wp2_with fail
      refine (awake4_any _).mono ?_
      rintro e u1 ⟨rfl, b⟩
      go_wp2
      go_ret
      exact ⟨rfl, b⟩
  · have hl' : (La.length : Int) > 2000 := by omega
    go_enter Try.func4, Try.ntmps4
    go_wp2_with fail
    refine (awake4_any _).mono ?_
    rintro e u1 ⟨rfl, b⟩
    go_wp2
    go_ret
    exact ⟨rfl, b⟩

/-! ### THE ROW's STEP: WRITTEN OUT: LEAVE IT -/
set_option maxRecDepth 100000 in
theorem lifted (os : Os) (started : os.Started) (H : Type) (enc : TypeId × Value → H) :
    ReturnsInHanded {} Try.checked os 4 .any (Rows.crcJoinsSpec.pre6 enc Try.prog Try.f4 Rows.crcJoinsRow.domain false) (Rows.crcJoinsSpec.post enc Try.prog Try.f4 false true false false) := by
  refine returnsInHanded_of_change (C := Try.checked) own started (by kernel_rfl) Try.func4
    (ChangeSpec.witness6 (enc := enc) (C := Try.checked) false ⟨#[], #[.int .u32 0, .slice none 0 0, .slice none 0 0], []⟩ 8 (by kernel_rfl) (by kernel_rfl) (by kernel_rfl) (by kernel_rfl)) ?_
  intro W base args ds gs before hval0 hW hcnd _
  have hval : ∀ (j : Nat) t v, Try.f4.params[j]? = some t → args[j]? = some v → Value.okWide Try.prog W .any base t v := hval0
  have hW' := hW
  obtain ⟨p, q, hA0, hV, rfl, hfz, hnd⟩ := hW
  have hA : DataW.TrodAll enc Try.prog W 0 (fun _ => true) true Try.f4.params.toList args.toList ds p := hA0
  rw [Try.params4] at hA hval
  obtain ⟨v0, vs0, d0, ds0, p0, q0, hargs, rfl, rfl, h0, r0⟩ := trodAll_cons hA
  obtain ⟨v1, vs1, d1, ds1, p1, q1, rfl, rfl, rfl, h1, r1⟩ := trodAll_cons r0
  obtain ⟨v2, vs2, d2, ds2, p2, q2, rfl, rfl, rfl, h2, r2⟩ := trodAll_cons r1
  obtain ⟨rfl, rfl, rfl⟩ := trodAll_nil r2
  obtain rfl : args = #[v0, v1, v2] := by cases args; simp_all
  obtain ⟨rfl, rfl⟩ := trodVars_none hV
  obtain ⟨a0, rfl, rfl, rfl, w0⟩ := open_int Try.underlying22 (hval 0 22 v0 rfl rfl) h0
  obtain ⟨a1, len1, cap1, rfl⟩ := okWide_slice Try.underlying23 (hval 1 23 v1 rfl rfl)
  have k1 := h1
  have lt1 : ∀ x ∈ p1, x.block < W.heap.size := by obtain ⟨m, hm⟩ := k1; exact DataW.trod_lt m _ _ _ hm
  obtain ⟨z1, w1⟩ : ∃ zs, IsRow .u8 W a1 len1 cap1 zs := by
    obtain ⟨fuel, hf⟩ := h1
    rcases open_ints Try.underlying23 Try.underlying5 (by kernel_rfl) hf with ⟨hcs, _⟩ | ⟨x, l, c, zs, hcs, _, hl, hm, hz, _, hcell, hwz⟩
    · simp [Value.cells] at hcs
      obtain ⟨rfl, rfl, rfl⟩ := hcs
      exact ⟨[], .inl ⟨rfl, rfl, rfl, rfl⟩⟩
    · simp [Value.cells] at hcs
      obtain ⟨rfl, rfl, rfl⟩ := hcs
      exact ⟨zs, .inr ⟨_, rfl, hl, hm, by simpa using hz, hcell, hwz⟩⟩
  obtain ⟨a2, len2, cap2, rfl⟩ := okWide_slice Try.underlying23 (hval 2 23 v2 rfl rfl)
  have k2 := h2
  have lt2 : ∀ x ∈ p2, x.block < W.heap.size := by obtain ⟨m, hm⟩ := k2; exact DataW.trod_lt m _ _ _ hm
  obtain ⟨z2, w2⟩ : ∃ zs, IsRow .u8 W a2 len2 cap2 zs := by
    obtain ⟨fuel, hf⟩ := h2
    rcases open_ints Try.underlying23 Try.underlying5 (by kernel_rfl) hf with ⟨hcs, _⟩ | ⟨x, l, c, zs, hcs, _, hl, hm, hz, _, hcell, hwz⟩
    · simp [Value.cells] at hcs
      obtain ⟨rfl, rfl, rfl⟩ := hcs
      exact ⟨[], .inl ⟨rfl, rfl, rfl, rfl⟩⟩
    · simp [Value.cells] at hcs
      obtain ⟨rfl, rfl, rfl⟩ := hcs
      exact ⟨zs, .inr ⟨_, rfl, hl, hm, by simpa using hz, hcell, hwz⟩⟩
  clear hA0 hval0
  refine (walk a0 a1 len1 cap1 z1 a2 len2 cap2 z2 W w0 w1 w2).mono fun e W' ⟨he, bel⟩ => ?_
  subst he
  exact ⟨_, rfl, _, _, _, [], _, [], hW', trodAll_mk1 (shut_bool Try.underlying4 _), (trodAll_cons_mk (shut_int Try.underlying22 w0) (trodAll_cons_mk (Below.trod laidOut (by kernel_rfl) (of_decide_eq_true (by kernel_rfl)) k1 bel lt1) (trodAll_cons_mk (Below.trod laidOut (by kernel_rfl) (of_decide_eq_true (by kernel_rfl)) k2 bel lt2) trodAll_mk0))), rfl, bel.frame _, fun h => by cases h⟩

theorem over : Rows.crcJoinsRow.holds Try.pinned (OpenSpec.ofChange Rows.crcJoinsSpec) :=
  OpenClaim.holds_of_wide 4 Try.f4 rfl rfl rfl rfl rfl rfl rfl ⟨rfl, rfl, rfl, rfl, rfl⟩ rfl rfl rfl rfl rfl (by kernel_rfl) Try.func4 (by kernel_rfl)
    (of_decide_eq_true (by kernel_rfl)) (by unfold Func.isWrapper; first | (rw [if_pos (by decide +kernel)]; kernel_rfl) | (rw [if_neg (by decide +kernel)]; exact ⟨rfl, rfl⟩))
    (fun os started H enc _ => lifted os started H enc)

/-- ████ THE STATEMENT ████ -/
theorem proved : Rows.CrcJoinsSaid := over
end Go.Proofs.Ytpplniahjgdknaa.crcJoins
namespace Go.Proofs.Ytpplniahjgdknaa
theorem crcJoins_holds : Rows.CrcJoinsSaid := crcJoins.proved
#print axioms crcJoins_holds
end Go.Proofs.Ytpplniahjgdknaa
