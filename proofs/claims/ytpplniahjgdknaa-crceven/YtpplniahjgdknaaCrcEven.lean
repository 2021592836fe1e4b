/- PROVED: for all lists a and b of bytes the call CrcEven(a, b) returns true, and its arguments read behind it as before; no conditions. -/
import Derived.Test.YtpplniahjgdknaaRows
import Derived.Test.YtpplniahjgdknaaCrLaws
import Derived.WalkKit
import Derived.ProofKit
import Derived.OpenShut
import Derived.ShutString
import Derived.ChangeOld
import Derived.Below
namespace Go.Proofs.Ytpplniahjgdknaa.crcEven
open Go.ChangeShapes Go.WideShapes Go.ChangeAt Go.RowKit
open Go.ChangeMaps (open_string shut_string)
set_option linter.unusedVariables false

theorem own : ownKnob Try.prog.godebug = none := by kernel_rfl
theorem laidOut : laidOutB Try.prog = true := by kernel_rfl

/-- WHAT THE WALK IS TOLD OF A SLICE OF INTEGERS THAT CAME IN: it is nil; or it leads to a row of 'cap' cells, the numbers 'zs' (the first 'len' are its elements, the rest its spare room), each fitting its kind. -/
def IsRow (k : IntKind) (w : World) (a : Option Addr) (len cap : Nat) (zs : List Int) : Prop :=
  (a = none ∧ len = 0 ∧ cap = 0 ∧ zs = []) ∨
  ∃ x, a = some x ∧ len ≤ cap ∧ cap ≤ maxLen ∧ zs.length = cap ∧ (∀ i, i < zs.length → w.cell? (x.add i) = some (.int k (zs.getD i 0))) ∧ ∀ n ∈ zs, (Lit.int k n).wf = true

open Gf
set_option linter.unusedSimpArgs false
set_option maxRecDepth 100000 in
set_option maxHeartbeats 2000000 in
theorem walk (a0 : Option Addr) (len0 cap0 : Nat) (z0 : List Int) (a1 : Option Addr) (len1 cap1 : Nat) (z1 : List Int) (w : World) (w0 : IsRow .u8 w a0 len0 cap0 z0) (w1 : IsRow .u8 w a1 len1 cap1 z1) :
    Calls Try.prog 6 #[.slice a0 len0 cap0, .slice a1 len1 cap1] w fun e w' => e = .returned (.bool true) ∧ Below w.heap.size w w' := by
  obtain ⟨La, rfl, Ra⟩ := rd_row w0
  obtain ⟨Lb, rfl, Rb⟩ := rd_row w1
  by_cases hl : La.length ≤ 2000
  · have hl' : ¬ (La.length : Int) > 2000 := by omega
    by_cases heq : La.length = Lb.length
    · have hne : ((La.length : Int) != (Lb.length : Int)) = false := by rw [heq]; simp
      obtain ⟨i0, hi, hz0, hz1, hz2⟩ := info_parts info_u8
      have HE : Hid _ := more_even heq
      have HZ : Hid _ := xk_all heq
      have X1 := u32_xor_nat (more 0 La) (more 0 Lb) (more_lt _ _) (more_lt _ _)
      have X2 := u32_xor_nat (more 0 (List.zipWith (· ^^^ ·) La Lb)) (more 0 (List.replicate La.length 0)) (more_lt _ _) (more_lt _ _)
      rw [← HE.out] at X2
      have HL : Hid (La.length = Lb.length) := heq
      obtain ⟨Lc, hLc⟩ : ∃ Lc, Hid (Lc = List.zipWith (· ^^^ ·) La Lb) := ⟨_, rfl⟩
      obtain ⟨Lz, hLz⟩ : ∃ Lz : List UInt8, Hid (Lz = List.replicate La.length 0) := ⟨_, rfl⟩
      rw [← hLc.out, ← hLz.out] at X2
      rw [← hLc.out] at HZ
      have hlc : Lc.length ≤ 2000 := by rw [hLc.out]; simp; omega
      have hlz : Lz.length ≤ 2000 := by rw [hLz.out]; simp; omega
      have hlb : Lb.length ≤ 2000 := by omega
      clear heq
      go_enter Try.func6, Try.ntmps6
      go_wp2_with fail
      refine (awake4_any _).mono ?_
      rintro e u1 ⟨rfl, b⟩
      have B : Below w.heap.size w u1 := b
      replace Ra := Ra.below b
      replace Rb := Rb.below b
      clear b
      go_wp2_with (at_make; refine wpList_make_full _ rfl (.tmp 22) (.tmp 22) 23 rfl u1.heap.size 5 i0 (.int .u8 0) 1 Try.underlying23 hi hz0 hz1 _ _ _ _ La.length rfl rfl (by omega) (by omega) (by rw [hz2]; omega) (by unfold maxLen; omega) (Nat.le_refl _) ?_; intro u2 hown hgrow; have R2 := RowF.made hown; have B2 : Below u1.heap.size u1 u2 := (Below.refl _ _).grown hgrow (Nat.le_refl _) (fun k h => by cases h); clear hown hgrow)
      go_loopw [7] (fun i wr => ∃ k : Nat, k ≤ La.length ∧ i = .int .i64 k ∧ RowF wr u1.heap.size 5 u1.heap.size La.length La.length (xk La Lb k) ∧ Below u1.heap.size u1 wr) (fun i _ => La.length - (intOf i).toNat)
      case atStart => exact ⟨0, by omega, rfl, R2.congr (fun t _ => (xk_zero _ _ t).symm), B2⟩
      case round =>
        obtain ⟨k, hk, rfl, hR, hB⟩ := hrel
        clear R2 B2
        by_cases hlt : k < La.length
        · have hlt' : (k : Int) < (La.length : Int) := by omega
          have hltb : k < Lb.length := by have := HL.out; omega
          have hltb' : (k : Int) < (Lb.length : Int) := by omega
          rcases Ra with ⟨ao, ca, e1, _⟩ | ⟨ba, oa, ca, e0, e2, e3, e4, e5, hac⟩
          · subst e1; simp at hlt
          rcases Rb with ⟨ao, cb, e1, _⟩ | ⟨bb, ob, cb, f0, f2, f3, f4, f5, hbc⟩
          · subst e1; simp at hltb
          simp at e2 f2
          obtain ⟨rfl, rfl⟩ := e2
          obtain ⟨rfl, rfl⟩ := f2
          have k1 := (hB.cell (p := ⟨ba, oa + k, none⟩) e5).trans (hac k hlt)
          have k2 := (hB.cell (p := ⟨bb, ob + k, none⟩) f5).trans (hbc k hltb)
          have k3 := hR.cell hlt
          have k4 := hR.unfrozen k
          have E := xor_u8 (co La k) (co Lb k)
          have HN : Hid (RowF (wr.setCell ⟨u1.heap.size, k, none⟩ (.int .u8 (((co La k).toNat ^^^ (co Lb k).toNat : Nat) : Int))) u1.heap.size 5 u1.heap.size La.length La.length (xk La Lb (k + 1))) := by
            rw [← UInt8.toNat_xor]; exact hR.store hlt _ (xk_step La Lb k)
          have HB : Hid (Below u1.heap.size u1 (wr.setCell ⟨u1.heap.size, k, none⟩ (.int .u8 (((co La k).toNat ^^^ (co Lb k).toNat : Nat) : Int)))) := hB.setCell (Nat.le_refl _) _
          clear hac hbc hR hB
          go_wp2
          go_region
          all_goals go_wp2
          all_goals
            go_roundw
            case rel => exact ⟨k + 1, by omega, by go_num, HN.out.drew, HB.out.drew⟩
            case measure => simp [intOf]; omega
        · have e : k = La.length := by omega
          have hge : ¬ (k : Int) < (La.length : Int) := by omega
          rw [e] at hR
          have hRd := hR.rd
          rw [HZ.out] at hRd
          replace B := Below.step B hB
          replace Ra := Ra.below hB
          replace Rb := Rb.below hB
          clear hR hB e
          obtain ⟨u3, rfl⟩ : ∃ u3, u3 = wr := ⟨_, rfl⟩
          go_wp2_with (at_make; refine wpList_make_full _ rfl (.tmp 43) (.tmp 43) 23 rfl u3.heap.size 5 i0 (.int .u8 0) 1 Try.underlying23 hi hz0 hz1 _ _ _ _ La.length rfl rfl (by omega) (by omega) (by rw [hz2]; omega) (by unfold maxLen; omega) (Nat.le_refl _) ?_; intro u4 hown hgrow; have R4 := RowF.made hown; have B4 : Below u3.heap.size u3 u4 := (Below.refl _ _).grown hgrow (Nat.le_refl _) (fun k h => by cases h); clear hown hgrow)
          have Rz := R4.rd
          rw [zeros_all, ← hLz.out] at Rz
          replace B := Below.step B B4
          replace Ra := Ra.below B4
          replace Rb := Rb.below B4
          replace hRd := hRd.below B4
          clear R4 B4
          refine (csum_any Ra (by omega)).mono ?_
          rintro e u5 ⟨rfl, b⟩
          replace B := Below.step B b
          replace Rb := Rb.below b
          replace hRd := hRd.below b
          replace Rz := Rz.below b
          clear b Ra
          go_wp2_with fail
          refine (csum_any Rb (by omega)).mono ?_
          rintro e u6 ⟨rfl, b⟩
          replace B := Below.step B b
          replace hRd := hRd.below b
          replace Rz := Rz.below b
          clear b Rb
          go_wp2_with fail
          refine (csum_any hRd (by omega)).mono ?_
          rintro e u7 ⟨rfl, b⟩
          replace B := Below.step B b
          replace Rz := Rz.below b
          clear b hRd
          go_wp2_with fail
          refine (csum_any Rz (by omega)).mono ?_
          rintro e u8 ⟨rfl, b⟩
          replace B := Below.step B b
          clear b Rz
          go_wp2
          go_ret
          exact ⟨rfl, B⟩
    · have hne : ((La.length : Int) != (Lb.length : Int)) = true := by simp; omega
      go_enter Try.func6, Try.ntmps6
      go_wp2_with fail
      refine (awake4_any _).mono ?_
      rintro e u1 ⟨rfl, b⟩
      go_wp2
      go_ret
      exact ⟨rfl, b⟩
  · have hl' : (La.length : Int) > 2000 := by omega
    go_enter Try.func6, Try.ntmps6
    go_wp2_with fail
    refine (awake4_any _).mono ?_
    rintro e u1 ⟨rfl, b⟩
    go_wp2
    go_ret
    exact ⟨rfl, b⟩

/-! ### THE ROW's STEP: WRITTEN OUT: LEAVE IT -/
set_option maxRecDepth 100000 in
theorem lifted (os : Os) (started : os.Started) (H : Type) (enc : TypeId × Value → H) :
    ReturnsInHanded {} Try.checked os 6 .any (Rows.crcEvenSpec.pre6 enc Try.prog Try.f6 Rows.crcEvenRow.domain false) (Rows.crcEvenSpec.post enc Try.prog Try.f6 false true false false) := by
  refine returnsInHanded_of_change (C := Try.checked) own started (by kernel_rfl) Try.func6
    (ChangeSpec.witness6 (enc := enc) (C := Try.checked) false ⟨#[], #[.slice none 0 0, .slice none 0 0], []⟩ 8 (by kernel_rfl) (by kernel_rfl) (by kernel_rfl) (by kernel_rfl)) ?_
  intro W base args ds gs before hval0 hW hcnd _
  have hval : ∀ (j : Nat) t v, Try.f6.params[j]? = some t → args[j]? = some v → Value.okWide Try.prog W .any base t v := hval0
  have hW' := hW
  obtain ⟨p, q, hA0, hV, rfl, hfz, hnd⟩ := hW
  have hA : DataW.TrodAll enc Try.prog W 0 (fun _ => true) true Try.f6.params.toList args.toList ds p := hA0
  rw [Try.params6] at hA hval
  obtain ⟨v0, vs0, d0, ds0, p0, q0, hargs, rfl, rfl, h0, r0⟩ := trodAll_cons hA
  obtain ⟨v1, vs1, d1, ds1, p1, q1, rfl, rfl, rfl, h1, r1⟩ := trodAll_cons r0
  obtain ⟨rfl, rfl, rfl⟩ := trodAll_nil r1
  obtain rfl : args = #[v0, v1] := by cases args; simp_all
  obtain ⟨rfl, rfl⟩ := trodVars_none hV
  obtain ⟨a0, len0, cap0, rfl⟩ := okWide_slice Try.underlying23 (hval 0 23 v0 rfl rfl)
  have k0 := h0
  have lt0 : ∀ x ∈ p0, x.block < W.heap.size := by obtain ⟨m, hm⟩ := k0; exact DataW.trod_lt m _ _ _ hm
  obtain ⟨z0, w0⟩ : ∃ zs, IsRow .u8 W a0 len0 cap0 zs := by
    obtain ⟨fuel, hf⟩ := h0
    rcases open_ints Try.underlying23 Try.underlying5 (by kernel_rfl) hf with ⟨hcs, _⟩ | ⟨x, l, c, zs, hcs, _, hl, hm, hz, _, hcell, hwz⟩
    · simp [Value.cells] at hcs
      obtain ⟨rfl, rfl, rfl⟩ := hcs
      exact ⟨[], .inl ⟨rfl, rfl, rfl, rfl⟩⟩
    · simp [Value.cells] at hcs
      obtain ⟨rfl, rfl, rfl⟩ := hcs
      exact ⟨zs, .inr ⟨_, rfl, hl, hm, by simpa using hz, hcell, hwz⟩⟩
  obtain ⟨a1, len1, cap1, rfl⟩ := okWide_slice Try.underlying23 (hval 1 23 v1 rfl rfl)
  have k1 := h1
  have lt1 : ∀ x ∈ p1, x.block < W.heap.size := by obtain ⟨m, hm⟩ := k1; exact DataW.trod_lt m _ _ _ hm
  obtain ⟨z1, w1⟩ : ∃ zs, IsRow .u8 W a1 len1 cap1 zs := by
    obtain ⟨fuel, hf⟩ := h1
    rcases open_ints Try.underlying23 Try.underlying5 (by kernel_rfl) hf with ⟨hcs, _⟩ | ⟨x, l, c, zs, hcs, _, hl, hm, hz, _, hcell, hwz⟩
    · simp [Value.cells] at hcs
      obtain ⟨rfl, rfl, rfl⟩ := hcs
      exact ⟨[], .inl ⟨rfl, rfl, rfl, rfl⟩⟩
    · simp [Value.cells] at hcs
      obtain ⟨rfl, rfl, rfl⟩ := hcs
      exact ⟨zs, .inr ⟨_, rfl, hl, hm, by simpa using hz, hcell, hwz⟩⟩
  clear hA0 hval0
  refine (walk a0 len0 cap0 z0 a1 len1 cap1 z1 W w0 w1).mono fun e W' ⟨he, bel⟩ => ?_
  subst he
  exact ⟨_, rfl, _, _, _, [], _, [], hW', trodAll_mk1 (shut_bool Try.underlying4 _), (trodAll_cons_mk (Below.trod laidOut (by kernel_rfl) (of_decide_eq_true (by kernel_rfl)) k0 bel lt0) (trodAll_cons_mk (Below.trod laidOut (by kernel_rfl) (of_decide_eq_true (by kernel_rfl)) k1 bel lt1) trodAll_mk0)), rfl, bel.frame _, fun h => by cases h⟩

theorem over : Rows.crcEvenRow.holds Try.pinned (OpenSpec.ofChange Rows.crcEvenSpec) :=
  OpenClaim.holds_of_wide 6 Try.f6 rfl rfl rfl rfl rfl rfl rfl ⟨rfl, rfl, rfl, rfl, rfl⟩ rfl rfl rfl rfl rfl (by kernel_rfl) Try.func6 (by kernel_rfl)
    (of_decide_eq_true (by kernel_rfl)) (by unfold Func.isWrapper; first | (rw [if_pos (by decide +kernel)]; kernel_rfl) | (rw [if_neg (by decide +kernel)]; exact ⟨rfl, rfl⟩))
    (fun os started H enc _ => lifted os started H enc)

/-- ████ THE STATEMENT ████ -/
theorem proved : Rows.CrcEvenSaid := over
end Go.Proofs.Ytpplniahjgdknaa.crcEven
namespace Go.Proofs.Ytpplniahjgdknaa
theorem crcEven_holds : Rows.CrcEvenSaid := crcEven.proved
#print axioms crcEven_holds
end Go.Proofs.Ytpplniahjgdknaa
