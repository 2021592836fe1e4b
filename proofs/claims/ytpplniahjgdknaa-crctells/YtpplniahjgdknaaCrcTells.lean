/- PROVED: for every list b of bytes, every number at and every byte by the call CrcTells(b, at, by) returns true, and its arguments read behind it as before; no conditions. -/
import Derived.Test.YtpplniahjgdknaaRows
import Derived.Test.YtpplniahjgdknaaCrLaws
import Derived.WalkKit
import Derived.ProofKit
import Derived.OpenShut
import Derived.ShutString
import Derived.ChangeOld
import Derived.Below
namespace Go.Proofs.Ytpplniahjgdknaa.crcTells
open Go.ChangeShapes Go.WideShapes Go.ChangeAt Go.RowKit
open Go.ChangeMaps (open_string shut_string)
set_option linter.unusedVariables false

theorem own : ownKnob Try.prog.godebug = none := by kernel_rfl
theorem laidOut : laidOutB Try.prog = true := by kernel_rfl

/-- WHAT THE WALK IS TOLD OF A SLICE OF INTEGERS THAT CAME IN: it is nil; or it leads to a row of 'cap' cells, the numbers 'zs' (the first 'len' are its elements, the rest its spare room), each fitting its kind. -/
def IsRow (k : IntKind) (w : World) (a : Option Addr) (len cap : Nat) (zs : List Int) : Prop :=
  (a = none ∧ len = 0 ∧ cap = 0 ∧ zs = []) ∨
  ∃ x, a = some x ∧ len ≤ cap ∧ cap ≤ maxLen ∧ zs.length = cap ∧ (∀ i, i < zs.length → w.cell? (x.add i) = some (.int k (zs.getD i 0))) ∧ ∀ n ∈ zs, (Lit.int k n).wf = true

open Gf
set_option linter.unusedSimpArgs false
set_option maxRecDepth 100000 in
set_option maxHeartbeats 2000000 in
theorem walk (a0 : Option Addr) (len0 cap0 : Nat) (z0 : List Int) (a1 : Int) (a2 : Int) (w : World) (w0 : IsRow .u8 w a0 len0 cap0 z0) (w1 : (Lit.int .i64 a1).wf = true) (w2 : (Lit.int .u8 a2).wf = true) :
    Calls Try.prog 5 #[.slice a0 len0 cap0, .int .i64 a1, .int .u8 a2] w fun e w' => e = .returned (.bool true) ∧ Below w.heap.size w w' := by
  obtain ⟨L, rfl, R⟩ := rd_row w0
  obtain ⟨y, rfl⟩ := u8_nat w2
  have hb1 := bounds_i64 w1
  by_cases hl : L.length ≤ 2000
  · have hl' : ¬ (L.length : Int) > 2000 := by omega
    by_cases hn0 : 0 < L.length
    · have hz' : ((L.length : Int) == 0) = false := by rw [beq_eq_false_iff_ne]; omega
      by_cases hy : y = 0
      · subst hy
        go_enter Try.func5, Try.ntmps5
        go_wp2_with fail
        refine (awake4_any _).mono ?_
        rintro e u1 ⟨rfl, b⟩
        go_wp2
        go_ret
        exact ⟨rfl, b⟩
      · have hy' : (((y.toNat : Nat) : Int) == 0) = false := by rw [eq_u8_zero]; exact decide_eq_false hy
        obtain ⟨i0, hi, hz0, hz1, hz2⟩ := info_parts info_u8
        have E : ∀ t, bits .xor .u8 (((co L t).toNat : Nat) : Int) ((y.toNat : Nat) : Int) = (((co L t ^^^ y).toNat : Nat) : Int) := fun t => xor_u8 _ _
        by_cases hneg : 0 ≤ a1
        · obtain ⟨x, rfl⟩ := Int.eq_ofNat_of_zero_le hneg
          obtain ⟨t, et⟩ : ∃ t, Hid (t = x % L.length) := ⟨_, rfl⟩
          have ht : t < L.length := by rw [et.out]; exact Nat.mod_lt _ hn0
          have g0 : (x : Int) % (L.length : Int) = (t : Int) := by rw [et.out]; omega
          have HD : Hid ((((more 0 (L.set t (co L t ^^^ y)) : Nat) : Int) != ((more 0 L : Nat) : Int)) = true) := by
            show _ = _
            have := tells_set ht (xor_ne (a := co L t) hy)
            simp only [bne_iff_ne, ne_eq]; omega
          have E' := E t
          clear E
          have ht' : (t : Int) < (L.length : Int) := by omega
          go_enter Try.func5, Try.ntmps5
          go_wp2_with fail
          refine (awake4_any _).mono ?_
          rintro e u1 ⟨rfl, b⟩
          have B : Below w.heap.size w u1 := b
          replace R := R.below b
          clear b
          have R1 := R.below ((Below.refl u1.heap.size u1).alloc (Nat.le_refl _) (.cells #[] 5))
          go_wp2_with (at_builtin; refine wpList_append_rd _ rfl (.tmp 32) (.tmp 33) 23 rfl u1.heap.size 5 i0 Try.underlying23 hi hz0 hz1 hz2 (.slice (some ⟨u1.heap.size, 0, none⟩) 0 0) 0 [] rfl (own_new _ _) _ L rfl R1 (by omega) (by simp) ?_; intro v1 u2 hv1 hg1; rw [own_block] at hg1; have B1 := below_new hg1; rw [Nat.zero_add, List.nil_append] at hv1; obtain ⟨g, C, rfl, Rw⟩ := RowF.of hv1 hn0; have c1 := Rw.cell ht; have f1 := Rw.unfrozen t; clear hg1 hv1)
          have HN : Hid (Rd (u2.setCell ⟨g, t, none⟩ (.int .u8 (((co L t).toNat ^^^ y.toNat : Nat) : Int))) (.slice (some ⟨g, 0, none⟩) L.length C) (L.set t (co L t ^^^ y))) := by
            have h := (Rw.store (f' := fun i => if i = t then co L t ^^^ y else co L i) ht (co L t ^^^ y) (fun _ => rfl)).rd
            rw [upto_co_set ht, UInt8.toNat_xor] at h
            exact h
          have B2 : Below u1.heap.size u1 (u2.setCell ⟨g, t, none⟩ (.int .u8 (((co L t).toNat ^^^ y.toNat : Nat) : Int))) := B1.setCell Rw.lt.1 _
          have Rs := HN.out
          replace B := Below.step B B2
          replace R := R.below B2
          generalize u2.setCell ⟨g, t, none⟩ (.int .u8 (((co L t).toNat ^^^ y.toNat : Nat) : Int)) = u3 at *
          clear HN B1 Rw c1 f1 R1 B2
          refine (csum_any Rs (by rw [List.length_set]; omega)).mono ?_
          rintro e u4 ⟨rfl, b⟩
          replace B := Below.step B b
          replace R := R.below b
          clear b Rs
          go_wp2_with fail
          refine (csum_any R (by omega)).mono ?_
          rintro e u5 ⟨rfl, b⟩
          replace B := Below.step B b
          clear b
          have hne := HD.out
          go_wp2
          go_ret
          exact ⟨rfl, B⟩
        · obtain ⟨x, hx⟩ : ∃ x : Nat, a1 = -(x : Int) - 1 := ⟨(-a1 - 1).toNat, by omega⟩
          subst hx
          have hneg' : -(x : Int) - 1 < 0 := by omega
          obtain ⟨t, et⟩ : ∃ t, Hid (t = x % L.length) := ⟨_, rfl⟩
          have ht : t < L.length := by rw [et.out]; exact Nat.mod_lt _ hn0
          have g0 : (x : Int) % (L.length : Int) = (t : Int) := by rw [et.out]; omega
          have HD : Hid ((((more 0 (L.set t (co L t ^^^ y)) : Nat) : Int) != ((more 0 L : Nat) : Int)) = true) := by
            show _ = _
            have := tells_set ht (xor_ne (a := co L t) hy)
            simp only [bne_iff_ne, ne_eq]; omega
          have E' := E t
          clear E
          have ht' : (t : Int) < (L.length : Int) := by omega
          go_enter Try.func5, Try.ntmps5
          go_wp2_with fail
          refine (awake4_any _).mono ?_
          rintro e u1 ⟨rfl, b⟩
          have B : Below w.heap.size w u1 := b
          replace R := R.below b
          clear b
          have R1 := R.below ((Below.refl u1.heap.size u1).alloc (Nat.le_refl _) (.cells #[] 5))
          go_wp2_with (at_builtin; refine wpList_append_rd _ rfl (.tmp 32) (.tmp 33) 23 rfl u1.heap.size 5 i0 Try.underlying23 hi hz0 hz1 hz2 (.slice (some ⟨u1.heap.size, 0, none⟩) 0 0) 0 [] rfl (own_new _ _) _ L rfl R1 (by omega) (by simp) ?_; intro v1 u2 hv1 hg1; rw [own_block] at hg1; have B1 := below_new hg1; rw [Nat.zero_add, List.nil_append] at hv1; obtain ⟨g, C, rfl, Rw⟩ := RowF.of hv1 hn0; have c1 := Rw.cell ht; have f1 := Rw.unfrozen t; clear hg1 hv1)
          have HN : Hid (Rd (u2.setCell ⟨g, t, none⟩ (.int .u8 (((co L t).toNat ^^^ y.toNat : Nat) : Int))) (.slice (some ⟨g, 0, none⟩) L.length C) (L.set t (co L t ^^^ y))) := by
            have h := (Rw.store (f' := fun i => if i = t then co L t ^^^ y else co L i) ht (co L t ^^^ y) (fun _ => rfl)).rd
            rw [upto_co_set ht, UInt8.toNat_xor] at h
            exact h
          have B2 : Below u1.heap.size u1 (u2.setCell ⟨g, t, none⟩ (.int .u8 (((co L t).toNat ^^^ y.toNat : Nat) : Int))) := B1.setCell Rw.lt.1 _
          have Rs := HN.out
          replace B := Below.step B B2
          replace R := R.below B2
          generalize u2.setCell ⟨g, t, none⟩ (.int .u8 (((co L t).toNat ^^^ y.toNat : Nat) : Int)) = u3 at *
          clear HN B1 Rw c1 f1 R1 B2
          refine (csum_any Rs (by rw [List.length_set]; omega)).mono ?_
          rintro e u4 ⟨rfl, b⟩
          replace B := Below.step B b
          replace R := R.below b
          clear b Rs
          go_wp2_with fail
          refine (csum_any R (by omega)).mono ?_
          rintro e u5 ⟨rfl, b⟩
          replace B := Below.step B b
          clear b
          have hne := HD.out
          go_wp2
          go_ret
          exact ⟨rfl, B⟩
    · have e0 : L = [] := List.length_eq_zero_iff.1 (by omega)
      subst e0
      go_enter Try.func5, Try.ntmps5
      go_wp2_with fail
      refine (awake4_any _).mono ?_
      rintro e u1 ⟨rfl, b⟩
      go_wp2
      go_ret
      exact ⟨rfl, b⟩
  · have hl' : (L.length : Int) > 2000 := by omega
    go_enter Try.func5, Try.ntmps5
    go_wp2_with fail
    refine (awake4_any _).mono ?_
    rintro e u1 ⟨rfl, b⟩
    go_wp2
    go_ret
    exact ⟨rfl, b⟩

/-! ### THE ROW's STEP: WRITTEN OUT: LEAVE IT -/
set_option maxRecDepth 100000 in
theorem lifted (os : Os) (started : os.Started) (H : Type) (enc : TypeId × Value → H) :
    ReturnsInHanded {} Try.checked os 5 .any (Rows.crcTellsSpec.pre6 enc Try.prog Try.f5 Rows.crcTellsRow.domain false) (Rows.crcTellsSpec.post enc Try.prog Try.f5 false true false false) := by
  refine returnsInHanded_of_change (C := Try.checked) own started (by kernel_rfl) Try.func5
    (ChangeSpec.witness6 (enc := enc) (C := Try.checked) false ⟨#[], #[.slice none 0 0, .int .i64 0, .int .u8 0], []⟩ 8 (by kernel_rfl) (by kernel_rfl) (by kernel_rfl) (by kernel_rfl)) ?_
  intro W base args ds gs before hval0 hW hcnd _
  have hval : ∀ (j : Nat) t v, Try.f5.params[j]? = some t → args[j]? = some v → Value.okWide Try.prog W .any base t v := hval0
  have hW' := hW
  obtain ⟨p, q, hA0, hV, rfl, hfz, hnd⟩ := hW
  have hA : DataW.TrodAll enc Try.prog W 0 (fun _ => true) true Try.f5.params.toList args.toList ds p := hA0
  rw [Try.params5] at hA hval
  obtain ⟨v0, vs0, d0, ds0, p0, q0, hargs, rfl, rfl, h0, r0⟩ := trodAll_cons hA
  obtain ⟨v1, vs1, d1, ds1, p1, q1, rfl, rfl, rfl, h1, r1⟩ := trodAll_cons r0
  obtain ⟨v2, vs2, d2, ds2, p2, q2, rfl, rfl, rfl, h2, r2⟩ := trodAll_cons r1
  obtain ⟨rfl, rfl, rfl⟩ := trodAll_nil r2
  obtain rfl : args = #[v0, v1, v2] := by cases args; simp_all
  obtain ⟨rfl, rfl⟩ := trodVars_none hV
  obtain ⟨a0, len0, cap0, rfl⟩ := okWide_slice Try.underlying23 (hval 0 23 v0 rfl rfl)
  have k0 := h0
  have lt0 : ∀ x ∈ p0, x.block < W.heap.size := by obtain ⟨m, hm⟩ := k0; exact DataW.trod_lt m _ _ _ hm
  obtain ⟨z0, w0⟩ : ∃ zs, IsRow .u8 W a0 len0 cap0 zs := by
    obtain ⟨fuel, hf⟩ := h0
    rcases open_ints Try.underlying23 Try.underlying5 (by kernel_rfl) hf with ⟨hcs, _⟩ | ⟨x, l, c, zs, hcs, _, hl, hm, hz, _, hcell, hwz⟩
    · simp [Value.cells] at hcs
      obtain ⟨rfl, rfl, rfl⟩ := hcs
      exact ⟨[], .inl ⟨rfl, rfl, rfl, rfl⟩⟩
    · simp [Value.cells] at hcs
      obtain ⟨rfl, rfl, rfl⟩ := hcs
      exact ⟨zs, .inr ⟨_, rfl, hl, hm, by simpa using hz, hcell, hwz⟩⟩
  obtain ⟨a1, rfl, rfl, rfl, w1⟩ := open_int Try.underlying3 (hval 1 3 v1 rfl rfl) h1
  obtain ⟨a2, rfl, rfl, rfl, w2⟩ := open_int Try.underlying5 (hval 2 5 v2 rfl rfl) h2
  clear hA0 hval0
  refine (walk a0 len0 cap0 z0 a1 a2 W w0 w1 w2).mono fun e W' ⟨he, bel⟩ => ?_
  subst he
  exact ⟨_, rfl, _, _, _, [], _, [], hW', trodAll_mk1 (shut_bool Try.underlying4 _), (trodAll_cons_mk (Below.trod laidOut (by kernel_rfl) (of_decide_eq_true (by kernel_rfl)) k0 bel lt0) (trodAll_cons_mk (shut_int Try.underlying3 w1) (trodAll_cons_mk (shut_int Try.underlying5 w2) trodAll_mk0))), rfl, bel.frame _, fun h => by cases h⟩

theorem over : Rows.crcTellsRow.holds Try.pinned (OpenSpec.ofChange Rows.crcTellsSpec) :=
  OpenClaim.holds_of_wide 5 Try.f5 rfl rfl rfl rfl rfl rfl rfl ⟨rfl, rfl, rfl, rfl, rfl⟩ rfl rfl rfl rfl rfl (by kernel_rfl) Try.func5 (by kernel_rfl)
    (of_decide_eq_true (by kernel_rfl)) (by unfold Func.isWrapper; first | (rw [if_pos (by decide +kernel)]; kernel_rfl) | (rw [if_neg (by decide +kernel)]; exact ⟨rfl, rfl⟩))
    (fun os started H enc _ => lifted os started H enc)

/-- ████ THE STATEMENT ████ -/
theorem proved : Rows.CrcTellsSaid := over
end Go.Proofs.Ytpplniahjgdknaa.crcTells
namespace Go.Proofs.Ytpplniahjgdknaa
theorem crcTells_holds : Rows.CrcTellsSaid := crcTells.proved
#print axioms crcTells_holds
end Go.Proofs.Ytpplniahjgdknaa
