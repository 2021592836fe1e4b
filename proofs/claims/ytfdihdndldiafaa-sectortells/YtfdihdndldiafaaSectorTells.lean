/- PROVED: for all numbers addr, epoch and at, every list data of bytes and every byte by the call SectorTells(addr, epoch, data, at, by) returns true, and its arguments read behind it as before; no conditions. -/
import Derived.Test.YtfdihdndldiafaaRows
import Derived.Test.YtfdihdndldiafaaTome4
import Derived.WalkKit
import Derived.ProofKit
import Derived.OpenShut
import Derived.ShutString
import Derived.ChangeOld
import Derived.Below
namespace Go.Proofs.Ytfdihdndldiafaa.sectorTells
open Go.ChangeShapes Go.WideShapes Go.ChangeAt Go.RowKit
open Go.ChangeMaps (open_string shut_string)
set_option linter.unusedVariables false

theorem own : ownKnob Try.prog.godebug = none := by kernel_rfl
theorem laidOut : laidOutB Try.prog = true := by kernel_rfl

/-- WHAT THE WALK IS TOLD OF A SLICE OF INTEGERS THAT CAME IN: it is nil; or it leads to a row of 'cap' cells, the numbers 'zs' (the first 'len' are its elements, the rest its spare room), each fitting its kind. -/
def IsRow (k : IntKind) (w : World) (a : Option Addr) (len cap : Nat) (zs : List Int) : Prop :=
  (a = none ∧ len = 0 ∧ cap = 0 ∧ zs = []) ∨
  ∃ x, a = some x ∧ len ≤ cap ∧ cap ≤ maxLen ∧ zs.length = cap ∧ (∀ i, i < zs.length → w.cell? (x.add i) = some (.int k (zs.getD i 0))) ∧ ∀ n ∈ zs, (Lit.int k n).wf = true

open Gf
set_option linter.unusedSimpArgs false
set_option maxRecDepth 100000 in
set_option maxHeartbeats 4000000 in
theorem walk (a0 : Int) (a1 : Int) (a2 : Option Addr) (len2 cap2 : Nat) (z2 : List Int) (a3 : Int) (a4 : Int) (w : World) (w0 : (Lit.int .i64 a0).wf = true) (w1 : (Lit.int .i64 a1).wf = true) (w2 : IsRow .u8 w a2 len2 cap2 z2) (w3 : (Lit.int .i64 a3).wf = true) (w4 : (Lit.int .u8 a4).wf = true) :
    Calls Try.prog 6 #[.int .i64 a0, .int .i64 a1, .slice a2 len2 cap2, .int .i64 a3, .int .u8 a4] w fun e w' => e = .returned (.bool true) ∧ Below w.heap.size w w' := by
  obtain ⟨P, rfl, R2⟩ := rd_row w2
  obtain ⟨y, rfl⟩ := u8_nat w4
  have hb3 := bounds_i64 w3
  by_cases ho : OkS a0 a1 P.length
  · have px := pa_ok ho
    obtain ⟨L, hL⟩ : ∃ L, Hid (L = pkS a0.toNat a1.toNat P) := ⟨_, rfl⟩
    have HT : Hid (∀ t, t < L.length → ∀ y, y ≠ co L t → ¬ OkU a0 (L.set t y)) := by intro t ht z hz; rw [hL.out] at ht hz ⊢; exact pk_tells ho ht hz
    have hLl : Hid (L.length = P.length + 12) := by show _ = _; rw [hL.out, pk_length]
    rw [← hL.out] at px
    clear hL
    by_cases hl : P.length ≤ 3000
    · have hl' : ¬ (P.length : Int) > 3000 := by omega
      have hn0 : 0 < L.length := by have := hLl.out; omega
      have hn5 : L.length ≤ 5000 := by have := hLl.out; omega
      have hz' : ((L.length : Int) == 0) = false := by rw [beq_eq_false_iff_ne]; omega
      by_cases hy : y = 0
      · subst hy
        go_enter Try.func6, Try.ntmps6
        go_wp2_with fail
        refine (awake11_any _).mono ?_
        rintro e u1 ⟨rfl, b⟩
        replace R2 := R2.below b
        have B : Below w.heap.size w u1 := b
        clear b
        go_wp2_with fail
        refine (spack_any R2).mono ?_
        rintro e u2 ⟨v2, rfl, R, b⟩
        clear R2
        replace B := Below.step B b
        clear b
        rw [px.1]
        rw [px.2] at R
        obtain ⟨k1, k2, rfl⟩ := R.form
        clear R HT
        go_wp2
        go_ret
        exact ⟨rfl, by first | exact B | exact Below.drawsS B _ | exact Below.drawsS B0 _⟩
      · have hy' : (((y.toNat : Nat) : Int) == 0) = false := by rw [eq_u8_zero]; exact decide_eq_false hy
        obtain ⟨i0, hi, hz0, hz1, hz2⟩ := info_parts info_u8
        have E : ∀ t, bits .xor .u8 (((co L t).toNat : Nat) : Int) ((y.toNat : Nat) : Int) = (((co L t ^^^ y).toNat : Nat) : Int) := fun t => xor_u8 _ _
        by_cases hneg : 0 ≤ a3
        · obtain ⟨x, rfl⟩ := Int.eq_ofNat_of_zero_le hneg
          obtain ⟨t, et⟩ : ∃ t, Hid (t = x % L.length) := ⟨_, rfl⟩
          have ht : t < L.length := by rw [et.out]; exact Nat.mod_lt _ hn0
          have g0 : (x : Int) % (L.length : Int) = (t : Int) := by rw [et.out]; omega
          have HD : Hid (upX a0 (L.set t (co L t ^^^ y)) = 110) := (up_not (HT.out t ht _ (xor_ne (a := co L t) hy))).1
          have E' := E t
          have ht' : (t : Int) < (L.length : Int) := by omega
          clear E HT et
          go_enter Try.func6, Try.ntmps6
          go_wp2_with fail
          refine (awake11_any _).mono ?_
          rintro e u1 ⟨rfl, b⟩
          replace R2 := R2.below b
          have B : Below w.heap.size w u1 := b
          clear b
          go_wp2_with fail
          refine (spack_any R2).mono ?_
          rintro e u2 ⟨v2, rfl, R, b⟩
          clear R2
          replace B := Below.step B b
          clear b
          rw [px.1]
          rw [px.2] at R
          obtain ⟨k1, k2, rfl⟩ := R.form
          have R1 := R.below ((Below.refl u2.heap.size u2).alloc (Nat.le_refl _) (.cells #[] 5))
          go_wp2_with (at_builtin; refine wpList_append_rd _ rfl (.tmp 52) (.tmp 53) 23 rfl u2.heap.size 5 i0 Try.underlying23 hi hz0 hz1 hz2 (.slice (some ⟨u2.heap.size, 0, none⟩) 0 0) 0 [] rfl (own_new _ _) _ L rfl R1 (by omega) (by simp) ?_; intro v3 u3 hv1 hg1; rw [own_block] at hg1; have B1 := below_new hg1; rw [Nat.zero_add, List.nil_append] at hv1; obtain ⟨g, C, rfl, Rw⟩ := RowF.of hv1 hn0; have c1 := Rw.cell ht; have f1 := Rw.unfrozen t; clear hg1 hv1)
          have HN : Hid (Rd (u3.setCell ⟨g, t, none⟩ (.int .u8 (((co L t).toNat ^^^ y.toNat : Nat) : Int))) (.slice (some ⟨g, 0, none⟩) L.length C) (L.set t (co L t ^^^ y))) := by
            have h := (Rw.store (f' := fun i => if i = t then co L t ^^^ y else co L i) ht (co L t ^^^ y) (fun _ => rfl)).rd
            rw [upto_co_set ht, UInt8.toNat_xor] at h
            exact h
          have B2 : Below u2.heap.size u2 (u3.setCell ⟨g, t, none⟩ (.int .u8 (((co L t).toNat ^^^ y.toNat : Nat) : Int))) := B1.setCell Rw.lt.1 _
          have Rs := HN.out
          replace B := Below.step B B2
          generalize u3.setCell ⟨g, t, none⟩ (.int .u8 (((co L t).toNat ^^^ y.toNat : Nat) : Int)) = u4 at *
          clear HN B1 Rw c1 f1 R1 B2 R
          refine (sunpack_any Rs (by rw [List.length_set]; omega)).mono ?_
          rintro e u5 ⟨v5, rfl, R5, b⟩
          replace B := Below.step B b
          rw [HD.out]
          clear b Rs R5
          go_wp2
          go_ret
          exact ⟨rfl, by first | exact B | exact Below.drawsS B _ | exact Below.drawsS B0 _⟩
        · obtain ⟨x, hx⟩ : ∃ x : Nat, a3 = -(x : Int) - 1 := ⟨(-a3 - 1).toNat, by omega⟩
          subst hx
          have hneg' : -(x : Int) - 1 < 0 := by omega
          obtain ⟨t, et⟩ : ∃ t, Hid (t = x % L.length) := ⟨_, rfl⟩
          have ht : t < L.length := by rw [et.out]; exact Nat.mod_lt _ hn0
          have g0 : (x : Int) % (L.length : Int) = (t : Int) := by rw [et.out]; omega
          have HD : Hid (upX a0 (L.set t (co L t ^^^ y)) = 110) := (up_not (HT.out t ht _ (xor_ne (a := co L t) hy))).1
          have E' := E t
          have ht' : (t : Int) < (L.length : Int) := by omega
          clear E HT et
          go_enter Try.func6, Try.ntmps6
          go_wp2_with fail
          refine (awake11_any _).mono ?_
          rintro e u1 ⟨rfl, b⟩
          replace R2 := R2.below b
          have B : Below w.heap.size w u1 := b
          clear b
          go_wp2_with fail
          refine (spack_any R2).mono ?_
          rintro e u2 ⟨v2, rfl, R, b⟩
          clear R2
          replace B := Below.step B b
          clear b
          rw [px.1]
          rw [px.2] at R
          obtain ⟨k1, k2, rfl⟩ := R.form
          have R1 := R.below ((Below.refl u2.heap.size u2).alloc (Nat.le_refl _) (.cells #[] 5))
          go_wp2_with (at_builtin; refine wpList_append_rd _ rfl (.tmp 52) (.tmp 53) 23 rfl u2.heap.size 5 i0 Try.underlying23 hi hz0 hz1 hz2 (.slice (some ⟨u2.heap.size, 0, none⟩) 0 0) 0 [] rfl (own_new _ _) _ L rfl R1 (by omega) (by simp) ?_; intro v3 u3 hv1 hg1; rw [own_block] at hg1; have B1 := below_new hg1; rw [Nat.zero_add, List.nil_append] at hv1; obtain ⟨g, C, rfl, Rw⟩ := RowF.of hv1 hn0; have c1 := Rw.cell ht; have f1 := Rw.unfrozen t; clear hg1 hv1)
          have HN : Hid (Rd (u3.setCell ⟨g, t, none⟩ (.int .u8 (((co L t).toNat ^^^ y.toNat : Nat) : Int))) (.slice (some ⟨g, 0, none⟩) L.length C) (L.set t (co L t ^^^ y))) := by
            have h := (Rw.store (f' := fun i => if i = t then co L t ^^^ y else co L i) ht (co L t ^^^ y) (fun _ => rfl)).rd
            rw [upto_co_set ht, UInt8.toNat_xor] at h
            exact h
          have B2 : Below u2.heap.size u2 (u3.setCell ⟨g, t, none⟩ (.int .u8 (((co L t).toNat ^^^ y.toNat : Nat) : Int))) := B1.setCell Rw.lt.1 _
          have Rs := HN.out
          replace B := Below.step B B2
          generalize u3.setCell ⟨g, t, none⟩ (.int .u8 (((co L t).toNat ^^^ y.toNat : Nat) : Int)) = u4 at *
          clear HN B1 Rw c1 f1 R1 B2 R
          refine (sunpack_any Rs (by rw [List.length_set]; omega)).mono ?_
          rintro e u5 ⟨v5, rfl, R5, b⟩
          replace B := Below.step B b
          rw [HD.out]
          clear b Rs R5
          go_wp2
          go_ret
          exact ⟨rfl, by first | exact B | exact Below.drawsS B _ | exact Below.drawsS B0 _⟩
    · have hl' : (P.length : Int) > 3000 := by omega
      clear HT hLl
      go_enter Try.func6, Try.ntmps6
      go_wp2_with fail
      refine (awake11_any _).mono ?_
      rintro e u1 ⟨rfl, b⟩
      replace R2 := R2.below b
      have B : Below w.heap.size w u1 := b
      clear b
      go_wp2_with fail
      refine (spack_any R2).mono ?_
      rintro e u2 ⟨v2, rfl, R, b⟩
      clear R2
      replace B := Below.step B b
      clear b
      rw [px.1]
      rw [px.2] at R
      obtain ⟨k1, k2, rfl⟩ := R.form
      clear R
      go_wp2
      go_ret
      exact ⟨rfl, by first | exact B | exact Below.drawsS B _ | exact Below.drawsS B0 _⟩
  · have px := pa_not ho
    go_enter Try.func6, Try.ntmps6
    go_wp2_with fail
    refine (awake11_any _).mono ?_
    rintro e u1 ⟨rfl, b⟩
    replace R2 := R2.below b
    have B : Below w.heap.size w u1 := b
    clear b
    go_wp2_with fail
    refine (spack_any R2).mono ?_
    rintro e u2 ⟨v2, rfl, R, b⟩
    clear R2
    replace B := Below.step B b
    clear b
    rw [px.1]
    clear R
    go_wp2
    go_ret
    exact ⟨rfl, by first | exact B | exact Below.drawsS B _ | exact Below.drawsS B0 _⟩

/-! ### THE ROW's STEP: WRITTEN OUT: LEAVE IT -/
set_option maxRecDepth 100000 in
theorem lifted (os : Os) (started : os.Started) (H : Type) (enc : TypeId × Value → H) :
    ReturnsInHanded {} Try.checked os 6 .any (Rows.sectorTellsSpec.pre6 enc Try.prog Try.f6 Rows.sectorTellsRow.domain false) (Rows.sectorTellsSpec.post enc Try.prog Try.f6 false true false false) := by
  refine returnsInHanded_of_change (C := Try.checked) own started (by kernel_rfl) Try.func6
    (ChangeSpec.witness6 (enc := enc) (C := Try.checked) false ⟨#[], #[.int .i64 0, .int .i64 0, .slice none 0 0, .int .i64 0, .int .u8 0], []⟩ 8 (by kernel_rfl) (by kernel_rfl) (by kernel_rfl) (by kernel_rfl)) ?_
  intro W base args ds gs before hval0 hW hcnd _
  have hval : ∀ (j : Nat) t v, Try.f6.params[j]? = some t → args[j]? = some v → Value.okWide Try.prog W .any base t v := hval0
  have hW' := hW
  obtain ⟨p, q, hA0, hV, rfl, hfz, hnd⟩ := hW
  have hA : DataW.TrodAll enc Try.prog W 0 (fun _ => true) true Try.f6.params.toList args.toList ds p := hA0
  rw [Try.params6] at hA hval
  obtain ⟨v0, vs0, d0, ds0, p0, q0, hargs, rfl, rfl, h0, r0⟩ := trodAll_cons hA
  obtain ⟨v1, vs1, d1, ds1, p1, q1, rfl, rfl, rfl, h1, r1⟩ := trodAll_cons r0
  obtain ⟨v2, vs2, d2, ds2, p2, q2, rfl, rfl, rfl, h2, r2⟩ := trodAll_cons r1
  obtain ⟨v3, vs3, d3, ds3, p3, q3, rfl, rfl, rfl, h3, r3⟩ := trodAll_cons r2
  obtain ⟨v4, vs4, d4, ds4, p4, q4, rfl, rfl, rfl, h4, r4⟩ := trodAll_cons r3
  obtain ⟨rfl, rfl, rfl⟩ := trodAll_nil r4
  obtain rfl : args = #[v0, v1, v2, v3, v4] := by cases args; simp_all
  obtain ⟨rfl, rfl⟩ := trodVars_none hV
  obtain ⟨a0, rfl, rfl, rfl, w0⟩ := open_int Try.underlying3 (hval 0 3 v0 rfl rfl) h0
  obtain ⟨a1, rfl, rfl, rfl, w1⟩ := open_int Try.underlying3 (hval 1 3 v1 rfl rfl) h1
  obtain ⟨a2, len2, cap2, rfl⟩ := okWide_slice Try.underlying23 (hval 2 23 v2 rfl rfl)
  have k2 := h2
  have lt2 : ∀ x ∈ p2, x.block < W.heap.size := by obtain ⟨m, hm⟩ := k2; exact DataW.trod_lt m _ _ _ hm
  obtain ⟨z2, w2⟩ : ∃ zs, IsRow .u8 W a2 len2 cap2 zs := by
    obtain ⟨fuel, hf⟩ := h2
    rcases open_ints Try.underlying23 Try.underlying5 (by kernel_rfl) hf with ⟨hcs, _⟩ | ⟨x, l, c, zs, hcs, _, hl, hm, hz, _, hcell, hwz⟩
    · simp [Value.cells] at hcs
      obtain ⟨rfl, rfl, rfl⟩ := hcs
      exact ⟨[], .inl ⟨rfl, rfl, rfl, rfl⟩⟩
    · simp [Value.cells] at hcs
      obtain ⟨rfl, rfl, rfl⟩ := hcs
      exact ⟨zs, .inr ⟨_, rfl, hl, hm, by simpa using hz, hcell, hwz⟩⟩
  obtain ⟨a3, rfl, rfl, rfl, w3⟩ := open_int Try.underlying3 (hval 3 3 v3 rfl rfl) h3
  obtain ⟨a4, rfl, rfl, rfl, w4⟩ := open_int Try.underlying5 (hval 4 5 v4 rfl rfl) h4
  clear hA0 hval0
  refine (walk a0 a1 a2 len2 cap2 z2 a3 a4 W w0 w1 w2 w3 w4).mono fun e W' ⟨he, bel⟩ => ?_
  subst he
  exact ⟨_, rfl, _, _, _, [], _, [], hW', trodAll_mk1 (shut_bool Try.underlying4 _), (trodAll_cons_mk (shut_int Try.underlying3 w0) (trodAll_cons_mk (shut_int Try.underlying3 w1) (trodAll_cons_mk (Below.trod laidOut (by kernel_rfl) (of_decide_eq_true (by kernel_rfl)) k2 bel lt2) (trodAll_cons_mk (shut_int Try.underlying3 w3) (trodAll_cons_mk (shut_int Try.underlying5 w4) trodAll_mk0))))), rfl, bel.frame _, fun h => by cases h⟩

theorem over : Rows.sectorTellsRow.holds Try.pinned (OpenSpec.ofChange Rows.sectorTellsSpec) :=
  OpenClaim.holds_of_wide 6 Try.f6 rfl rfl rfl rfl rfl rfl rfl ⟨rfl, rfl, rfl, rfl, rfl⟩ rfl rfl rfl rfl rfl (by kernel_rfl) Try.func6 (by kernel_rfl)
    (of_decide_eq_true (by kernel_rfl)) (by unfold Func.isWrapper; first | (rw [if_pos (by decide +kernel)]; kernel_rfl) | (rw [if_neg (by decide +kernel)]; exact ⟨rfl, rfl⟩))
    (fun os started H enc _ => lifted os started H enc)

/-- ████ THE STATEMENT ████ -/
theorem proved : Rows.SectorTellsSaid := over
end Go.Proofs.Ytfdihdndldiafaa.sectorTells
namespace Go.Proofs.Ytfdihdndldiafaa
theorem sectorTells_holds : Rows.SectorTellsSaid := sectorTells.proved
#print axioms sectorTells_holds
end Go.Proofs.Ytfdihdndldiafaa
