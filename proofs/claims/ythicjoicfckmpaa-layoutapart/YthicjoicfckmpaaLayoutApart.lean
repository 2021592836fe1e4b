/- PROVED: for every geometry g the call LayoutApart(g) returns true; no conditions. -/
import Derived.Test.YthicjoicfckmpaaRows
import Derived.Test.YthicjoicfckmpaaTome3
import Derived.Test.YthicjoicfckmpaaTome5
import Derived.WalkKit
import Derived.ProofKit
import Derived.OpenShut
import Derived.ShutString
import Derived.ChangeOld
import Derived.Below
namespace Go.Proofs.Ythicjoicfckmpaa.layoutApart
open Go.ChangeShapes Go.WideShapes Go.ChangeAt Go.RowKit
open Go.ChangeMaps (open_string shut_string)
set_option linter.unusedVariables false

theorem own : ownKnob Try.prog.godebug = none := by kernel_rfl
theorem laidOut : laidOutB Try.prog = true := by kernel_rfl

/-- WHAT THE WALK IS TOLD OF A SLICE OF INTEGERS THAT CAME IN: it is nil; or it leads to a row of 'cap' cells, the numbers 'zs' (the first 'len' are its elements, the rest its spare room), each fitting its kind. -/
def IsRow (k : IntKind) (w : World) (a : Option Addr) (len cap : Nat) (zs : List Int) : Prop :=
  (a = none ∧ len = 0 ∧ cap = 0 ∧ zs = []) ∨
  ∃ x, a = some x ∧ len ≤ cap ∧ cap ≤ maxLen ∧ zs.length = cap ∧ (∀ i, i < zs.length → w.cell? (x.add i) = some (.int k (zs.getD i 0))) ∧ ∀ n ∈ zs, (Lit.int k n).wf = true

open Gf
set_option linter.unusedSimpArgs false
set_option maxRecDepth 100000 in
set_option maxHeartbeats 4000000 in
theorem walk (c0 : GeoS) (w : World) (w0 : c0.Wf) :
    Calls Try.prog 5 #[aggG c0] w fun e w' => e = .returned (.bool true) ∧ Below w.heap.size w w' := by
  obtain ⟨k, m, z, s, t, o⟩ := c0
  have LB := geo_laid w ⟨k, m, z, s, t, o⟩ 24
  have EG : aggG ⟨k, m, z, s, t, o⟩ = .agg #[.int .i64 k, .int .i64 m, .int .i64 z, .int .i64 s, .int .i64 t, .int .i64 o] := rfl
  rw [EG]
  go_enter Try.func5, Try.ntmps5
  go_wp2_with fail
  obtain ⟨W0, hW0⟩ : ∃ W0, W0 = w.alloc (.cells (cellsG ⟨k, m, z, s, t, o⟩) 24) := ⟨_, rfl⟩
  rw [← hW0] at LB
  have gb : Hid (w.heap.size < W0.heap.size) := by rw [hW0]; show _ < _; simp
  obtain ⟨GB, hGB⟩ : ∃ GB, Hid (GB = w.heap.size) := ⟨_, rfl⟩
  refine awake_any.mono ?_
  rintro e v0 ⟨rfl, b0⟩
  replace b0 : Below W0.heap.size W0 v0 := by rw [hW0]; exact b0
  clear hW0
  have B0 := b0
  obtain ⟨⟨x0, x1, x2, x3, x4, x5⟩, F0⟩ := LB _ B0
  simp only at x0 x1 x2 x3 x4 x5
  clear b0
  by_cases hok : okG ⟨k, m, z, s, t, o⟩
  rotate_left
  · go_wp2_with fail
    refine (lcheck_any w0 (x := 50) (if_neg hok)).mono ?_
    rintro _ v1 ⟨rfl, b1⟩
    have B1 := B0.stepL b1 B0.size
    clear b1 B0 F0 x0 x1 x2 x3 x4 x5
    obtain ⟨⟨x0, x1, x2, x3, x4, x5⟩, F1⟩ := LB _ B1
    simp only at x0 x1 x2 x3 x4 x5
    go_wp2_with fail
    refine (lsec_any w0 (x := 0) (if_neg hok)).mono ?_
    rintro _ v2 ⟨rfl, b2⟩
    have B2 := B1.stepL b2 B1.size
    clear b2 B1 F1 x0 x1 x2 x3 x4 x5
    obtain ⟨⟨x0, x1, x2, x3, x4, x5⟩, F2⟩ := LB _ B2
    simp only at x0 x1 x2 x3 x4 x5
    go_wp2
    go_ret
    exact ⟨rfl, F2⟩
  have os := hok.2.2.2.2.2.1
  have ot := hok.2.2.2.2.2.2.1
  have o8 := hok.2.2.2.2.2.2.2.1
  have o9 := hok.2.2.2.2.2.2.2.2.1
  simp only at os ot o8 o9
  go_wp2_with fail
  refine (lcheck_any w0 (x := 0) (if_pos hok)).mono ?_
  rintro _ v1 ⟨rfl, b1⟩
  have B1 := B0.stepL b1 B0.size
  clear b1 B0 F0 x0 x1 x2 x3 x4 x5
  obtain ⟨⟨x0, x1, x2, x3, x4, x5⟩, F1⟩ := LB _ B1
  simp only at x0 x1 x2 x3 x4 x5
  go_wp2_with fail
  refine (lsec_any w0 (x := 5 + t + s) (if_pos hok)).mono ?_
  rintro _ v2 ⟨rfl, b2⟩
  have B2 := B1.stepL b2 B1.size
  clear b2 B1 F1 x0 x1 x2 x3 x4 x5
  obtain ⟨⟨x0, x1, x2, x3, x4, x5⟩, F2⟩ := LB _ B2
  simp only at x0 x1 x2 x3 x4 x5
  obtain ⟨T, eT⟩ : ∃ T : Nat, Hid (t = (T : Int)) := ⟨t.toNat, by show t = ((t.toNat : Nat) : Int); omega⟩
  obtain ⟨Z, eZ⟩ : ∃ Z : Nat, Hid (s = (Z : Int)) := ⟨s.toNat, by show s = ((s.toNat : Nat) : Int); omega⟩
  have bT : T ≤ 64 := by have := eT.out; omega
  have bZ : Z ≤ 256 := by have := eZ.out; omega
  obtain ⟨i0, hi, hz0, hz1, hz2⟩ := info_parts info_intL
  obtain ⟨u, mk, hur, hub⟩ := madeB v2 1000 (by decide)
  obtain ⟨gu, hgu⟩ : ∃ gu, Hid (gu = v2.heap.size) := ⟨_, rfl⟩
  rw [← hgu.out] at mk hur
  have mk1 : (Instr.makeSlice 31 (.int .i64 1000) (.int .i64 1000)).run Try.prog v2 = .ok (.slice (some ⟨gu, 0, none⟩) 1000 1000) u := mk
  clear mk
  have cu := hur.cell (i := 0) (by decide)
  have fu := hur.frozen 0
  have hgW : Hid (W0.heap.size ≤ gu) := by show _ ≤ _; rw [hgu.out]; exact B2.size
  have START : Hid (Allp W0 (u.setCell ⟨gu, 0, none⟩ (.bool true)) gu (.slice none 0 0) 0) := Allp.start hur (B2.stepL hub B2.size) hgW.out
  clear B2 hur hub
  go_wp2
  clear x0 x1 x2 x3 x4 x5 cu fu mk1
  go_loopw [6, 7] (fun av i wr => ∃ q : Nat, q ≤ 4 ∧ i = .int .i64 (q : Int) ∧ Allp W0 wr gu av (0 + q)) (fun _ i _ => 4 - (intOf i).toNat)
  case atStart => exact ⟨0, Nat.zero_le _, rfl, START.out⟩
  case round =>
    clear START
    obtain ⟨q, hq, rfl, hA⟩ := hrel
    obtain ⟨⟨x0, x1, x2, x3, x4, x5⟩, F0⟩ := LB _ hA.b
    simp only at x0 x1 x2 x3 x4 x5
    by_cases hlt : q < 4
    · have g1 : IntKind.i64.wrap ((q : Int) + 1) = ((q + 1 : Nat) : Int) := by rw [IntKind.wrap_i64]; omega
      have wq : (Lit.int .i64 (q : Int)).wf = true := by simp [Lit.wf, IntKind.min, IntKind.max, IntKind.signed, IntKind.bits]; omega
      have hlt' : (q : Int) < 4 := by omega
      have wa : (Lit.int .i64 ((q : Int) / 2)).wf = true := by simp [Lit.wf, IntKind.min, IntKind.max, IntKind.signed, IntKind.bits]; omega
      have wb : (Lit.int .i64 ((q : Int) % 2)).wf = true := by simp [Lit.wf, IntKind.min, IntKind.max, IntKind.signed, IntKind.bits]; omega
      obtain ⟨x, hxx⟩ : ∃ x : Int, Hid (x = ((0 + q + 1 : Nat) : Int)) := ⟨_, rfl⟩
      have hx : arG ⟨k, m, z, s, t, o⟩ ((q : Int) / 2) ((q : Int) % 2) = x := by
        rw [hxx.out]
        have e1 := eT.out
        have e2 := eZ.out
        unfold arG
        rw [if_pos ⟨⟨hok, by omega, by omega⟩, by omega, by omega⟩]
        omega
      go_wp2_with fail
      refine (larea_any w0 wa wb hx).mono ?_
      rintro _ w3 ⟨rfl, b3⟩
      have A3 := hA.below b3
      clear x0 x1 x2 x3 x4 x5 F0 hA b3
      have A4 := A3.below (belL w3 (.cells #[.int .i64 x] 3))
      clear A3
      go_wp2_with (at_builtin; go_loud (refine wpList_append_v _ rfl (.tmp 30) (.tmp 37) 32 rfl W0.heap.size 3 i0 (.int .i64 0) 8 Try.underlying32 hi hz0 hz1 hz2 rfl (by decide) u6 (0 + q) (incL (0 + q)) rfl A4.row w3.heap.size 1 (.int .i64 x) rfl (World.cell?_alloc_new _ _ _ 0) rfl (by omega) A4.b.size ?_); intro av' w5 h5 g5 e5)
      have A5 : Hid (Allp W0 w5 gu av' (0 + (q + 1))) := A4.push hxx.out h5 g5 e5
      clear A4 h5 g5 e5
      go_roundw
      case rel => exact ⟨q + 1, by omega, by go_num, A5.out⟩
      case measure => simp [intOf]; omega
    · have hlt' : ¬ (q : Int) < 4 := by omega
      obtain rfl : q = 4 := by omega
      have START : Hid (Allp W0 wr gu u6 (4 + 0)) := hA
      clear hA F0
      go_wp2
      clear x0 x1 x2 x3 x4 x5
      go_loopw [6, 8] (fun av i wr => ∃ q : Nat, q ≤ T ∧ i = .int .i64 (q : Int) ∧ Allp W0 wr gu av (4 + q)) (fun _ i _ => T - (intOf i).toNat)
      case atStart => exact ⟨0, Nat.zero_le _, rfl, START.out⟩
      case round =>
        clear START
        obtain ⟨q, hq, rfl, hA⟩ := hrel
        obtain ⟨⟨x0, x1, x2, x3, x4, x5⟩, F0⟩ := LB _ hA.b
        simp only at x0 x1 x2 x3 x4 x5
        by_cases hlt : q < T
        · have g1 : IntKind.i64.wrap ((q : Int) + 1) = ((q + 1 : Nat) : Int) := by rw [IntKind.wrap_i64]; omega
          have wq : (Lit.int .i64 (q : Int)).wf = true := by simp [Lit.wf, IntKind.min, IntKind.max, IntKind.signed, IntKind.bits]; omega
          have hlt' : (q : Int) < t := by have := eT.out; omega
          have hlt2 : (q : Int) < 64 := by omega
          obtain ⟨x, hxx⟩ : ∃ x : Int, Hid (x = ((4 + q + 1 : Nat) : Int)) := ⟨_, rfl⟩
          have hx : slG ⟨k, m, z, s, t, o⟩ (q : Int) = x := by
            rw [hxx.out]
            have e1 := eT.out
            have e2 := eZ.out
            unfold slG
            rw [if_pos ⟨hok, by omega, by simp only; omega⟩]
            omega
          go_wp2_with fail
          refine (lslot_any w0 wq hx).mono ?_
          rintro _ w3 ⟨rfl, b3⟩
          have A3 := hA.below b3
          clear x0 x1 x2 x3 x4 x5 F0 hA b3
          have A4 := A3.below (belL w3 (.cells #[.int .i64 x] 3))
          clear A3
          go_wp2_with (at_builtin; go_loud (refine wpList_append_v _ rfl (.tmp 49) (.tmp 53) 32 rfl W0.heap.size 3 i0 (.int .i64 0) 8 Try.underlying32 hi hz0 hz1 hz2 rfl (by decide) u6 (4 + q) (incL (4 + q)) rfl A4.row w3.heap.size 1 (.int .i64 x) rfl (World.cell?_alloc_new _ _ _ 0) rfl (by omega) A4.b.size ?_); intro av' w5 h5 g5 e5)
          have A5 : Hid (Allp W0 w5 gu av' (4 + (q + 1))) := A4.push hxx.out h5 g5 e5
          clear A4 h5 g5 e5
          go_roundw
          case rel => exact ⟨q + 1, by omega, by go_num, A5.out⟩
          case measure => simp [intOf]; omega
        · have hlt' : ¬ (q : Int) < t := by have := eT.out; omega
          obtain rfl : q = T := by omega
          have START : Hid (Allp W0 wr gu u6 (4 + q + 0)) := hA
          clear hA F0
          go_wp2
          clear x0 x1 x2 x3 x4 x5
          obtain ⟨T, hTq⟩ : ∃ T, T = q := ⟨_, rfl⟩
          rw [← hTq] at START eT bT
          clear hTq
          go_loopw [6, 9] (fun av i wr => ∃ q : Nat, q ≤ Z ∧ i = .int .i64 (q : Int) ∧ Allp W0 wr gu av ((4 + T) + q)) (fun _ i _ => Z - (intOf i).toNat)
          case atStart => exact ⟨0, Nat.zero_le _, rfl, START.out⟩
          case round =>
            clear START
            obtain ⟨q, hq, rfl, hA⟩ := hrel
            obtain ⟨⟨x0, x1, x2, x3, x4, x5⟩, F0⟩ := LB _ hA.b
            simp only at x0 x1 x2 x3 x4 x5
            by_cases hlt : q < Z
            · have g1 : IntKind.i64.wrap ((q : Int) + 1) = ((q + 1 : Nat) : Int) := by rw [IntKind.wrap_i64]; omega
              have wq : (Lit.int .i64 (q : Int)).wf = true := by simp [Lit.wf, IntKind.min, IntKind.max, IntKind.signed, IntKind.bits]; omega
              have hlt' : (q : Int) < s := by have := eZ.out; omega
              have hlt2 : (q : Int) < 256 := by omega
              obtain ⟨x, hxx⟩ : ∃ x : Int, Hid (x = (((4 + T) + q + 1 : Nat) : Int)) := ⟨_, rfl⟩
              have hx : stG ⟨k, m, z, s, t, o⟩ (q : Int) = x := by
                rw [hxx.out]
                have e1 := eT.out
                have e2 := eZ.out
                unfold stG
                rw [if_pos ⟨hok, by omega, by simp only; omega⟩]
                show 5 + t + (q : Int) = _
                omega
              go_wp2_with fail
              refine (lstripe_any w0 wq hx).mono ?_
              rintro _ w3 ⟨rfl, b3⟩
              have A3 := hA.below b3
              clear x0 x1 x2 x3 x4 x5 F0 hA b3
              have A4 := A3.below (belL w3 (.cells #[.int .i64 x] 3))
              clear A3
              go_wp2_with (at_builtin; go_loud (refine wpList_append_v _ rfl (.tmp 65) (.tmp 69) 32 rfl W0.heap.size 3 i0 (.int .i64 0) 8 Try.underlying32 hi hz0 hz1 hz2 rfl (by decide) u6 ((4 + T) + q) (incL ((4 + T) + q)) rfl A4.row w3.heap.size 1 (.int .i64 x) rfl (World.cell?_alloc_new _ _ _ 0) rfl (by omega) A4.b.size ?_); intro av' w5 h5 g5 e5)
              have A5 : Hid (Allp W0 w5 gu av' ((4 + T) + (q + 1))) := A4.push hxx.out h5 g5 e5
              clear A4 h5 g5 e5
              go_roundw
              case rel => exact ⟨q + 1, by omega, by go_num, A5.out⟩
              case measure => simp [intOf]; omega
            · have hlt' : ¬ (q : Int) < s := by have := eZ.out; omega
              obtain rfl : q = Z := by omega
              obtain ⟨N, hN⟩ : ∃ N : Nat, Hid (N = 4 + T + q) := ⟨_, rfl⟩
              rw [← hN.out] at hA
              obtain ⟨ga, ca, ea, na, la, ce⟩ := hA.at (by have := hN.out; omega)
              subst ea
              have hu := hA.used
              have hb := hA.b
              have START : Hid (wr.rowIs gu 4 1000 (fun j => .bool (decide (j ≤ 0))) ∧ (∀ i, i < N → wr.cell? ⟨ga, i, none⟩ = some (.int .i64 ((i + 1 : Nat) : Int))) ∧ Below W0.heap.size W0 wr) := ⟨hu.congr fun j hj => by congr 1; rw [decide_eq_decide]; omega, ce, hb⟩
              clear hA hu hb ce F0
              go_wp2
              clear x0 x1 x2 x3 x4 x5
              go_loopw [10] (fun i wr => ∃ q : Nat, q ≤ N ∧ i = .int .i64 (q : Int) ∧ wr.rowIs gu 4 1000 (fun j => .bool (decide (j ≤ q))) ∧ (∀ i, i < N → wr.cell? ⟨ga, i, none⟩ = some (.int .i64 ((i + 1 : Nat) : Int))) ∧ Below W0.heap.size W0 wr) (fun i _ => N - (intOf i).toNat)
              case atStart => exact ⟨0, Nat.zero_le _, rfl, START.out⟩
              case round =>
                clear START
                obtain ⟨p, hp, rfl, hr, ce, hB⟩ := hrel
                have F0 := (LB _ hB).2
                by_cases hlp : p < N
                · have hlp' : (p : Int) < (N : Int) := by omega
                  have g1 : IntKind.i64.wrap ((p : Int) + 1) = ((p + 1 : Nat) : Int) := by rw [IntKind.wrap_i64]; have := hN.out; omega
                  obtain ⟨y, hy⟩ : ∃ y : Nat, Hid (y = p + 1) := ⟨_, rfl⟩
                  have c1 := ce p hlp
                  rw [← hy.out] at c1
                  have y1 : ¬ (y : Int) < 1 := by have := hy.out; omega
                  have y2 : ¬ (y : Int) ≥ 5 + t + s := by have := hy.out; have := hN.out; have := eT.out; have := eZ.out; omega
                  have y3 : ¬ (5 + t + s > 1000) := by omega
                  have y4 : (y : Int) < 1000 := by have := hy.out; have := hN.out; omega
                  have y5 : y < 1000 := by omega
                  have cu := hr.cell y5
                  rw [decide_eq_false (by have := hy.out; omega)] at cu
                  have fu := hr.frozen y
                  have E2 : Hid ((wr.setCell ⟨gu, y, none⟩ (.bool true)).rowIs gu 4 1000 (fun j => .bool (decide (j ≤ p + 1))) ∧ (∀ i, i < N → (wr.setCell ⟨gu, y, none⟩ (.bool true)).cell? ⟨ga, i, none⟩ = some (.int .i64 ((i + 1 : Nat) : Int))) ∧ Below W0.heap.size W0 (wr.setCell ⟨gu, y, none⟩ (.bool true))) := by
                    refine ⟨(hr.set y (.bool true)).congr fun j hj => ?_, fun i hi => (World.cell?_of_block (w := wr) (Below.heap_setCell wr ⟨gu, y, none⟩ _ ga na)).trans (ce i hi), hB.setCell hgW.out _⟩
                    have := hy.out
                    by_cases e : j = y
                    · rw [if_pos e, decide_eq_true (by omega)]
                    · rw [if_neg e]
                      congr 1
                      rw [decide_eq_decide]
                      omega
                  clear hr ce hB F0
                  go_wp2
                  go_roundw
                  case rel => exact ⟨p + 1, by omega, by go_num, E2.out⟩
                  case measure => simp [intOf]; omega
                · have hlp' : ¬ (p : Int) < (N : Int) := by omega
                  have gl : IntKind.i64.wrap ((N : Int) + 1) = 5 + t + s := by rw [IntKind.wrap_i64]; have := hN.out; have := eT.out; have := eZ.out; omega
                  clear hr ce hB
                  go_wp2
                  go_ret
                  exact ⟨rfl, F0⟩

/-! ### THE ROW's STEP: WRITTEN OUT: LEAVE IT -/
set_option maxRecDepth 100000 in
set_option maxHeartbeats 2000000 in
theorem lifted (os : Os) (started : os.Started) (H : Type) (enc : TypeId × Value → H) :
    ReturnsInHanded {} Try.checked os 5 .any (Rows.layoutApartSpec.pre6 enc Try.prog Try.f5 Rows.layoutApartRow.domain false) (Rows.layoutApartSpec.post enc Try.prog Try.f5 false true false false) := by
  refine returnsInHanded_of_change (C := Try.checked) own started (by kernel_rfl) Try.func5
    (ChangeSpec.witness6 (enc := enc) (C := Try.checked) false ⟨#[], #[.agg #[.int .i64 0, .int .i64 0, .int .i64 0, .int .i64 0, .int .i64 0, .int .i64 0]], []⟩ 8 (by kernel_rfl) (by kernel_rfl) (by kernel_rfl) (by kernel_rfl)) ?_
  intro W base args ds gs before hval0 hW hcnd _
  have hval : ∀ (j : Nat) t v, Try.f5.params[j]? = some t → args[j]? = some v → Value.okWide Try.prog W .any base t v := hval0
  have hW' := hW
  obtain ⟨p, q, hA0, hV, rfl, hfz, hnd⟩ := hW
  have hA : DataW.TrodAll enc Try.prog W 0 (fun _ => true) true Try.f5.params.toList args.toList ds p := hA0
  rw [Try.params5] at hA hval
  obtain ⟨v0, vs0, d0, ds0, p0, q0, hargs, rfl, rfl, h0, r0⟩ := trodAll_cons hA
  obtain ⟨rfl, rfl, rfl⟩ := trodAll_nil r0
  obtain rfl : args = #[v0] := by cases args; simp_all
  obtain ⟨rfl, rfl⟩ := trodVars_none hV
  have k0 := h0
  have lt0 : ∀ x ∈ p0, x.block < W.heap.size := by obtain ⟨m, hm⟩ := k0; exact DataW.trod_lt m _ _ _ hm
  obtain ⟨c0, rfl, w0⟩ := open_geo Try.underlying24 (by kernel_rfl) rfl rfl rfl rfl rfl rfl (by kernel_rfl) (by kernel_rfl) (by kernel_rfl) (by kernel_rfl) (by kernel_rfl) (by kernel_rfl) (by kernel_rfl) (by kernel_rfl) (by kernel_rfl) (by kernel_rfl) (by kernel_rfl) (by kernel_rfl) (hval 0 24 v0 rfl rfl) h0
  clear hA0 hval0
  refine (walk c0 W w0).mono fun e W' ⟨he, bel⟩ => ?_
  subst he
  exact ⟨_, rfl, _, _, _, [], _, [], hW', trodAll_mk1 (shut_bool Try.underlying4 _), (trodAll_cons_mk (Below.trod laidOut (by kernel_rfl) (of_decide_eq_true (by kernel_rfl)) k0 bel lt0) trodAll_mk0), rfl, bel.frame _, fun h => by cases h⟩

theorem over : Rows.layoutApartRow.holds Try.pinned (OpenSpec.ofChange Rows.layoutApartSpec) :=
  OpenClaim.holds_of_wide 5 Try.f5 rfl rfl rfl rfl rfl rfl rfl ⟨rfl, rfl, rfl, rfl, rfl⟩ rfl rfl rfl rfl rfl (by kernel_rfl) Try.func5 (by kernel_rfl)
    (of_decide_eq_true (by kernel_rfl)) (by unfold Func.isWrapper; first | (rw [if_pos (by decide +kernel)]; kernel_rfl) | (rw [if_neg (by decide +kernel)]; exact ⟨rfl, rfl⟩))
    (fun os started H enc _ => lifted os started H enc)

/-- ████ THE STATEMENT ████ -/
theorem proved : Rows.LayoutApartSaid := over
end Go.Proofs.Ythicjoicfckmpaa.layoutApart
namespace Go.Proofs.Ythicjoicfckmpaa
theorem layoutApart_holds : Rows.LayoutApartSaid := layoutApart.proved
#print axioms layoutApart_holds
end Go.Proofs.Ythicjoicfckmpaa
