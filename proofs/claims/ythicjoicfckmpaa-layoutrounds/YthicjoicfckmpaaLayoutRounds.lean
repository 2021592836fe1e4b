/- PROVED: for every geometry g and all numbers stripe and shard the call LayoutRounds(g, stripe, shard) returns true; no conditions. -/
import Derived.Test.YthicjoicfckmpaaRows
import Derived.Test.YthicjoicfckmpaaTome6
import Derived.WalkKit
import Derived.ProofKit
import Derived.OpenShut
import Derived.ShutString
import Derived.ChangeOld
import Derived.Below
namespace Go.Proofs.Ythicjoicfckmpaa.layoutRounds
open Go.ChangeShapes Go.WideShapes Go.ChangeAt Go.RowKit
open Go.ChangeMaps (open_string shut_string)
set_option linter.unusedVariables false

theorem own : ownKnob Try.prog.godebug = none := by kernel_rfl
theorem laidOut : laidOutB Try.prog = true := by kernel_rfl

/-- WHAT THE WALK IS TOLD OF A SLICE OF INTEGERS THAT CAME IN: it is nil; or it leads to a row of 'cap' cells, the numbers 'zs' (the first 'len' are its elements, the rest its spare room), each fitting its kind. -/
def IsRow (k : IntKind) (w : World) (a : Option Addr) (len cap : Nat) (zs : List Int) : Prop :=
  (a = none ∧ len = 0 ∧ cap = 0 ∧ zs = []) ∨
  ∃ x, a = some x ∧ len ≤ cap ∧ cap ≤ maxLen ∧ zs.length = cap ∧ (∀ i, i < zs.length → w.cell? (x.add i) = some (.int k (zs.getD i 0))) ∧ ∀ n ∈ zs, (Lit.int k n).wf = true

open Gf
set_option linter.unusedSimpArgs false
set_option maxRecDepth 100000 in
set_option maxHeartbeats 4000000 in
theorem walk (c0 : GeoS) (a1 : Int) (a2 : Int) (w : World) (w0 : c0.Wf) (w1 : (Lit.int .i64 a1).wf = true) (w2 : (Lit.int .i64 a2).wf = true) :
    Calls Try.prog 8 #[aggG c0, .int .i64 a1, .int .i64 a2] w fun e w' => e = .returned (.bool true) ∧ Below w.heap.size w w' := by
  obtain ⟨k, m, z, s, t, o⟩ := c0
  have LB := geo_laid w ⟨k, m, z, s, t, o⟩ 24
  have EG : aggG ⟨k, m, z, s, t, o⟩ = .agg #[.int .i64 k, .int .i64 m, .int .i64 z, .int .i64 s, .int .i64 t, .int .i64 o] := rfl
  rw [EG]
  go_enter Try.func8, Try.ntmps8
  go_wp2_with fail
  obtain ⟨W0, hW0⟩ : ∃ W0, W0 = w.alloc (.cells (cellsG ⟨k, m, z, s, t, o⟩) 24) := ⟨_, rfl⟩
  rw [← hW0] at LB
  have gb : Hid (w.heap.size < W0.heap.size) := by rw [hW0]; show _ < _; simp
  obtain ⟨GB, hGB⟩ : ∃ GB, Hid (GB = w.heap.size) := ⟨_, rfl⟩
  refine awake_any.mono ?_
  rintro e v0 ⟨rfl, b0⟩
  replace b0 : Below W0.heap.size W0 v0 := by rw [hW0]; exact b0
  clear hW0
  have B0 := b0
  obtain ⟨⟨x0, x1, x2, x3, x4, x5⟩, F0⟩ := LB _ B0
  simp only at x0 x1 x2 x3 x4 x5
  clear b0
  obtain ⟨nn, gn⟩ : ∃ nn, IntKind.i64.wrap (k + m) = nn := ⟨_, rfl⟩
  by_cases hok : okG ⟨k, m, z, s, t, o⟩
  rotate_left
  · go_wp2_with fail
    refine (lcheck_any w0 (x := 50) (if_neg hok)).mono ?_
    rintro _ v1 ⟨rfl, b1⟩
    have B1 := B0.stepL b1 B0.size
    clear b1 B0 F0 x0 x1 x2 x3 x4 x5
    obtain ⟨⟨x0, x1, x2, x3, x4, x5⟩, F1⟩ := LB _ B1
    simp only at x0 x1 x2 x3 x4 x5
    go_wp2
    go_ret
    exact ⟨rfl, F1⟩
  have hn := okG_n hok
  have os := hok.2.2.2.2.2.1
  have ot := hok.2.2.2.2.2.2.1
  have o8 := hok.2.2.2.2.2.2.2.1
  have o9 := hok.2.2.2.2.2.2.2.2.1
  simp only at hn os ot o8 o9
  obtain rfl : k + m = nn := by rw [← gn, IntKind.wrap_i64]; omega
  go_wp2_with fail
  refine (lcheck_any w0 (x := 0) (if_pos hok)).mono ?_
  rintro _ v1 ⟨rfl, b1⟩
  have B1 := B0.stepL b1 B0.size
  clear b1 B0 F0 x0 x1 x2 x3 x4 x5
  obtain ⟨⟨x0, x1, x2, x3, x4, x5⟩, F1⟩ := LB _ B1
  simp only at x0 x1 x2 x3 x4 x5
  by_cases h1 : a1 < 0
  · go_wp2
    go_ret
    exact ⟨rfl, F1⟩
  by_cases h2 : a1 ≥ s
  · go_wp2
    go_ret
    exact ⟨rfl, F1⟩
  by_cases h3 : a2 < 0
  · go_wp2
    go_ret
    exact ⟨rfl, F1⟩
  by_cases h4 : a2 ≥ k + m
  · go_wp2
    go_ret
    exact ⟨rfl, F1⟩
  have g1 : IntKind.i64.wrap (a1 + (k + m)) = a1 + (k + m) := by rw [IntKind.wrap_i64]; omega
  have g2 : IntKind.i64.wrap (a1 + 1) = a1 + 1 := by rw [IntKind.wrap_i64]; omega
  have wn : (Lit.int .i64 (a1 + (k + m))).wf = true := by simp [Lit.wf, IntKind.min, IntKind.max, IntKind.signed, IntKind.bits]; omega
  have wo : (Lit.int .i64 (a1 + 1)).wf = true := by simp [Lit.wf, IntKind.min, IntKind.max, IntKind.signed, IntKind.bits]; omega
  have wz : (Lit.int .i64 0).wf = true := by decide
  obtain ⟨d, hd⟩ : ∃ d, diG ⟨k, m, z, s, t, o⟩ a1 a2 = d := ⟨_, rfl⟩
  have dr := sh_di hok (st := a1) (sh := a2) (by omega) (by simp only; omega) (by omega) (by simp only; omega)
  rw [hd] at dr
  simp only at dr
  have g3 : IntKind.i64.wrap (d + 1) = d + 1 := by rw [IntKind.wrap_i64]; omega
  have nz : ¬ k + m = 0 := by omega
  have tm : (d + 1).tmod (k + m) = (d + 1) % (k + m) := Int.tmod_eq_emod_of_nonneg (by omega)
  have gm : IntKind.i64.wrap ((d + 1) % (k + m)) = (d + 1) % (k + m) := by
    have q1 := Int.emod_nonneg (d + 1) nz
    have q2 := Int.emod_lt_of_pos (d + 1) (show 0 < k + m by omega)
    rw [IntKind.wrap_i64]; omega
  have D0 := di_first hok (sh := a2) (by omega) (by simp only; omega)
  have S0 : stG ⟨k, m, z, s, t, o⟩ 0 = 5 + t := by
    rw [show stG ⟨k, m, z, s, t, o⟩ 0 = 5 + t + 0 from if_pos ⟨hok, by omega, by simp only; omega⟩]; omega
  have S1 : stG ⟨k, m, z, s, t, o⟩ a1 = 5 + t + a1 := if_pos ⟨hok, by omega, by simp only; omega⟩
  have g4 : IntKind.i64.wrap (5 + t + a1) = 5 + t + a1 := by rw [IntKind.wrap_i64]; omega
  have NX : Hid (∀ h : a1 + (k + m) < s, diG ⟨k, m, z, s, t, o⟩ (a1 + (k + m)) a2 = d) := fun h => by rw [← hd]; exact di_rounds hok (by omega) (by omega) (by simp only; omega) h
  have NY : Hid (∀ h : a1 + 1 < s, diG ⟨k, m, z, s, t, o⟩ (a1 + 1) a2 = (d + 1) % (k + m)) := fun h => by rw [← hd]; exact di_next hok (by omega) (by omega) (by simp only; omega) h
  have KS1 := fun W => @lstripe_any W ⟨k, m, z, s, t, o⟩ w0 a1 w1 _ S1
  have KS2 := fun W => @lstripe_any W ⟨k, m, z, s, t, o⟩ w0 0 wz _ S0
  rw [EG] at KS1 KS2
  clear dr
  go_wp2_with fail
  refine (ldisk_any w0 w1 w2 hd).mono ?_
  rintro _ v2 ⟨rfl, b2⟩
  have B2 := B1.stepL b2 B1.size
  clear b2 B1 F1 x0 x1 x2 x3 x4 x5
  obtain ⟨⟨x0, x1, x2, x3, x4, x5⟩, F2⟩ := LB _ B2
  simp only at x0 x1 x2 x3 x4 x5
  clear x0 x1 x2 x3 x4 x5 F2
  go_upto_region 6 with fail
  have BB : Hid (Below W0.heap.size W0 v2) := B2
  go_cut [58] from 10 (fun s58 wx => s58 = .bool false ∧ Below W0.heap.size W0 wx)
  case first =>
    obtain ⟨⟨x0, x1, x2, x3, x4, x5⟩, F0⟩ := LB _ B2
    simp only at x0 x1 x2 x3 x4 x5
    by_cases q1 : a1 + (k + m) < s
    · have NX2 := NX.out q1
      go_wp2_with fail
      refine (ldisk_any w0 wn w2 NX2).mono ?_
      rintro _ v9 ⟨rfl, b9⟩
      have B9 : Hid (Below W0.heap.size W0 v9) := BB.out.stepL b9 BB.out.size
      clear b9
      go_wp2
      go_meet
      case rel => exact ⟨rfl, B9.out⟩
    · go_wp2
      go_meet
      case rel => exact ⟨rfl, BB.out⟩
  case rest =>
    obtain ⟨rfl, C0⟩ := hcut
    clear BB B2
    go_upto_region 8 with fail
    have CC : Hid (Below W0.heap.size W0 wc) := C0
    go_cut [75] from 10 (fun s75 wx => s75 = .bool false ∧ Below W0.heap.size W0 wx)
    case first =>
      have s0 := (LB _ C0).1
      have CD : Below W0.heap.size W0 wc.drew := C0.drew
      have sD := (LB _ CD).1
      by_cases q2 : a1 + 1 < s
      · have NY2 := NY.out q2
        go_region_held3 (fun wx => wx.cell? ⟨w.heap.size, 0, none⟩ = some (.int .i64 k) ∧ wx.cell? ⟨w.heap.size, 1, none⟩ = some (.int .i64 m) ∧ wx.cell? ⟨w.heap.size, 2, none⟩ = some (.int .i64 z) ∧ wx.cell? ⟨w.heap.size, 3, none⟩ = some (.int .i64 s) ∧ wx.cell? ⟨w.heap.size, 4, none⟩ = some (.int .i64 t) ∧ wx.cell? ⟨w.heap.size, 5, none⟩ = some (.int .i64 o)) (first | exact s0 | exact sD | exact s1) (first
          | (go_at_call 20; go_loud (refine (ldisk_any w0 wo w2 NY2).mono ?_); rintro _ v1 ⟨rfl, b1⟩; have B1 := CD.stepL b1 CD.size; have s1 := (LB _ B1).1))
        go_wp2
        go_meet
        case rel => exact ⟨rfl, B1⟩
      · skip
        refine wp_region_held_drew (S := (fun wx => wx.cell? ⟨w.heap.size, 0, none⟩ = some (.int .i64 k) ∧ wx.cell? ⟨w.heap.size, 1, none⟩ = some (.int .i64 m) ∧ wx.cell? ⟨w.heap.size, 2, none⟩ = some (.int .i64 z) ∧ wx.cell? ⟨w.heap.size, 3, none⟩ = some (.int .i64 s) ∧ wx.cell? ⟨w.heap.size, 4, none⟩ = some (.int .i64 t) ∧ wx.cell? ⟨w.heap.size, 5, none⟩ = some (.int .i64 o))) (by kernel_rfl) ?_ (fun hHeld => ?_)
        · exact s0
        refine wpAnyH_take (i := 0) (v := ?_) rfl (by kernel_rfl) (by kernel_rfl) (by kernel_rfl) (fun _ _ _ h => h) (Or.inl ⟨by rfl, ?_⟩) (by assumption) ?_
        rotate_left
        · intro w hSw; (try dsimp only at hSw); go_simp; try with_reducible rfl
        try simp only [List.getElem_toArray, List.getElem_cons_succ, List.getElem_cons_zero, Act.put, List.setIfInBounds_toArray, List.set_cons_zero, List.set_cons_succ]
        refine wpAnyH_take (i := 1) (v := ?_) rfl (by kernel_rfl) (by kernel_rfl) (by kernel_rfl) (fun _ _ _ h => h) (Or.inl ⟨by rfl, ?_⟩) (by assumption) ?_
        rotate_left
        · intro w hSw; (try dsimp only at hSw); go_simp; try with_reducible rfl
        try simp only [List.getElem_toArray, List.getElem_cons_succ, List.getElem_cons_zero, Act.put, List.setIfInBounds_toArray, List.set_cons_zero, List.set_cons_succ]
        refine wpAnyH_take (i := 2) (v := ?_) rfl (by kernel_rfl) (by kernel_rfl) (by kernel_rfl) (fun _ _ _ h => h) (Or.inl ⟨by rfl, ?_⟩) (by assumption) ?_
        rotate_left
        · intro w hSw; (try dsimp only at hSw); go_simp; try with_reducible rfl
        try simp only [List.getElem_toArray, List.getElem_cons_succ, List.getElem_cons_zero, Act.put, List.setIfInBounds_toArray, List.set_cons_zero, List.set_cons_succ]
        refine wpAnyH_take (i := 3) (v := ?_) rfl (by kernel_rfl) (by kernel_rfl) (by kernel_rfl) (fun _ _ _ h => h) (Or.inl ⟨by rfl, ?_⟩) (by assumption) ?_
        rotate_left
        · intro w hSw; (try dsimp only at hSw); go_simp; try with_reducible rfl
        try simp only [List.getElem_toArray, List.getElem_cons_succ, List.getElem_cons_zero, Act.put, List.setIfInBounds_toArray, List.set_cons_zero, List.set_cons_succ]
        refine wpAnyH_take (i := 4) (v := ?_) rfl (by kernel_rfl) (by kernel_rfl) (by kernel_rfl) (fun _ _ _ h => h) (Or.inl ⟨by rfl, ?_⟩) (by assumption) ?_
        rotate_left
        · intro w hSw; (try dsimp only at hSw); go_simp; try with_reducible rfl
        try simp only [List.getElem_toArray, List.getElem_cons_succ, List.getElem_cons_zero, Act.put, List.setIfInBounds_toArray, List.set_cons_zero, List.set_cons_succ]
        refine wpAnyH_take (i := 5) (v := ?_) rfl (by kernel_rfl) (by kernel_rfl) (by kernel_rfl) (fun _ _ _ h => h) (Or.inl ⟨by rfl, ?_⟩) (by assumption) ?_
        rotate_left
        · intro w hSw; (try dsimp only at hSw); go_simp; try with_reducible rfl
        try simp only [List.getElem_toArray, List.getElem_cons_succ, List.getElem_cons_zero, Act.put, List.setIfInBounds_toArray, List.set_cons_zero, List.set_cons_succ]
        refine wpAnyH_take (i := 6) (v := undef) rfl (by kernel_rfl) (by kernel_rfl) (by kernel_rfl) (fun _ _ _ h => h) (Or.inr ⟨by rfl, rfl⟩) (by assumption) ?_
        try simp only [List.getElem_toArray, List.getElem_cons_succ, List.getElem_cons_zero, Act.put, List.setIfInBounds_toArray, List.set_cons_zero, List.set_cons_succ]
        refine wpAnyH_take (i := 7) (v := undef) rfl (by kernel_rfl) (by kernel_rfl) (by kernel_rfl) (fun _ _ _ h => h) (Or.inr ⟨by rfl, rfl⟩) (by assumption) ?_
        try simp only [List.getElem_toArray, List.getElem_cons_succ, List.getElem_cons_zero, Act.put, List.setIfInBounds_toArray, List.set_cons_zero, List.set_cons_succ]
        refine wpAnyH_take (i := 8) (v := undef) rfl (by kernel_rfl) (by kernel_rfl) (by kernel_rfl) (fun _ _ _ h => h) (Or.inr ⟨by rfl, rfl⟩) (by assumption) ?_
        try simp only [List.getElem_toArray, List.getElem_cons_succ, List.getElem_cons_zero, Act.put, List.setIfInBounds_toArray, List.set_cons_zero, List.set_cons_succ]
        refine wpAnyH_take (i := 9) (v := undef) rfl (by kernel_rfl) (by kernel_rfl) (by kernel_rfl) (fun _ _ _ h => h) (Or.inr ⟨by rfl, rfl⟩) (by assumption) ?_
        try simp only [List.getElem_toArray, List.getElem_cons_succ, List.getElem_cons_zero, Act.put, List.setIfInBounds_toArray, List.set_cons_zero, List.set_cons_succ]
        refine wpAnyH_take (i := 10) (v := undef) rfl (by kernel_rfl) (by kernel_rfl) (by kernel_rfl) (fun _ _ _ h => h) (Or.inr ⟨by rfl, rfl⟩) (by assumption) ?_
        try simp only [List.getElem_toArray, List.getElem_cons_succ, List.getElem_cons_zero, Act.put, List.setIfInBounds_toArray, List.set_cons_zero, List.set_cons_succ]
        refine wpAnyH_take (i := 11) (v := undef) rfl (by kernel_rfl) (by kernel_rfl) (by kernel_rfl) (fun _ _ _ h => h) (Or.inr ⟨by rfl, rfl⟩) (by assumption) ?_
        try simp only [List.getElem_toArray, List.getElem_cons_succ, List.getElem_cons_zero, Act.put, List.setIfInBounds_toArray, List.set_cons_zero, List.set_cons_succ]
        refine wpAnyH_take (i := 12) (v := undef) rfl (by kernel_rfl) (by kernel_rfl) (by kernel_rfl) (fun _ _ _ h => h) (Or.inr ⟨by rfl, rfl⟩) (by assumption) ?_
        try simp only [List.getElem_toArray, List.getElem_cons_succ, List.getElem_cons_zero, Act.put, List.setIfInBounds_toArray, List.set_cons_zero, List.set_cons_succ]
        refine wpAnyH_take (i := 13) (v := undef) rfl (by kernel_rfl) (by kernel_rfl) (by kernel_rfl) (fun _ _ _ h => h) (Or.inr ⟨by rfl, rfl⟩) (by assumption) ?_
        try simp only [List.getElem_toArray, List.getElem_cons_succ, List.getElem_cons_zero, Act.put, List.setIfInBounds_toArray, List.set_cons_zero, List.set_cons_succ]
        refine wpAnyH_take (i := 14) (v := undef) rfl (by kernel_rfl) (by kernel_rfl) (by kernel_rfl) (fun _ _ _ h => h) (Or.inr ⟨by rfl, rfl⟩) (by assumption) ?_
        try simp only [List.getElem_toArray, List.getElem_cons_succ, List.getElem_cons_zero, Act.put, List.setIfInBounds_toArray, List.set_cons_zero, List.set_cons_succ]
        refine wpAnyH_take (i := 15) (v := undef) rfl (by kernel_rfl) (by kernel_rfl) (by kernel_rfl) (fun _ _ _ h => h) (Or.inr ⟨by rfl, rfl⟩) (by assumption) ?_
        try simp only [List.getElem_toArray, List.getElem_cons_succ, List.getElem_cons_zero, Act.put, List.setIfInBounds_toArray, List.set_cons_zero, List.set_cons_succ]
        refine wpAnyH_take (i := 16) (v := ?_) rfl (by kernel_rfl) (by kernel_rfl) (by kernel_rfl) (fun _ _ _ h => h) (Or.inl ⟨by rfl, ?_⟩) (by assumption) ?_
        rotate_left
        · intro w hSw; (try dsimp only at hSw); go_simp; try with_reducible rfl
        try simp only [List.getElem_toArray, List.getElem_cons_succ, List.getElem_cons_zero, Act.put, List.setIfInBounds_toArray, List.set_cons_zero, List.set_cons_succ]
        refine wpAnyH_done (by kernel_rfl) ?_ _
        try simp only [List.getElem_toArray, List.getElem_cons_succ, List.getElem_cons_zero, Act.put, List.setIfInBounds_toArray, List.set_cons_zero, List.set_cons_succ]
        clear hHeld s0 sD
        go_wp2
        go_meet
        case rel => exact ⟨rfl, CD⟩
    case rest =>
      obtain ⟨rfl, C1⟩ := hcut
      clear C0 CC
      have s0 := (LB _ C1).1
      have CD : Below W0.heap.size W0 wc.drew := C1.drew
      have sD := (LB _ CD).1
      go_upto_region 10 with fail
      go_region_held3 (fun wx => wx.cell? ⟨w.heap.size, 0, none⟩ = some (.int .i64 k) ∧ wx.cell? ⟨w.heap.size, 1, none⟩ = some (.int .i64 m) ∧ wx.cell? ⟨w.heap.size, 2, none⟩ = some (.int .i64 z) ∧ wx.cell? ⟨w.heap.size, 3, none⟩ = some (.int .i64 s) ∧ wx.cell? ⟨w.heap.size, 4, none⟩ = some (.int .i64 t) ∧ wx.cell? ⟨w.heap.size, 5, none⟩ = some (.int .i64 o)) (first | exact s0 | exact sD | exact s1 | exact s2 | exact s3) (first
        | (go_at_call 20; go_loud (refine (ldisk_any w0 wz w2 D0).mono ?_); rintro _ v1 ⟨rfl, b1⟩; have B1 := CD.stepL b1 CD.size; have s1 := (LB _ B1).1)
        | (go_at_call_of 18 (Value.int .i64 a1); go_loud (refine (KS1 _).mono ?_); rintro _ v2 ⟨rfl, b2⟩; have B2 := B1.stepL b2 B1.size; have s2 := (LB _ B2).1)
        | (go_at_call_of 18 (Value.int .i64 0); go_loud (refine (KS2 _).mono ?_); rintro _ v3 ⟨rfl, b3⟩; have B3 := B2.stepL b3 B2.size; have s3 := (LB _ B3).1))
      have F := (LB _ B3).2
      go_wp2
      go_ret
      exact ⟨rfl, F⟩

/-! ### THE ROW's STEP: WRITTEN OUT: LEAVE IT -/
set_option maxRecDepth 100000 in
set_option maxHeartbeats 2000000 in
theorem lifted (os : Os) (started : os.Started) (H : Type) (enc : TypeId × Value → H) :
    ReturnsInHanded {} Try.checked os 8 .any (Rows.layoutRoundsSpec.pre6 enc Try.prog Try.f8 Rows.layoutRoundsRow.domain false) (Rows.layoutRoundsSpec.post enc Try.prog Try.f8 false true false false) := by
  refine returnsInHanded_of_change (C := Try.checked) own started (by kernel_rfl) Try.func8
    (ChangeSpec.witness6 (enc := enc) (C := Try.checked) false ⟨#[], #[.agg #[.int .i64 0, .int .i64 0, .int .i64 0, .int .i64 0, .int .i64 0, .int .i64 0], .int .i64 0, .int .i64 0], []⟩ 8 (by kernel_rfl) (by kernel_rfl) (by kernel_rfl) (by kernel_rfl)) ?_
  intro W base args ds gs before hval0 hW hcnd _
  have hval : ∀ (j : Nat) t v, Try.f8.params[j]? = some t → args[j]? = some v → Value.okWide Try.prog W .any base t v := hval0
  have hW' := hW
  obtain ⟨p, q, hA0, hV, rfl, hfz, hnd⟩ := hW
  have hA : DataW.TrodAll enc Try.prog W 0 (fun _ => true) true Try.f8.params.toList args.toList ds p := hA0
  rw [Try.params8] at hA hval
  obtain ⟨v0, vs0, d0, ds0, p0, q0, hargs, rfl, rfl, h0, r0⟩ := trodAll_cons hA
  obtain ⟨v1, vs1, d1, ds1, p1, q1, rfl, rfl, rfl, h1, r1⟩ := trodAll_cons r0
  obtain ⟨v2, vs2, d2, ds2, p2, q2, rfl, rfl, rfl, h2, r2⟩ := trodAll_cons r1
  obtain ⟨rfl, rfl, rfl⟩ := trodAll_nil r2
  obtain rfl : args = #[v0, v1, v2] := by cases args; simp_all
  obtain ⟨rfl, rfl⟩ := trodVars_none hV
  have k0 := h0
  have lt0 : ∀ x ∈ p0, x.block < W.heap.size := by obtain ⟨m, hm⟩ := k0; exact DataW.trod_lt m _ _ _ hm
  obtain ⟨c0, rfl, w0⟩ := open_geo Try.underlying24 (by kernel_rfl) rfl rfl rfl rfl rfl rfl (by kernel_rfl) (by kernel_rfl) (by kernel_rfl) (by kernel_rfl) (by kernel_rfl) (by kernel_rfl) (by kernel_rfl) (by kernel_rfl) (by kernel_rfl) (by kernel_rfl) (by kernel_rfl) (by kernel_rfl) (hval 0 24 v0 rfl rfl) h0
  obtain ⟨a1, rfl, rfl, rfl, w1⟩ := open_int Try.underlying3 (hval 1 3 v1 rfl rfl) h1
  obtain ⟨a2, rfl, rfl, rfl, w2⟩ := open_int Try.underlying3 (hval 2 3 v2 rfl rfl) h2
  clear hA0 hval0
  refine (walk c0 a1 a2 W w0 w1 w2).mono fun e W' ⟨he, bel⟩ => ?_
  subst he
  exact ⟨_, rfl, _, _, _, [], _, [], hW', trodAll_mk1 (shut_bool Try.underlying4 _), (trodAll_cons_mk (Below.trod laidOut (by kernel_rfl) (of_decide_eq_true (by kernel_rfl)) k0 bel lt0) (trodAll_cons_mk (shut_int Try.underlying3 w1) (trodAll_cons_mk (shut_int Try.underlying3 w2) trodAll_mk0))), rfl, bel.frame _, fun h => by cases h⟩

theorem over : Rows.layoutRoundsRow.holds Try.pinned (OpenSpec.ofChange Rows.layoutRoundsSpec) :=
  OpenClaim.holds_of_wide 8 Try.f8 rfl rfl rfl rfl rfl rfl rfl ⟨rfl, rfl, rfl, rfl, rfl⟩ rfl rfl rfl rfl rfl (by kernel_rfl) Try.func8 (by kernel_rfl)
    (of_decide_eq_true (by kernel_rfl)) (by unfold Func.isWrapper; first | (rw [if_pos (by decide +kernel)]; kernel_rfl) | (rw [if_neg (by decide +kernel)]; exact ⟨rfl, rfl⟩))
    (fun os started H enc _ => lifted os started H enc)

/-- ████ THE STATEMENT ████ -/
theorem proved : Rows.LayoutRoundsSaid := over
end Go.Proofs.Ythicjoicfckmpaa.layoutRounds
namespace Go.Proofs.Ythicjoicfckmpaa
theorem layoutRounds_holds : Rows.LayoutRoundsSaid := layoutRounds.proved
#print axioms layoutRounds_holds
end Go.Proofs.Ythicjoicfckmpaa
