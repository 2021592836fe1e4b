/- PROVED: for every geometry g and every number stripe the call LayoutTurns(g, stripe) returns true; no conditions. -/
import Derived.Test.YthicjoicfckmpaaRows
import Derived.Test.YthicjoicfckmpaaTome3
import Derived.WalkKit
import Derived.ProofKit
import Derived.OpenShut
import Derived.ShutString
import Derived.ChangeOld
import Derived.Below
namespace Go.Proofs.Ythicjoicfckmpaa.layoutTurns
open Go.ChangeShapes Go.WideShapes Go.ChangeAt Go.RowKit
open Go.ChangeMaps (open_string shut_string)
set_option linter.unusedVariables false

theorem own : ownKnob Try.prog.godebug = none := by kernel_rfl
theorem laidOut : laidOutB Try.prog = true := by kernel_rfl

/-- WHAT THE WALK IS TOLD OF A SLICE OF INTEGERS THAT CAME IN: it is nil; or it leads to a row of 'cap' cells, the numbers 'zs' (the first 'len' are its elements, the rest its spare room), each fitting its kind. -/
def IsRow (k : IntKind) (w : World) (a : Option Addr) (len cap : Nat) (zs : List Int) : Prop :=
  (a = none ∧ len = 0 ∧ cap = 0 ∧ zs = []) ∨
  ∃ x, a = some x ∧ len ≤ cap ∧ cap ≤ maxLen ∧ zs.length = cap ∧ (∀ i, i < zs.length → w.cell? (x.add i) = some (.int k (zs.getD i 0))) ∧ ∀ n ∈ zs, (Lit.int k n).wf = true

open Gf
set_option linter.unusedSimpArgs false
set_option maxRecDepth 100000 in
set_option maxHeartbeats 4000000 in
theorem walk (c0 : GeoS) (a1 : Int) (w : World) (w0 : c0.Wf) (w1 : (Lit.int .i64 a1).wf = true) :
    Calls Try.prog 6 #[aggG c0, .int .i64 a1] w fun e w' => e = .returned (.bool true) ∧ Below w.heap.size w w' := by
  obtain ⟨k, m, z, s, t, o⟩ := c0
  have LB := geo_laid w ⟨k, m, z, s, t, o⟩ 24
  have EG : aggG ⟨k, m, z, s, t, o⟩ = .agg #[.int .i64 k, .int .i64 m, .int .i64 z, .int .i64 s, .int .i64 t, .int .i64 o] := rfl
  rw [EG]
  go_enter Try.func6, Try.ntmps6
  go_wp2_with fail
  obtain ⟨W0, hW0⟩ : ∃ W0, W0 = w.alloc (.cells (cellsG ⟨k, m, z, s, t, o⟩) 24) := ⟨_, rfl⟩
  rw [← hW0] at LB
  have gb : Hid (w.heap.size < W0.heap.size) := by rw [hW0]; show _ < _; simp
  obtain ⟨GB, hGB⟩ : ∃ GB, Hid (GB = w.heap.size) := ⟨_, rfl⟩
  refine awake_any.mono ?_
  rintro e v0 ⟨rfl, b0⟩
  replace b0 : Below W0.heap.size W0 v0 := by rw [hW0]; exact b0
  clear hW0
  have B0 := b0
  obtain ⟨⟨x0, x1, x2, x3, x4, x5⟩, F0⟩ := LB _ B0
  simp only at x0 x1 x2 x3 x4 x5
  clear b0
  by_cases hok : okG ⟨k, m, z, s, t, o⟩
  rotate_left
  · go_wp2_with fail
    refine (lcheck_any w0 (x := 50) (if_neg hok)).mono ?_
    rintro _ v1 ⟨rfl, b1⟩
    have B1 := B0.stepL b1 B0.size
    clear b1 B0 F0 x0 x1 x2 x3 x4 x5
    obtain ⟨⟨x0, x1, x2, x3, x4, x5⟩, F1⟩ := LB _ B1
    simp only at x0 x1 x2 x3 x4 x5
    go_wp2
    go_ret
    exact ⟨rfl, F1⟩
  have hn := okG_n hok
  have os := hok.2.2.2.2.2.1
  have ot := hok.2.2.2.2.2.2.1
  simp only at hn os ot
  have gn : IntKind.i64.wrap (k + m) = k + m := by rw [IntKind.wrap_i64]; omega
  go_wp2_with fail
  refine (lcheck_any w0 (x := 0) (if_pos hok)).mono ?_
  rintro _ v1 ⟨rfl, b1⟩
  have B1 := B0.stepL b1 B0.size
  clear b1 B0 F0 x0 x1 x2 x3 x4 x5
  obtain ⟨⟨x0, x1, x2, x3, x4, x5⟩, F1⟩ := LB _ B1
  simp only at x0 x1 x2 x3 x4 x5
  by_cases h1 : a1 < 0
  · go_wp2
    go_ret
    exact ⟨rfl, F1⟩
  by_cases h2 : a1 ≥ s
  · go_wp2
    go_ret
    exact ⟨rfl, F1⟩
  obtain ⟨n, en⟩ : ∃ n : Nat, k + m = (n : Int) := ⟨(k + m).toNat, by omega⟩
  obtain ⟨u, mk, hur, hub⟩ := made32 v1
  obtain ⟨gu, hgu⟩ : ∃ gu, Hid (gu = v1.heap.size) := ⟨_, rfl⟩
  rw [← hgu.out] at mk hur
  have START : Hid (u.rowIs gu 4 32 (fun j => .bool (decide (∃ i : Nat, i < 0 ∧ diG ⟨k, m, z, s, t, o⟩ a1 (i : Int) = (j : Int)))) ∧ Below W0.heap.size W0 u) := ⟨hur.congr fun j hj => by simp, B1.stepL hub B1.size⟩
  have hgW : Hid (W0.heap.size ≤ gu) := by show _ ≤ _; rw [hgu.out]; exact B1.size
  obtain ⟨⟨y0, y1, y2, y3, y4, y5⟩, _⟩ := LB _ START.out.2
  simp only at y0 y1 y2 y3 y4 y5
  clear B1 hur hub
  go_wp2
  go_loopw [8] (fun i wr => ∃ q : Nat, q ≤ n ∧ i = .int .i64 (q : Int) ∧ wr.rowIs gu 4 32 (fun j => .bool (decide (∃ i : Nat, i < q ∧ diG ⟨k, m, z, s, t, o⟩ a1 (i : Int) = (j : Int)))) ∧ Below W0.heap.size W0 wr) (fun i _ => n - (intOf i).toNat)
  case atStart => exact ⟨0, Nat.zero_le _, rfl, START.out⟩
  case round =>
    clear START x0 x1 x2 x3 x4 x5 y0 y1 y2 y3 y4 y5 mk
    obtain ⟨q, hq, rfl, hr, hB⟩ := hrel
    obtain ⟨⟨x0, x1, x2, x3, x4, x5⟩, F0⟩ := LB _ hB
    simp only at x0 x1 x2 x3 x4 x5
    by_cases hlt : q < n
    · have hlt' : (q : Int) < (n : Int) := by omega
      have hlt2 : (q : Int) < 32 := by omega
      have g1 : IntKind.i64.wrap ((q : Int) + 1) = ((q + 1 : Nat) : Int) := by rw [IntKind.wrap_i64]; omega
      have wq : (Lit.int .i64 (q : Int)).wf = true := by simp [Lit.wf, IntKind.min, IntKind.max, IntKind.signed, IntKind.bits]; omega
      obtain ⟨d1, d2, d3⟩ := sh_di hok (st := a1) (sh := (q : Int)) (by omega) (by simp only; omega) (by omega) (by simp only; omega)
      simp only at d2
      obtain ⟨d, hd⟩ : ∃ d : Nat, diG ⟨k, m, z, s, t, o⟩ a1 (q : Int) = (d : Int) := ⟨(diG ⟨k, m, z, s, t, o⟩ a1 (q : Int)).toNat, by omega⟩
      rw [hd] at d1 d2 d3
      have hdn : d < 32 := by omega
      have dn1 : ¬ (d : Int) < 0 := by omega
      have dn2 : ¬ (d : Int) ≥ (n : Int) := by omega
      have dn3 : (d : Int) < 32 := by omega
      have wd : (Lit.int .i64 (d : Int)).wf = true := by simp [Lit.wf, IntKind.min, IntKind.max, IntKind.signed, IntKind.bits]; omega
      have NU : Hid (decide (∃ i : Nat, i < q ∧ diG ⟨k, m, z, s, t, o⟩ a1 (i : Int) = (d : Int)) = false) := decide_eq_false fun ⟨i, hi, e⟩ => by
        have := di_inj hok (st := a1) (by omega) (by simp only; omega) (i := (i : Int)) (j := (q : Int)) (by omega) (by simp only; omega) (by omega) (by simp only; omega) (e.trans hd.symm)
        omega
      go_wp2_with fail
      refine (ldisk_any w0 w1 wq hd).mono ?_
      rintro _ v2 ⟨rfl, b2⟩
      have B2 := hB.stepL b2 hB.size
      have R2 := hr.of_block (b2.block gu hr.lt)
      have cu := R2.cell hdn
      rw [NU.out] at cu
      clear x0 x1 x2 x3 x4 x5 F0 hB hr b2
      obtain ⟨⟨x0, x1, x2, x3, x4, x5⟩, F2⟩ := LB _ B2
      simp only at x0 x1 x2 x3 x4 x5
      go_wp2_with fail
      refine (lshard_any w0 w1 wd d3).mono ?_
      rintro _ v3 ⟨rfl, b3⟩
      have B3 := B2.stepL b3 B2.size
      have R3 := R2.of_block (b3.block gu R2.lt)
      have c3 := R3.cell hdn
      have f3 := R3.frozen d
      rw [NU.out] at c3
      have E3 : Hid ((v3.setCell ⟨gu, d, none⟩ (.bool true)).rowIs gu 4 32 (fun j => .bool (decide (∃ i : Nat, i < q + 1 ∧ diG ⟨k, m, z, s, t, o⟩ a1 (i : Int) = (j : Int)))) ∧ Below W0.heap.size W0 (v3.setCell ⟨gu, d, none⟩ (.bool true))) := by
        refine ⟨(R3.set d (.bool true)).congr fun j hj => ?_, B3.setCell hgW.out _⟩
        by_cases e : j = d
        · rw [if_pos e]
          congr 1
          exact (decide_eq_true ⟨q, Nat.lt_succ_self q, by rw [hd, e]⟩).symm
        · rw [if_neg e]
          congr 1
          rw [decide_eq_decide]
          refine ⟨fun ⟨i, hi, h9⟩ => ⟨i, by omega, h9⟩, fun ⟨i, hi, h9⟩ => ⟨i, ?_, h9⟩⟩
          by_cases e2 : i = q
          · rw [e2, hd] at h9; omega
          · omega
      clear x0 x1 x2 x3 x4 x5 F2 B2 R2 b3 B3 R3 cu
      go_wp2
      go_roundw
      case rel => exact ⟨q + 1, by omega, by go_num, E3.out⟩
      case measure => simp [intOf]; omega
    · have hlt' : ¬ (q : Int) < (n : Int) := by omega
      clear hr hB
      go_wp2
      go_ret
      exact ⟨rfl, F0⟩

/-! ### THE ROW's STEP: WRITTEN OUT: LEAVE IT -/
set_option maxRecDepth 100000 in
set_option maxHeartbeats 2000000 in
theorem lifted (os : Os) (started : os.Started) (H : Type) (enc : TypeId × Value → H) :
    ReturnsInHanded {} Try.checked os 6 .any (Rows.layoutTurnsSpec.pre6 enc Try.prog Try.f6 Rows.layoutTurnsRow.domain false) (Rows.layoutTurnsSpec.post enc Try.prog Try.f6 false true false false) := by
  refine returnsInHanded_of_change (C := Try.checked) own started (by kernel_rfl) Try.func6
    (ChangeSpec.witness6 (enc := enc) (C := Try.checked) false ⟨#[], #[.agg #[.int .i64 0, .int .i64 0, .int .i64 0, .int .i64 0, .int .i64 0, .int .i64 0], .int .i64 0], []⟩ 8 (by kernel_rfl) (by kernel_rfl) (by kernel_rfl) (by kernel_rfl)) ?_
  intro W base args ds gs before hval0 hW hcnd _
  have hval : ∀ (j : Nat) t v, Try.f6.params[j]? = some t → args[j]? = some v → Value.okWide Try.prog W .any base t v := hval0
  have hW' := hW
  obtain ⟨p, q, hA0, hV, rfl, hfz, hnd⟩ := hW
  have hA : DataW.TrodAll enc Try.prog W 0 (fun _ => true) true Try.f6.params.toList args.toList ds p := hA0
  rw [Try.params6] at hA hval
  obtain ⟨v0, vs0, d0, ds0, p0, q0, hargs, rfl, rfl, h0, r0⟩ := trodAll_cons hA
  obtain ⟨v1, vs1, d1, ds1, p1, q1, rfl, rfl, rfl, h1, r1⟩ := trodAll_cons r0
  obtain ⟨rfl, rfl, rfl⟩ := trodAll_nil r1
  obtain rfl : args = #[v0, v1] := by cases args; simp_all
  obtain ⟨rfl, rfl⟩ := trodVars_none hV
  have k0 := h0
  have lt0 : ∀ x ∈ p0, x.block < W.heap.size := by obtain ⟨m, hm⟩ := k0; exact DataW.trod_lt m _ _ _ hm
  obtain ⟨c0, rfl, w0⟩ := open_geo Try.underlying24 (by kernel_rfl) rfl rfl rfl rfl rfl rfl (by kernel_rfl) (by kernel_rfl) (by kernel_rfl) (by kernel_rfl) (by kernel_rfl) (by kernel_rfl) (by kernel_rfl) (by kernel_rfl) (by kernel_rfl) (by kernel_rfl) (by kernel_rfl) (by kernel_rfl) (hval 0 24 v0 rfl rfl) h0
  obtain ⟨a1, rfl, rfl, rfl, w1⟩ := open_int Try.underlying3 (hval 1 3 v1 rfl rfl) h1
  clear hA0 hval0
  refine (walk c0 a1 W w0 w1).mono fun e W' ⟨he, bel⟩ => ?_
  subst he
  exact ⟨_, rfl, _, _, _, [], _, [], hW', trodAll_mk1 (shut_bool Try.underlying4 _), (trodAll_cons_mk (Below.trod laidOut (by kernel_rfl) (of_decide_eq_true (by kernel_rfl)) k0 bel lt0) (trodAll_cons_mk (shut_int Try.underlying3 w1) trodAll_mk0)), rfl, bel.frame _, fun h => by cases h⟩

theorem over : Rows.layoutTurnsRow.holds Try.pinned (OpenSpec.ofChange Rows.layoutTurnsSpec) :=
  OpenClaim.holds_of_wide 6 Try.f6 rfl rfl rfl rfl rfl rfl rfl ⟨rfl, rfl, rfl, rfl, rfl⟩ rfl rfl rfl rfl rfl (by kernel_rfl) Try.func6 (by kernel_rfl)
    (of_decide_eq_true (by kernel_rfl)) (by unfold Func.isWrapper; first | (rw [if_pos (by decide +kernel)]; kernel_rfl) | (rw [if_neg (by decide +kernel)]; exact ⟨rfl, rfl⟩))
    (fun os started H enc _ => lifted os started H enc)

/-- ████ THE STATEMENT ████ -/
theorem proved : Rows.LayoutTurnsSaid := over
end Go.Proofs.Ythicjoicfckmpaa.layoutTurns
namespace Go.Proofs.Ythicjoicfckmpaa
theorem layoutTurns_holds : Rows.LayoutTurnsSaid := layoutTurns.proved
#print axioms layoutTurns_holds
end Go.Proofs.Ythicjoicfckmpaa
