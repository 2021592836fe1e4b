/- PROVED: for every list points and number x the call KeyeqRoots(points, x) returns true, and its arguments read behind it as before; no conditions. -/
import Derived.Test.YtlbachgbeefhcaaRows
import Derived.Test.YtlbachgbeefhcaaTome7
import Derived.Test.YtlbachgbeefhcaaTome8
import Derived.WalkKit
import Derived.ProofKit
import Derived.OpenShut
import Derived.ShutString
import Derived.ChangeOld
import Derived.Below
namespace Go.Proofs.Ytlbachgbeefhcaa.keyeqRoots
open Go.ChangeShapes Go.WideShapes Go.ChangeAt Go.RowKit
open Go.ChangeMaps (open_string shut_string)
set_option linter.unusedVariables false

theorem own : ownKnob Try.prog.godebug = none := by kernel_rfl
theorem laidOut : laidOutB Try.prog = true := by kernel_rfl

/-- WHAT THE WALK IS TOLD OF A SLICE OF INTEGERS THAT CAME IN: it is nil; or it leads to a row of 'cap' cells, the numbers 'zs' (the first 'len' are its elements, the rest its spare room), each fitting its kind. -/
def IsRow (k : IntKind) (w : World) (a : Option Addr) (len cap : Nat) (zs : List Int) : Prop :=
  (a = none ∧ len = 0 ∧ cap = 0 ∧ zs = []) ∨
  ∃ x, a = some x ∧ len ≤ cap ∧ cap ≤ maxLen ∧ zs.length = cap ∧ (∀ i, i < zs.length → w.cell? (x.add i) = some (.int k (zs.getD i 0))) ∧ ∀ n ∈ zs, (Lit.int k n).wf = true

open Gf
set_option linter.unusedSimpArgs false
set_option maxRecDepth 100000 in
set_option maxHeartbeats 4000000 in
theorem walk (a0 : Option Addr) (len0 cap0 : Nat) (z0 : List Int) (a1 : Int) (w : World) (w0 : IsRow .u8 w a0 len0 cap0 z0) (w1 : (Lit.int .u8 a1).wf = true) :
    Calls Try.prog 6 #[.slice a0 len0 cap0, .int .u8 a1] w fun e w' => e = .returned (.bool true) ∧ Below w.heap.size w w' := by
  obtain ⟨z0, rfl, w0⟩ := rd_row w0
  obtain ⟨y, rfl⟩ : ∃ y : UInt8, a1 = ((y.toNat : Nat) : Int) := ⟨UInt8.ofNat (a1).toNat, by have := bounds_u8 w1; rw [ofNat_u8 (by omega)]; omega⟩
  go_enter Try.func6, Try.ntmps6
  have B : Below w.heap.size w w := Below.refl _ _
  go_wp2_with fail
  refine (awake9_any _).mono ?_
  rintro e u1 ⟨rfl, b⟩
  have D : Below (World.heap w |>.size) w u1 := Below.next (by repeat (first | exact Below.refl _ _ | apply Below.drewN | apply Below.drew | apply Below.draws | apply below_lit)) b
  replace w0 := w0.below D
  replace B := Below.next B D
  clear b D
  go_wp2_with fail
  refine (new_any _).mono ?_
  rintro e u2 ⟨rfl, F, hO⟩
  have b := hO.below
  clear hO
  have D : Below (World.heap u1 |>.size) u1 u2 := Below.next (by repeat (first | exact Below.refl _ _ | apply Below.drewN | apply Below.drew | apply Below.draws | apply below_lit)) b
  replace w0 := w0.below D
  replace B := Below.next B D
  clear b D
  have hxz0 := w0.len
  unfold maxLen at hxz0
  by_cases hz0 : z0.length ≤ 60
  · have hz0' : ¬ (z0.length : Int) > 60 := by omega
    go_wp2_with fail
    refine (kloc_any (F.below (by repeat (first | exact Below.refl _ _ | apply Below.drewN | apply Below.drew | apply Below.draws | apply below_lit))) (w0.below (by repeat (first | exact Below.refl _ _ | apply Below.drewN | apply Below.drew | apply Below.draws | apply below_lit))) (by omega)).mono ?_
    rintro e u3 ⟨vl, rfl, Rl, b⟩
    have D : Below (World.heap u2 |>.size) u2 u3 := Below.next (by repeat (first | exact Below.refl _ _ | apply Below.drewN | apply Below.drew | apply Below.draws | apply below_lit)) b
    replace w0 := w0.below D
    replace F := F.below D
    replace B := Below.next B D
    clear b D
    have HLl : Hid ((locL z0).length = z0.length + 1) := locN_length _ _
    obtain ⟨la, lc, el⟩ := Rl.form
    rw [HLl.out] at el
    subst el
    have HT : Hid ((locL z0).length = z0.length + 1 ∧ co (locL z0) z0.length = 1) := (⟨HLl.out, by unfold locL; rw [co_locN, locF_top]⟩ : (locL z0).length = z0.length + 1 ∧ co (locL z0) z0.length = 1)
    go_wp2
    go_loop [8, 9] (fun r v => ∃ i : Nat, i ≤ z0.length ∧ v = .int .i64 i ∧ r = .bool (decide (∃ j, j < i ∧ co z0 j = y))) (fun _ v => z0.length - (intOf v).toNat)
    case atStart => exact ⟨0, by omega, rfl, by rw [decide_eq_false (fun ⟨j, h, _⟩ => by omega)]⟩
    case round =>
      obtain ⟨i, hi9, rfl, rfl⟩ := hrel
      by_cases hlt : i < z0.length
      · have hlt' : (i : Int) < (z0.length : Int) := by omega
        obtain ⟨zb, zo, rfl, _, cz⟩ := w0.byte (i := i) hlt
        obtain ⟨t, ht⟩ : ∃ t, Hid (t = decide (∃ j, j < i ∧ co z0 j = y)) := ⟨_, rfl⟩
        rw [← ht.out]
        by_cases e : co z0 i = y
        · have q : ((((co z0 i).toNat : Nat) : Int) == ((y.toNat : Nat) : Int)) = true := by rw [e]; simp
          have HD : Hid (decide (∃ j, j < i + 1 ∧ co z0 j = y) = true) := decide_eq_true ⟨i, by omega, e⟩
          have hin : (decide ((i : Int) < (z0.length : Int))) = true := decide_eq_true hlt'
          clear e
          cases t
          · go_wp2
            go_round
            case rel => exact ⟨i + 1, by omega, by go_num, by rw [HD.out]⟩
            case measure => simp [intOf]; omega
          · go_wp2
            go_round
            case rel => exact ⟨i + 1, by omega, by go_num, by rw [HD.out]⟩
            case measure => simp [intOf]; omega
        · have q : ((((co z0 i).toNat : Nat) : Int) == ((y.toNat : Nat) : Int)) = false := by rw [eq_u8]; exact decide_eq_false e
          have HD : Hid (decide (∃ j, j < i + 1 ∧ co z0 j = y) = t) := by
            show _ = t
            rw [ht.out, Bool.eq_iff_iff, decide_eq_true_eq, decide_eq_true_eq]
            constructor
            · rintro ⟨j, h1, h2⟩
              by_cases e2 : j = i
              · subst e2; exact absurd h2 e
              · exact ⟨j, by omega, h2⟩
            · rintro ⟨j, h1, h2⟩; exact ⟨j, by omega, h2⟩
          clear e
          cases t
          · go_wp2
            go_round
            case rel => exact ⟨i + 1, by omega, by go_num, by rw [HD.out]⟩
            case measure => simp [intOf]; omega
          · go_wp2
            go_round
            case rel => exact ⟨i + 1, by omega, by go_num, by rw [HD.out]⟩
            case measure => simp [intOf]; omega
      · have hge : ¬ (i : Int) < (z0.length : Int) := by omega
        have HD : Hid (decide (∃ j, j < i ∧ co z0 j = y) = decide (evP (locL z0) y = 0)) := (by
          rw [show i = z0.length by omega, evP_loc, Bool.eq_iff_iff, decide_eq_true_eq, decide_eq_true_eq]
          exact PD_zero.symm : decide (∃ j, j < i ∧ co z0 j = y) = decide (evP (locL z0) y = 0))
        rw [HD.out]
        have HE := eq_u8_zero (evP (locL z0) y)
        obtain ⟨lb, lo, rfl, _, cl⟩ := Rl.byte (i := z0.length) (by rw [HLl.out]; omega)
        rw [HT.out.2] at cl
        have gz : IntKind.i64.wrap ((z0.length : Int) + 1) = (z0.length : Int) + 1 := by rw [IntKind.wrap_i64]; omega
        have q1 : ((z0.length : Int) < (z0.length : Int) + 1) := by omega
        clear hge
        go_wp2_with fail
        refine (peval_any (F.below (by repeat (first | exact Below.refl _ _ | apply Below.drewN | apply Below.drew | apply Below.draws | apply below_lit))) (Rl.below (by repeat (first | exact Below.refl _ _ | apply Below.drewN | apply Below.drew | apply Below.draws | apply below_lit))) y rfl (by rw [HLl.out]; omega)).mono ?_
        rintro e u4 ⟨rfl, b⟩
        have D : Below (World.heap u3 |>.size) u3 u4 := Below.next (by repeat (first | exact Below.refl _ _ | apply Below.drewN | apply Below.drew | apply Below.draws | apply below_lit)) b
        replace w0 := w0.below D
        replace F := F.below D
        replace Rl := Rl.below D
        replace B := Below.next B D
        clear b D
        generalize decide (evP (locL z0) y = 0) = t9 at *
        have q9 : (t9 == t9) = true := by simp
        go_wp2
        go_ret
        exact ⟨rfl, Below.next B (by repeat (first | exact Below.refl _ _ | apply Below.drewN | apply Below.drew | apply Below.draws | apply below_lit))⟩
  · have hz0' : (z0.length : Int) > 60 := by omega
    go_wp2
    go_ret
    exact ⟨rfl, Below.next B (by repeat (first | exact Below.refl _ _ | apply Below.drewN | apply Below.drew | apply Below.draws | apply below_lit))⟩

/-! ### THE ROW's STEP: WRITTEN OUT: LEAVE IT -/
set_option maxRecDepth 100000 in
theorem lifted (os : Os) (started : os.Started) (H : Type) (enc : TypeId × Value → H) :
    ReturnsInHanded {} Try.checked os 6 .any (Rows.keyeqRootsSpec.pre6 enc Try.prog Try.f6 Rows.keyeqRootsRow.domain false) (Rows.keyeqRootsSpec.post enc Try.prog Try.f6 false true false false) := by
  refine returnsInHanded_of_change (C := Try.checked) own started (by kernel_rfl) Try.func6
    (ChangeSpec.witness6 (enc := enc) (C := Try.checked) false ⟨#[], #[.slice none 0 0, .int .u8 0], []⟩ 8 (by kernel_rfl) (by kernel_rfl) (by kernel_rfl) (by kernel_rfl)) ?_
  intro W base args ds gs before hval0 hW hcnd _
  have hval : ∀ (j : Nat) t v, Try.f6.params[j]? = some t → args[j]? = some v → Value.okWide Try.prog W .any base t v := hval0
  have hW' := hW
  obtain ⟨p, q, hA0, hV, rfl, hfz, hnd⟩ := hW
  have hA : DataW.TrodAll enc Try.prog W 0 (fun _ => true) true Try.f6.params.toList args.toList ds p := hA0
  rw [Try.params6] at hA hval
  obtain ⟨v0, vs0, d0, ds0, p0, q0, hargs, rfl, rfl, h0, r0⟩ := trodAll_cons hA
  obtain ⟨v1, vs1, d1, ds1, p1, q1, rfl, rfl, rfl, h1, r1⟩ := trodAll_cons r0
  obtain ⟨rfl, rfl, rfl⟩ := trodAll_nil r1
  obtain rfl : args = #[v0, v1] := by cases args; simp_all
  obtain ⟨rfl, rfl⟩ := trodVars_none hV
  obtain ⟨a0, len0, cap0, rfl⟩ := okWide_slice Try.underlying23 (hval 0 23 v0 rfl rfl)
  have k0 := h0
  have lt0 : ∀ x ∈ p0, x.block < W.heap.size := by obtain ⟨m, hm⟩ := k0; exact DataW.trod_lt m _ _ _ hm
  obtain ⟨z0, w0⟩ : ∃ zs, IsRow .u8 W a0 len0 cap0 zs := by
    obtain ⟨fuel, hf⟩ := h0
    rcases open_ints Try.underlying23 Try.underlying5 (by kernel_rfl) hf with ⟨hcs, _⟩ | ⟨x, l, c, zs, hcs, _, hl, hm, hz, _, hcell, hwz⟩
    · simp [Value.cells] at hcs
      obtain ⟨rfl, rfl, rfl⟩ := hcs
      exact ⟨[], .inl ⟨rfl, rfl, rfl, rfl⟩⟩
    · simp [Value.cells] at hcs
      obtain ⟨rfl, rfl, rfl⟩ := hcs
      exact ⟨zs, .inr ⟨_, rfl, hl, hm, by simpa using hz, hcell, hwz⟩⟩
  obtain ⟨a1, rfl, rfl, rfl, w1⟩ := open_int Try.underlying5 (hval 1 5 v1 rfl rfl) h1
  clear hA0 hval0
  refine (walk a0 len0 cap0 z0 a1 W w0 w1).mono fun e W' ⟨he, bel⟩ => ?_
  subst he
  exact ⟨_, rfl, _, _, _, [], _, [], hW', trodAll_mk1 (shut_bool Try.underlying4 _), (trodAll_cons_mk (Below.trod laidOut (by kernel_rfl) (of_decide_eq_true (by kernel_rfl)) k0 bel lt0) (trodAll_cons_mk (shut_int Try.underlying5 w1) trodAll_mk0)), rfl, bel.frame _, fun h => by cases h⟩

theorem over : Rows.keyeqRootsRow.holds Try.pinned (OpenSpec.ofChange Rows.keyeqRootsSpec) :=
  OpenClaim.holds_of_wide 6 Try.f6 rfl rfl rfl rfl rfl rfl rfl ⟨rfl, rfl, rfl, rfl, rfl⟩ rfl rfl rfl rfl rfl (by kernel_rfl) Try.func6 (by kernel_rfl)
    (of_decide_eq_true (by kernel_rfl)) (by unfold Func.isWrapper; first | (rw [if_pos (by decide +kernel)]; kernel_rfl) | (rw [if_neg (by decide +kernel)]; exact ⟨rfl, rfl⟩))
    (fun os started H enc _ => lifted os started H enc)

/-- ████ THE STATEMENT ████ -/
theorem proved : Rows.KeyeqRootsSaid := over
end Go.Proofs.Ytlbachgbeefhcaa.keyeqRoots
namespace Go.Proofs.Ytlbachgbeefhcaa
theorem keyeqRoots_holds : Rows.KeyeqRootsSaid := keyeqRoots.proved
#print axioms keyeqRoots_holds
end Go.Proofs.Ytlbachgbeefhcaa
