/- PROVED: for all numbers k and m the call CauchyNought(k, m) returns true; no conditions. -/
import Derived.Test.YthfimeddfpchpaaRows
import Derived.Test.YthfimeddfpchpaaCaAwake
import Derived.Test.YthfimeddfpchpaaCaLaws
import Derived.Test.YthfimeddfpchpaaMxCF
import Derived.WalkKit
import Derived.ProofKit
import Derived.OpenShut
import Derived.ShutString
namespace Go.Proofs.Ythfimeddfpchpaa.cauchyNought
open Go.ChangeShapes Go.WideShapes Go.ChangeAt Go.RowKit
open Go.ChangeMaps (open_string shut_string)
set_option linter.unusedVariables false      -- a walk need not use every 'w<i>' (that an integer argument fits its kind)

theorem own : ownKnob Try.prog.godebug = none := by kernel_rfl

open Gf
set_option linter.unusedSimpArgs false
set_option maxRecDepth 100000 in
set_option maxHeartbeats 2000000 in
theorem walk (a0 : Int) (a1 : Int) (w0 : (Lit.int .i64 a0).wf = true) (w1 : (Lit.int .i64 a1).wf = true) (w : World) :
    Calls Try.prog 5 #[.int .i64 a0, .int .i64 a1] w fun e w' => e = .returned (.bool true) ∧ Below w.heap.size w w' := by
  by_cases hok : OkC a0 a1
  · obtain ⟨k, m, e1, e2, h1, h2⟩ := hok.nat
    subst e1 e2
    obtain ⟨N, hN⟩ : ∃ N, Hid (N = k + m) := ⟨_, rfl⟩
    have gN : (k : Int) + (m : Int) = (N : Int) := by have := hN.out; omega
    have hN2 : N ≤ 256 := by have := hN.out; omega
    by_cases h40 : N ≤ 40
    · have h40' : ¬ (N : Int) > 40 := by omega
      obtain ⟨Lx, hLx⟩ : ∃ L, Hid (L = flat m k (mm N (en N (flat m N (chkF k))) (en k (flat N k (genF k))))) := ⟨_, rfl⟩
      have hLl : Lx.length ≤ 65536 := by rw [hLx.out, flat_length]; exact mul_small (by omega) (by omega)
      have HZ : Hid (∀ i, co Lx i = 0) := fun i => by rw [hLx.out, hN.out]; exact nought_zero k m i
      have HG : ∀ (w : World) (b : Nat), FieldAt w b → Calls Try.prog 16 #[.pointer (some ⟨b, 0, none⟩), .int .i64 (k : Int), .int .i64 (m : Int)] w (MakesM w N k (genF k)) := fun w b hF => by rw [hN.out]; exact cgen_ok k m hF h1 h2 rfl rfl
      have HC : ∀ (w : World) (b : Nat), FieldAt w b → Calls Try.prog 18 #[.pointer (some ⟨b, 0, none⟩), .int .i64 (k : Int), .int .i64 (m : Int)] w (MakesM w m N (chkF k)) := fun w b hF => by rw [hN.out]; exact cchk_ok k m hF h1 h2 rfl rfl
      go_enter Try.func5, Try.ntmps5
      have B : Below w.heap.size w w := Below.refl _ _
      go_wp2_with fail
      refine (awake5_any _).mono ?_
      rintro e u1 ⟨rfl, b⟩
      have D : Below (World.heap w |>.size) w u1 := Below.next (by repeat (first | exact Below.refl _ _ | apply Below.draws | apply below_lit)) b
      have sD := D.size
      replace B := Below.next B D
      clear b D sD
      go_wp2_with fail
      refine (new_any _).mono ?_
      rintro e u2 ⟨rfl, F, hO⟩
      have b := hO.below
      clear hO
      have D : Below (World.heap u1 |>.size) u1 u2 := Below.next (by repeat (first | exact Below.refl _ _ | apply Below.draws | apply below_lit)) b
      have sD := D.size
      replace B := Below.next B D
      clear b D sD
      go_wp2_with fail
      refine (ccheck_ok _ hok).mono ?_
      rintro e u3 ⟨rfl, b⟩
      have D : Below (World.heap u2 |>.size) u2 u3 := Below.next (by repeat (first | exact Below.refl _ _ | apply Below.draws | apply below_lit)) b
      have sD := D.size
      replace F := F.below D
      replace B := Below.next B D
      clear b D sD
      go_wp2_with fail
      refine (HG _ _ (F.below (by repeat (first | exact Below.refl _ _ | apply Below.draws | apply below_lit)))).mono ?_
      rintro e u4 ⟨vg, rfl, Rg, b⟩
      have D : Below (World.heap u3 |>.size) u3 u4 := Below.next (by repeat (first | exact Below.refl _ _ | apply Below.draws | apply below_lit)) b
      have sD := D.size
      replace F := F.below D
      replace B := Below.next B D
      clear b D sD
      obtain ⟨ag, cg, rfl⟩ := Rg.form
      go_wp2_with fail
      refine (HC _ _ (F.below (by repeat (first | exact Below.refl _ _ | apply Below.draws | apply below_lit)))).mono ?_
      rintro e u5 ⟨vc, rfl, Rc, b⟩
      have D : Below (World.heap u4 |>.size) u4 u5 := Below.next (by repeat (first | exact Below.refl _ _ | apply Below.draws | apply below_lit)) b
      have sD := D.size
      replace F := F.below D
      replace Rg := Rg.below D
      have Xg : Box u5 (World.heap u4 |>.size) _ _ _ := Below.box b (by simp <;> omega) (by first | exact Box.new _ _ _ _ _ | exact (Box.new _ _ _ _ _).alloc (by simp) _ | exact ((Box.new _ _ _ _ _).alloc (by simp) _).alloc (by simp <;> omega) _)
      have lg : (World.heap u4 |>.size) < (World.heap u5 |>.size) := by have := b.size; simp at this; omega
      replace B := Below.next B D
      clear b D sD
      have xg0 := Xg.c0
      have xg1 := Xg.c1
      have xg2 := Xg.c2
      obtain ⟨ac, cc, rfl⟩ := Rc.form
      go_wp2_with fail
      refine (mmul_ok (F.below (by repeat (first | exact Below.refl _ _ | apply Below.draws | apply below_lit))) ⟨_, rfl, (Rc.below (by repeat (first | exact Below.refl _ _ | apply Below.draws | apply below_lit)))⟩ ⟨_, rfl, (Rg.below (by repeat (first | exact Below.refl _ _ | apply Below.draws | apply below_lit)))⟩ (okM_mk (by omega) (by omega) (flat_length _ _ _)) (okM_mk (by omega) (by omega) (flat_length _ _ _))).mono ?_
      rintro e u6 ⟨vx, rfl, Rx, b⟩
      clear xg0 xg1 xg2
      have D : Below (World.heap u5 |>.size) u5 u6 := Below.next (by repeat (first | exact Below.refl _ _ | apply Below.draws | apply below_lit)) b
      have sD := D.size
      replace F := F.below D
      replace Rg := Rg.below D
      replace Rc := Rc.below D
      replace Xg := Xg.below lg D
      replace lg := Nat.lt_of_lt_of_le lg sD
      have Xc : Box u6 (World.heap u5 |>.size) _ _ _ := Below.box b (by simp <;> omega) (by first | exact Box.new _ _ _ _ _ | exact (Box.new _ _ _ _ _).alloc (by simp) _ | exact ((Box.new _ _ _ _ _).alloc (by simp) _).alloc (by simp <;> omega) _)
      have lc : (World.heap u5 |>.size) < (World.heap u6 |>.size) := by have := b.size; simp at this; omega
      replace B := Below.next B D
      clear b D sD
      have xg0 := Xg.c0
      have xg1 := Xg.c1
      have xg2 := Xg.c2
      have xc0 := Xc.c0
      have xc1 := Xc.c1
      have xc2 := Xc.c2
      rw [← hLx.out] at Rx
      obtain ⟨ax, cx, rfl⟩ := Rx.form
      clear xg0 xg1 xg2 xc0 xc1 xc2
      have Xx := Box.new u6 (m : Int) (k : Int) (.slice ax Lx.length cx) 30
      have Rx2 := Rx.below ((Below.refl (World.heap u6 |>.size) u6).alloc (Nat.le_refl _) (.cells #[.int .i64 (m : Int), .int .i64 (k : Int), .slice ax Lx.length cx] 30))
      have BB := below_lit B (.cells #[.int .i64 (m : Int), .int .i64 (k : Int), .slice ax Lx.length cx] 30)
      have x0 := Xx.c0
      have x1 := Xx.c1
      go_wp2
      generalize World.alloc u6 (.cells #[.int .i64 (m : Int), .int .i64 (k : Int), .slice ax Lx.length cx] 30) = w9 at *
      have x2 := Xx.c2
      go_loop [13] (fun i => ∃ n : Nat, n ≤ Lx.length ∧ i = .int .i64 n) (fun i => Lx.length - (intOf i).toNat)
      case atStart => exact ⟨0, by omega, rfl⟩
      case round =>
        obtain ⟨n, hn, rfl⟩ := hrel
        by_cases hlt : n < Lx.length
        · have hlt' : (n : Int) < (Lx.length : Int) := by omega
          rcases Rx2 with ⟨ao, ca, e1, _⟩ | ⟨ba, oa, ca, e0, e2, e3, e4, e5, hac⟩
          · subst e1; simp at hlt
          · simp at e2
            obtain ⟨rfl, rfl⟩ := e2
            have c1 := hac n hlt
            rw [HZ.out n] at c1
            clear hac
            go_wp2
            go_round
            case rel => exact ⟨n + 1, by omega, by go_num⟩
            case measure => simp [intOf]; omega
        · have hge : ¬ (n : Int) < (Lx.length : Int) := by omega
          go_wp2
          go_ret
          exact ⟨rfl, BB⟩
    · have h40' : (N : Int) > 40 := by omega
      go_enter Try.func5, Try.ntmps5
      have B : Below w.heap.size w w := Below.refl _ _
      go_wp2_with fail
      refine (awake5_any _).mono ?_
      rintro e u1 ⟨rfl, b⟩
      have D : Below (World.heap w |>.size) w u1 := Below.next (by repeat (first | exact Below.refl _ _ | apply Below.draws | apply below_lit)) b
      have sD := D.size
      replace B := Below.next B D
      clear b D sD
      go_wp2_with fail
      refine (new_any _).mono ?_
      rintro e u2 ⟨rfl, F, hO⟩
      have b := hO.below
      clear hO
      have D : Below (World.heap u1 |>.size) u1 u2 := Below.next (by repeat (first | exact Below.refl _ _ | apply Below.draws | apply below_lit)) b
      have sD := D.size
      replace B := Below.next B D
      clear b D sD
      go_wp2_with fail
      refine (ccheck_ok _ hok).mono ?_
      rintro e u3 ⟨rfl, b⟩
      have D : Below (World.heap u2 |>.size) u2 u3 := Below.next (by repeat (first | exact Below.refl _ _ | apply Below.draws | apply below_lit)) b
      have sD := D.size
      replace F := F.below D
      replace B := Below.next B D
      clear b D sD
      go_wp2
      go_ret
      exact ⟨rfl, Below.next B (by repeat (first | exact Below.refl _ _ | apply Below.draws | apply below_lit))⟩
  · go_enter Try.func5, Try.ntmps5
    have B : Below w.heap.size w w := Below.refl _ _
    go_wp2_with fail
    refine (awake5_any _).mono ?_
    rintro e u1 ⟨rfl, b⟩
    have D : Below (World.heap w |>.size) w u1 := Below.next (by repeat (first | exact Below.refl _ _ | apply Below.draws | apply below_lit)) b
    have sD := D.size
    replace B := Below.next B D
    clear b D sD
    go_wp2_with fail
    refine (new_any _).mono ?_
    rintro e u2 ⟨rfl, F, hO⟩
    have b := hO.below
    clear hO
    have D : Below (World.heap u1 |>.size) u1 u2 := Below.next (by repeat (first | exact Below.refl _ _ | apply Below.draws | apply below_lit)) b
    have sD := D.size
    replace B := Below.next B D
    clear b D sD
    go_wp2_with fail
    refine (ccheck_bad _ hok).mono ?_
    rintro e u3 ⟨rfl, b⟩
    have D : Below (World.heap u2 |>.size) u2 u3 := Below.next (by repeat (first | exact Below.refl _ _ | apply Below.draws | apply below_lit)) b
    have sD := D.size
    replace F := F.below D
    replace B := Below.next B D
    clear b D sD
    go_wp2
    go_ret
    exact ⟨rfl, Below.next B (by repeat (first | exact Below.refl _ _ | apply Below.draws | apply below_lit))⟩

/-! ### THE ROW's STEP: WRITTEN OUT: LEAVE IT -/
set_option maxRecDepth 100000 in
theorem lifted (os : Os) (started : os.Started) (H : Type) (enc : TypeId × Value → H) :
    ReturnsInHanded {} Try.checked os 5 .any (Rows.cauchyNoughtSpec.pre6 enc Try.prog Try.f5 Rows.cauchyNoughtRow.domain false) (Rows.cauchyNoughtSpec.post enc Try.prog Try.f5 false true false false) := by
  refine returnsInHanded_of_change (C := Try.checked) own started (by kernel_rfl) Try.func5
    (ChangeSpec.witness6 (enc := enc) (C := Try.checked) false ⟨#[], #[.int .i64 0, .int .i64 0], []⟩ 8 (by kernel_rfl) (by kernel_rfl) (by kernel_rfl) (by kernel_rfl)) ?_
  intro W base args ds gs before hval0 hW hcnd _
  have hval : ∀ (j : Nat) t v, Try.f5.params[j]? = some t → args[j]? = some v → Value.okWide Try.prog W .any base t v := hval0
  have hW' := hW
  obtain ⟨p, q, hA0, hV, rfl, hfz, hnd⟩ := hW
  have hA : DataW.TrodAll enc Try.prog W 0 (fun _ => true) true Try.f5.params.toList args.toList ds p := hA0
  rw [Try.params5] at hA hval
  obtain ⟨v0, vs0, d0, ds0, p0, q0, hargs, rfl, rfl, h0, r0⟩ := trodAll_cons hA
  obtain ⟨v1, vs1, d1, ds1, p1, q1, rfl, rfl, rfl, h1, r1⟩ := trodAll_cons r0
  obtain ⟨rfl, rfl, rfl⟩ := trodAll_nil r1
  obtain rfl : args = #[v0, v1] := by cases args; simp_all
  obtain ⟨rfl, rfl⟩ := trodVars_none hV
  obtain ⟨a0, rfl, rfl, rfl, w0⟩ := open_int Try.underlying3 (hval 0 3 v0 rfl rfl) h0
  obtain ⟨a1, rfl, rfl, rfl, w1⟩ := open_int Try.underlying3 (hval 1 3 v1 rfl rfl) h1
  clear hA0 hval0
  simp only [List.append_nil] at hW'
  refine (walk a0 a1 w0 w1 W).mono fun e W' ⟨he, hg⟩ => ?_
  subst he
  exact ⟨_, rfl, _, _, _, [], _, [], hW', trodAll_mk1 (shut_bool Try.underlying4 _), (trodAll_cons_mk (shut_int Try.underlying3 w0) (trodAll_cons_mk (shut_int Try.underlying3 w1) trodAll_mk0)), rfl, hg.frame _, fun h => by cases h⟩

theorem over : Rows.cauchyNoughtRow.holds Try.pinned (OpenSpec.ofChange Rows.cauchyNoughtSpec) :=
  OpenClaim.holds_of_wide 5 Try.f5 rfl rfl rfl rfl rfl rfl rfl ⟨rfl, rfl, rfl, rfl, rfl⟩ rfl rfl rfl rfl rfl (by kernel_rfl) Try.func5 (by kernel_rfl)
    (of_decide_eq_true (by kernel_rfl)) (by unfold Func.isWrapper; first | (rw [if_pos (by decide +kernel)]; kernel_rfl) | (rw [if_neg (by decide +kernel)]; exact ⟨rfl, rfl⟩))
    (fun os started H enc _ => lifted os started H enc)

/-- ████ THE STATEMENT ████ -/
theorem proved : Rows.CauchyNoughtSaid :=
  over
end Go.Proofs.Ythfimeddfpchpaa.cauchyNought
namespace Go.Proofs.Ythfimeddfpchpaa
theorem cauchyNought_holds : Rows.CauchyNoughtSaid := cauchyNought.proved
#print axioms cauchyNought_holds
end Go.Proofs.Ythfimeddfpchpaa
