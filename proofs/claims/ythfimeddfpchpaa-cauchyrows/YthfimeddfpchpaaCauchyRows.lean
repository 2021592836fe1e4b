/- PROVED: for all numbers k and m and every list of rows the call CauchyRows(k, m, rows) returns true, and its argument reads behind it as before; no conditions. -/
import Derived.Test.YthfimeddfpchpaaRows
import Derived.Test.YthfimeddfpchpaaCaAwake
import Derived.Test.YthfimeddfpchpaaCaRise
import Derived.Test.YthfimeddfpchpaaMxCE
import Derived.Test.YthfimeddfpchpaaMxCG
import Derived.WalkKit
import Derived.ProofKit
import Derived.OpenShut
import Derived.ShutString
import Derived.ChangeOld
import Derived.Below
namespace Go.Proofs.Ythfimeddfpchpaa.cauchyRows
open Go.ChangeShapes Go.WideShapes Go.ChangeAt Go.RowKit
open Go.ChangeMaps (open_string shut_string)
set_option linter.unusedVariables false

theorem own : ownKnob Try.prog.godebug = none := by kernel_rfl
theorem laidOut : laidOutB Try.prog = true := by kernel_rfl

/-- WHAT THE WALK IS TOLD OF A SLICE OF INTEGERS THAT CAME IN: it is nil; or it leads to a row of 'cap' cells, the numbers 'zs' (the first 'len' are its elements, the rest its spare room), each fitting its kind. -/
def IsRow (k : IntKind) (w : World) (a : Option Addr) (len cap : Nat) (zs : List Int) : Prop :=
  (a = none ∧ len = 0 ∧ cap = 0 ∧ zs = []) ∨
  ∃ x, a = some x ∧ len ≤ cap ∧ cap ≤ maxLen ∧ zs.length = cap ∧ (∀ i, i < zs.length → w.cell? (x.add i) = some (.int k (zs.getD i 0))) ∧ ∀ n ∈ zs, (Lit.int k n).wf = true

open Gf
set_option linter.unusedSimpArgs false
set_option maxRecDepth 100000 in
set_option maxHeartbeats 2000000 in
theorem walk (a0 : Int) (a1 : Int) (a2 : Option Addr) (len2 cap2 : Nat) (z2 : List Int) (w : World) (w0 : (Lit.int .i64 a0).wf = true) (w1 : (Lit.int .i64 a1).wf = true) (w2 : IsRow .i64 w a2 len2 cap2 z2) :
    Calls Try.prog 6 #[.int .i64 a0, .int .i64 a1, .slice a2 len2 cap2] w fun e w' => e = .returned (.bool true) ∧ Below w.heap.size w w' := by
  obtain ⟨zs, rfl, Rz⟩ := rdI_row w2
  have hzl : zs.length ≤ maxLen := by rcases Rz with ⟨_, _, e, _⟩ | ⟨_, _, _, _, _, h, _⟩ <;> simp_all [maxLen]
  unfold maxLen at hzl
  clear w2
  by_cases hok : OkC a0 a1
  · obtain ⟨k, m, e1, e2, h1, h2⟩ := hok.nat
    subst e1 e2
    obtain ⟨N, hN⟩ : ∃ N, Hid (N = k + m) := ⟨_, rfl⟩
    have gN : (k : Int) + (m : Int) = (N : Int) := by have := hN.out; omega
    have hN2 : N ≤ 256 := by have := hN.out; omega
    by_cases h30 : N ≤ 30
    · have h30' : ¬ (N : Int) > 30 := by omega
      by_cases hk : zs.length = k
      · subst hk
        have HG : ∀ (w : World) (b : Nat), FieldAt w b → Calls Try.prog 16 #[.pointer (some ⟨b, 0, none⟩), .int .i64 (zs.length : Int), .int .i64 (m : Int)] w (MakesM w N zs.length (genF zs.length)) := fun w b hF => by rw [hN.out]; exact cgen_ok zs.length m hF h1 h2 rfl rfl
        have hzn : zs.length ≤ 256 := by omega
        go_enter Try.func6, Try.ntmps6
        have B : Below w.heap.size w w := Below.refl _ _
        go_wp2_with fail
        refine (awake5_any _).mono ?_
        rintro e u1 ⟨rfl, b⟩
        have D : Below (World.heap w |>.size) w u1 := Below.next (by repeat (first | exact Below.refl _ _ | apply Below.draws | apply below_lit)) b
        have sD := D.size
        replace Rz := Rz.below D
        replace B := Below.next B D
        clear b D sD
        go_wp2_with fail
        refine (new_any _).mono ?_
        rintro e u2 ⟨rfl, F, hO⟩
        have b := hO.below
        clear hO
        have D : Below (World.heap u1 |>.size) u1 u2 := Below.next (by repeat (first | exact Below.refl _ _ | apply Below.draws | apply below_lit)) b
        have sD := D.size
        replace Rz := Rz.below D
        replace B := Below.next B D
        clear b D sD
        go_wp2_with fail
        refine (ccheck_ok _ hok).mono ?_
        rintro e u3 ⟨rfl, b⟩
        have D : Below (World.heap u2 |>.size) u2 u3 := Below.next (by repeat (first | exact Below.refl _ _ | apply Below.draws | apply below_lit)) b
        have sD := D.size
        replace Rz := Rz.below D
        replace F := F.below D
        replace B := Below.next B D
        clear b D sD
        go_wp2_with fail
        refine (rising_any (Rz.below (by repeat (first | exact Below.refl _ _ | apply Below.draws | apply below_lit))) (by omega)).mono ?_
        rintro e u9 ⟨t, rfl, hri, b⟩
        have D : Below (World.heap u3 |>.size) u3 u9 := Below.next (by repeat (first | exact Below.refl _ _ | apply Below.draws | apply below_lit)) b
        have sD := D.size
        replace Rz := Rz.below D
        replace F := F.below D
        replace B := Below.next B D
        clear b D sD
        rcases t with _ | _
        · clear hri
          go_wp2
          go_ret
          exact ⟨rfl, Below.next B (by repeat (first | exact Below.refl _ _ | apply Below.draws | apply below_lit))⟩
        · have HR := hri rfl
          clear hri
          have hNS := rise_gen hN2 (by have := hN.out; omega) rfl HR
          have hAll : AllIn N zs := fun i hi => HR.1 i hi
          clear HR
          go_wp2_with fail
          refine (HG _ _ (F.below (by repeat (first | exact Below.refl _ _ | apply Below.draws | apply below_lit)))).mono ?_
          rintro e u10 ⟨vg, rfl, Rg, b⟩
          have D : Below (World.heap u9 |>.size) u9 u10 := Below.next (by repeat (first | exact Below.refl _ _ | apply Below.draws | apply below_lit)) b
          have sD := D.size
          replace Rz := Rz.below D
          replace F := F.below D
          replace B := Below.next B D
          clear b D sD
          obtain ⟨ag, cg, rfl⟩ := Rg.form
          go_wp2_with fail
          refine (mpick_ok ⟨_, rfl, (Rg.below (by repeat (first | exact Below.refl _ _ | apply Below.draws | apply below_lit)))⟩ (Rz.below (by repeat (first | exact Below.refl _ _ | apply Below.draws | apply below_lit))) (okM_mk (by omega) (by omega) (flat_length _ _ _)) (by omega)).mono ?_
          rintro e u11 (⟨_, vp, rfl, Rp, b⟩ | ⟨hn, _⟩)
          rotate_left
          · exact absurd hAll hn
          have D : Below (World.heap u10 |>.size) u10 u11 := Below.next (by repeat (first | exact Below.refl _ _ | apply Below.draws | apply below_lit)) b
          have sD := D.size
          replace Rz := Rz.below D
          replace F := F.below D
          replace Rg := Rg.below D
          have Xg : Box u11 (World.heap u10 |>.size) _ _ _ := Below.box b (by simp <;> omega) (by first | exact Box.new _ _ _ _ _ | exact (Box.new _ _ _ _ _).alloc (by simp) _ | exact ((Box.new _ _ _ _ _).alloc (by simp) _).alloc (by simp <;> omega) _)
          have lg : (World.heap u10 |>.size) < (World.heap u11 |>.size) := by have := b.size; simp at this; omega
          replace B := Below.next B D
          clear b D sD
          have xg0 := Xg.c0
          have xg1 := Xg.c1
          have xg2 := Xg.c2
          obtain ⟨ap, cp, rfl⟩ := Rp.form
          go_wp2_with fail
          refine (minv_ok (F.below (by repeat (first | exact Below.refl _ _ | apply Below.draws | apply below_lit))) ⟨_, rfl, (Rp.below (by repeat (first | exact Below.refl _ _ | apply Below.draws | apply below_lit)))⟩ (okM_mk (by omega) (by omega) (flat_length _ _ _))).mono ?_
          rintro e u12 (⟨V, hV, vv, rfl, Rv, b⟩ | ⟨hs, _⟩)
          rotate_left
          · exact absurd hs hNS
          clear xg0 xg1 xg2
          have D : Below (World.heap u11 |>.size) u11 u12 := Below.next (by repeat (first | exact Below.refl _ _ | apply Below.draws | apply below_lit)) b
          have sD := D.size
          replace Rz := Rz.below D
          replace F := F.below D
          replace Rg := Rg.below D
          replace Rp := Rp.below D
          replace Xg := Xg.below lg D
          replace lg := Nat.lt_of_lt_of_le lg sD
          have Xp : Box u12 (World.heap u11 |>.size) _ _ _ := Below.box b (by simp <;> omega) (by first | exact Box.new _ _ _ _ _ | exact (Box.new _ _ _ _ _).alloc (by simp) _ | exact ((Box.new _ _ _ _ _).alloc (by simp) _).alloc (by simp <;> omega) _)
          have lp : (World.heap u11 |>.size) < (World.heap u12 |>.size) := by have := b.size; simp at this; omega
          replace B := Below.next B D
          clear b D sD
          have xg0 := Xg.c0
          have xg1 := Xg.c1
          have xg2 := Xg.c2
          have xp0 := Xp.c0
          have xp1 := Xp.c1
          have xp2 := Xp.c2
          obtain ⟨av, cv, rfl⟩ := Rv.form
          go_wp2
          go_ret
          exact ⟨rfl, Below.next B (by repeat (first | exact Below.refl _ _ | apply Below.draws | apply below_lit))⟩
      · have hne : ((zs.length : Int) != (k : Int)) = true := by simp; omega
        go_enter Try.func6, Try.ntmps6
        have B : Below w.heap.size w w := Below.refl _ _
        go_wp2_with fail
        refine (awake5_any _).mono ?_
        rintro e u1 ⟨rfl, b⟩
        have D : Below (World.heap w |>.size) w u1 := Below.next (by repeat (first | exact Below.refl _ _ | apply Below.draws | apply below_lit)) b
        have sD := D.size
        replace Rz := Rz.below D
        replace B := Below.next B D
        clear b D sD
        go_wp2_with fail
        refine (new_any _).mono ?_
        rintro e u2 ⟨rfl, F, hO⟩
        have b := hO.below
        clear hO
        have D : Below (World.heap u1 |>.size) u1 u2 := Below.next (by repeat (first | exact Below.refl _ _ | apply Below.draws | apply below_lit)) b
        have sD := D.size
        replace Rz := Rz.below D
        replace B := Below.next B D
        clear b D sD
        go_wp2_with fail
        refine (ccheck_ok _ hok).mono ?_
        rintro e u3 ⟨rfl, b⟩
        have D : Below (World.heap u2 |>.size) u2 u3 := Below.next (by repeat (first | exact Below.refl _ _ | apply Below.draws | apply below_lit)) b
        have sD := D.size
        replace Rz := Rz.below D
        replace F := F.below D
        replace B := Below.next B D
        clear b D sD
        go_wp2
        go_ret
        exact ⟨rfl, Below.next B (by repeat (first | exact Below.refl _ _ | apply Below.draws | apply below_lit))⟩
    · have h30' : (N : Int) > 30 := by omega
      go_enter Try.func6, Try.ntmps6
      have B : Below w.heap.size w w := Below.refl _ _
      go_wp2_with fail
      refine (awake5_any _).mono ?_
      rintro e u1 ⟨rfl, b⟩
      have D : Below (World.heap w |>.size) w u1 := Below.next (by repeat (first | exact Below.refl _ _ | apply Below.draws | apply below_lit)) b
      have sD := D.size
      replace Rz := Rz.below D
      replace B := Below.next B D
      clear b D sD
      go_wp2_with fail
      refine (new_any _).mono ?_
      rintro e u2 ⟨rfl, F, hO⟩
      have b := hO.below
      clear hO
      have D : Below (World.heap u1 |>.size) u1 u2 := Below.next (by repeat (first | exact Below.refl _ _ | apply Below.draws | apply below_lit)) b
      have sD := D.size
      replace Rz := Rz.below D
      replace B := Below.next B D
      clear b D sD
      go_wp2_with fail
      refine (ccheck_ok _ hok).mono ?_
      rintro e u3 ⟨rfl, b⟩
      have D : Below (World.heap u2 |>.size) u2 u3 := Below.next (by repeat (first | exact Below.refl _ _ | apply Below.draws | apply below_lit)) b
      have sD := D.size
      replace Rz := Rz.below D
      replace F := F.below D
      replace B := Below.next B D
      clear b D sD
      go_wp2
      go_ret
      exact ⟨rfl, Below.next B (by repeat (first | exact Below.refl _ _ | apply Below.draws | apply below_lit))⟩
  · go_enter Try.func6, Try.ntmps6
    have B : Below w.heap.size w w := Below.refl _ _
    go_wp2_with fail
    refine (awake5_any _).mono ?_
    rintro e u1 ⟨rfl, b⟩
    have D : Below (World.heap w |>.size) w u1 := Below.next (by repeat (first | exact Below.refl _ _ | apply Below.draws | apply below_lit)) b
    have sD := D.size
    replace Rz := Rz.below D
    replace B := Below.next B D
    clear b D sD
    go_wp2_with fail
    refine (new_any _).mono ?_
    rintro e u2 ⟨rfl, F, hO⟩
    have b := hO.below
    clear hO
    have D : Below (World.heap u1 |>.size) u1 u2 := Below.next (by repeat (first | exact Below.refl _ _ | apply Below.draws | apply below_lit)) b
    have sD := D.size
    replace Rz := Rz.below D
    replace B := Below.next B D
    clear b D sD
    go_wp2_with fail
    refine (ccheck_bad _ hok).mono ?_
    rintro e u3 ⟨rfl, b⟩
    have D : Below (World.heap u2 |>.size) u2 u3 := Below.next (by repeat (first | exact Below.refl _ _ | apply Below.draws | apply below_lit)) b
    have sD := D.size
    replace Rz := Rz.below D
    replace F := F.below D
    replace B := Below.next B D
    clear b D sD
    go_wp2
    go_ret
    exact ⟨rfl, Below.next B (by repeat (first | exact Below.refl _ _ | apply Below.draws | apply below_lit))⟩

/-! ### THE ROW's STEP: WRITTEN OUT: LEAVE IT -/
set_option maxRecDepth 100000 in
theorem lifted (os : Os) (started : os.Started) (H : Type) (enc : TypeId × Value → H) :
    ReturnsInHanded {} Try.checked os 6 .any (Rows.cauchyRowsSpec.pre6 enc Try.prog Try.f6 Rows.cauchyRowsRow.domain false) (Rows.cauchyRowsSpec.post enc Try.prog Try.f6 false true false false) := by
  refine returnsInHanded_of_change (C := Try.checked) own started (by kernel_rfl) Try.func6
    (ChangeSpec.witness6 (enc := enc) (C := Try.checked) false ⟨#[], #[.int .i64 0, .int .i64 0, .slice none 0 0], []⟩ 8 (by kernel_rfl) (by kernel_rfl) (by kernel_rfl) (by kernel_rfl)) ?_
  intro W base args ds gs before hval0 hW hcnd _
  have hval : ∀ (j : Nat) t v, Try.f6.params[j]? = some t → args[j]? = some v → Value.okWide Try.prog W .any base t v := hval0
  have hW' := hW
  obtain ⟨p, q, hA0, hV, rfl, hfz, hnd⟩ := hW
  have hA : DataW.TrodAll enc Try.prog W 0 (fun _ => true) true Try.f6.params.toList args.toList ds p := hA0
  rw [Try.params6] at hA hval
  obtain ⟨v0, vs0, d0, ds0, p0, q0, hargs, rfl, rfl, h0, r0⟩ := trodAll_cons hA
  obtain ⟨v1, vs1, d1, ds1, p1, q1, rfl, rfl, rfl, h1, r1⟩ := trodAll_cons r0
  obtain ⟨v2, vs2, d2, ds2, p2, q2, rfl, rfl, rfl, h2, r2⟩ := trodAll_cons r1
  obtain ⟨rfl, rfl, rfl⟩ := trodAll_nil r2
  obtain rfl : args = #[v0, v1, v2] := by cases args; simp_all
  obtain ⟨rfl, rfl⟩ := trodVars_none hV
  obtain ⟨a0, rfl, rfl, rfl, w0⟩ := open_int Try.underlying3 (hval 0 3 v0 rfl rfl) h0
  obtain ⟨a1, rfl, rfl, rfl, w1⟩ := open_int Try.underlying3 (hval 1 3 v1 rfl rfl) h1
  obtain ⟨a2, len2, cap2, rfl⟩ := okWide_slice Try.underlying36 (hval 2 36 v2 rfl rfl)
  have k2 := h2
  have lt2 : ∀ x ∈ p2, x.block < W.heap.size := by obtain ⟨m, hm⟩ := k2; exact DataW.trod_lt m _ _ _ hm
  obtain ⟨z2, w2⟩ : ∃ zs, IsRow .i64 W a2 len2 cap2 zs := by
    obtain ⟨fuel, hf⟩ := h2
    rcases open_ints Try.underlying36 Try.underlying3 (by kernel_rfl) hf with ⟨hcs, _⟩ | ⟨x, l, c, zs, hcs, _, hl, hm, hz, _, hcell, hwz⟩
    · simp [Value.cells] at hcs
      obtain ⟨rfl, rfl, rfl⟩ := hcs
      exact ⟨[], .inl ⟨rfl, rfl, rfl, rfl⟩⟩
    · simp [Value.cells] at hcs
      obtain ⟨rfl, rfl, rfl⟩ := hcs
      exact ⟨zs, .inr ⟨_, rfl, hl, hm, by simpa using hz, hcell, hwz⟩⟩
  clear hA0 hval0
  refine (walk a0 a1 a2 len2 cap2 z2 W w0 w1 w2).mono fun e W' ⟨he, bel⟩ => ?_
  subst he
  exact ⟨_, rfl, _, _, _, [], _, [], hW', trodAll_mk1 (shut_bool Try.underlying4 _), (trodAll_cons_mk (shut_int Try.underlying3 w0) (trodAll_cons_mk (shut_int Try.underlying3 w1) (trodAll_cons_mk (Below.trod laidOut (by kernel_rfl) (of_decide_eq_true (by kernel_rfl)) k2 bel lt2) trodAll_mk0))), rfl, bel.frame _, fun h => by cases h⟩

theorem over : Rows.cauchyRowsRow.holds Try.pinned (OpenSpec.ofChange Rows.cauchyRowsSpec) :=
  OpenClaim.holds_of_wide 6 Try.f6 rfl rfl rfl rfl rfl rfl rfl ⟨rfl, rfl, rfl, rfl, rfl⟩ rfl rfl rfl rfl rfl (by kernel_rfl) Try.func6 (by kernel_rfl)
    (of_decide_eq_true (by kernel_rfl)) (by unfold Func.isWrapper; first | (rw [if_pos (by decide +kernel)]; kernel_rfl) | (rw [if_neg (by decide +kernel)]; exact ⟨rfl, rfl⟩))
    (fun os started H enc _ => lifted os started H enc)

/-- ████ THE STATEMENT ████ -/
theorem proved : Rows.CauchyRowsSaid := over
end Go.Proofs.Ythfimeddfpchpaa.cauchyRows
namespace Go.Proofs.Ythfimeddfpchpaa
theorem cauchyRows_holds : Rows.CauchyRowsSaid := cauchyRows.proved
#print axioms cauchyRows_holds
end Go.Proofs.Ythfimeddfpchpaa
