/- PROVED: for all lists s and known and every number c the call KeyeqScales(s, known, c) returns true, and its arguments read behind it as before; no conditions. -/
import Derived.Test.YtlbachgbeefhcabRows
import Derived.Test.YtlbachgbeefhcabTome7
import Derived.Test.YtlbachgbeefhcabTome5
import Derived.WalkKit
import Derived.ProofKit
import Derived.OpenShut
import Derived.ShutString
import Derived.ChangeOld
import Derived.Below
namespace Go.Proofs.Ytlbachgbeefhcab.keyeqScales
open Go.ChangeShapes Go.WideShapes Go.ChangeAt Go.RowKit
open Go.ChangeMaps (open_string shut_string)
set_option linter.unusedVariables false

theorem own : ownKnob Try.prog.godebug = none := by kernel_rfl
theorem laidOut : laidOutB Try.prog = true := by kernel_rfl

/-- WHAT THE WALK IS TOLD OF A SLICE OF INTEGERS THAT CAME IN: it is nil; or it leads to a row of 'cap' cells, the numbers 'zs' (the first 'len' are its elements, the rest its spare room), each fitting its kind. -/
def IsRow (k : IntKind) (w : World) (a : Option Addr) (len cap : Nat) (zs : List Int) : Prop :=
  (a = none ∧ len = 0 ∧ cap = 0 ∧ zs = []) ∨
  ∃ x, a = some x ∧ len ≤ cap ∧ cap ≤ maxLen ∧ zs.length = cap ∧ (∀ i, i < zs.length → w.cell? (x.add i) = some (.int k (zs.getD i 0))) ∧ ∀ n ∈ zs, (Lit.int k n).wf = true

open Gf
set_option linter.unusedSimpArgs false
set_option maxRecDepth 100000 in
set_option maxHeartbeats 4000000 in
theorem walk (a0 : Option Addr) (len0 cap0 : Nat) (z0 : List Int) (a1 : Option Addr) (len1 cap1 : Nat) (z1 : List Int) (a2 : Int) (w : World) (w0 : IsRow .u8 w a0 len0 cap0 z0) (w1 : IsRow .u8 w a1 len1 cap1 z1) (w2 : (Lit.int .u8 a2).wf = true) :
    Calls Try.prog 3 #[.slice a0 len0 cap0, .slice a1 len1 cap1, .int .u8 a2] w fun e w' => e = .returned (.bool true) ∧ Below w.heap.size w w' := by
  obtain ⟨z0, rfl, w0⟩ := rd_row w0
  obtain ⟨z1, rfl, w1⟩ := rd_row w1
  obtain ⟨y, rfl⟩ : ∃ y : UInt8, a2 = ((y.toNat : Nat) : Int) := ⟨UInt8.ofNat (a2).toNat, by have := bounds_u8 w2; rw [ofNat_u8 (by omega)]; omega⟩
  obtain ⟨i0, hi, hi0, hi1, hi2⟩ := info_parts info_u8
  go_enter Try.func3, Try.ntmps3
  have B : Below w.heap.size w w := Below.refl _ _
  go_wp2_with fail
  refine (awake9_any _).mono ?_
  rintro e u1 ⟨rfl, b⟩
  have D : Below (World.heap w |>.size) w u1 := Below.next (by repeat (first | exact Below.refl _ _ | apply Below.drewN | apply Below.drew | apply Below.draws | apply below_lit)) b
  replace w0 := w0.below D
  replace w1 := w1.below D
  replace B := Below.next B D
  clear b D
  go_wp2_with fail
  refine (new_any _).mono ?_
  rintro e u2 ⟨rfl, F, hO⟩
  have b := hO.below
  clear hO
  have D : Below (World.heap u1 |>.size) u1 u2 := Below.next (by repeat (first | exact Below.refl _ _ | apply Below.drewN | apply Below.drew | apply Below.draws | apply below_lit)) b
  replace w0 := w0.below D
  replace w1 := w1.below D
  replace B := Below.next B D
  clear b D
  have hxz0 := w0.len
  unfold maxLen at hxz0
  by_cases hz0 : z0.length ≤ 20
  · have hz0' : ¬ (z0.length : Int) > 20 := by omega
    have hxz1 := w1.len
    unfold maxLen at hxz1
    by_cases hz1 : z1.length ≤ 30
    · have hz1' : ¬ (z1.length : Int) > 30 := by omega
      go_wp2
      go_loopw [9, 10] (fun o v wr => ∃ i : Nat, i ≤ z0.length ∧ v = .int .i64 i ∧ wr.ownsRow (World.heap u2 |>.size) 5 1 o i ((upto (fun i => mu (co z0 i) y) i).map vb) ∧ Below (World.heap u2 |>.size) u2 wr) (fun _ v _ => z0.length - (intOf v).toNat)
      case atStart => exact ⟨0, by omega, rfl, World.ownsRow_nil _ _ _ _, Below.refl _ _⟩
      case round =>
        obtain ⟨i, hi9, rfl, hown, hbel⟩ := hrel
        have hsz := hbel.size
        obtain ⟨av, cv, rfl⟩ := owns_form hown
        by_cases hlt : i < z0.length
        · have hlt' : (i : Int) < (z0.length : Int) := by omega
          obtain ⟨zb, zo, rfl, _, cz⟩ := (w0.below hbel).byte (i := i) hlt
          have F1 := F.below hbel
          obtain ⟨x, hx⟩ : ∃ x, Hid (x = mu (co z0 i) y) := ⟨_, rfl⟩
          go_wp2_with fail
          refine (fmu_quiet F1 (co z0 i) y rfl rfl).mono ?_
          rintro e v3 ⟨rfl, nd, hv3⟩
          rw [← hx.out]
          have ho8 : World.ownsRow v3 (World.heap u2 |>.size) 5 1 (.slice av i cv) i ((upto (fun i => mu (co z0 i) y) i).map vb) := by rw [hv3]; exact hown
          have hB8 : Below (World.heap u2 |>.size) u2 v3 := by rw [hv3]; exact Below.draws hbel nd
          have hs8 := hB8.size
          clear hv3 hown hbel cz F1
          go_wp2_with (at_builtin; go_loud (refine wpList_append_rd2 _ rfl (.tmp 42) (.tmp 50) 22 rfl (World.heap u2 |>.size) 5 i0 Try.underlying22 hi hi0 hi1 hi2 (.slice av i cv) i _ rfl (World.ownsRow.alloc ho8 _) _ [x] rfl (rd_lit (n := 1) [x] rfl rfl (by decide)) (by simp; omega) (by simp; omega) ?_); intro x' w4 hx4 hg4 _)
          have HN : Hid (World.ownsRow w4 (World.heap u2 |>.size) 5 1 x' (i + 1) ((upto (fun i => mu (co z0 i) y) (i + 1)).map vb)) := (by rw [upto_vb_succ, ← hx.out]; exact hx4 : World.ownsRow w4 (World.heap u2 |>.size) 5 1 x' (i + 1) ((upto (fun i => mu (co z0 i) y) (i + 1)).map vb))
          have HB : Hid (Below (World.heap u2 |>.size) u2 w4) := grow_below hB8 ho8 hg4
          clear hx4 hg4 ho8 hB8
          go_roundw
          case rel => exact ⟨i + 1, by omega, by go_num, HN.out, HB.out⟩
          case measure => simp [intOf]; omega
        · have e : i = z0.length := by omega
          have hge : ¬ (i : Int) < (z0.length : Int) := by omega
          have RT : Rd wr (.slice av i cv) (scP z0 y) := by
            rw [scP_upto, ← e]
            exact Rd.owned (base := (World.heap u2 |>.size)) (e := 5) (by rw [upto_length]; exact hown)
          have hsl : Hid ((scP z0 y).length = z0.length) := scP_length z0 y
          replace w0 := w0.below hbel
          replace w1 := w1.below hbel
          replace F := F.below hbel
          replace B := Below.next B hbel
          clear e hown hbel
          go_wp2_with fail
          refine (ksol_any (F.below (by repeat (first | exact Below.refl _ _ | apply Below.drewN | apply Below.drew | apply Below.draws | apply below_lit))) (w0.below (by repeat (first | exact Below.refl _ _ | apply Below.drewN | apply Below.drew | apply Below.draws | apply below_lit))) (w1.below (by repeat (first | exact Below.refl _ _ | apply Below.drewN | apply Below.drew | apply Below.draws | apply below_lit))) (by omega) (by omega)).mono ?_
          rintro e u3 ⟨X1, A1, O1, va1, vo1, HK1, rfl, Ra1, Ro1, b⟩
          have D : Below (World.heap wr |>.size) wr u3 := Below.next (by repeat (first | exact Below.refl _ _ | apply Below.drewN | apply Below.drew | apply Below.draws | apply below_lit)) b
          replace w0 := w0.below D
          replace w1 := w1.below D
          replace F := F.below D
          replace RT := RT.below D
          replace B := Below.next B D
          clear b D
          obtain ⟨aa1, ca1, rfl⟩ := Ra1.form
          obtain ⟨ao1, co1, rfl⟩ := Ro1.form
          go_wp2_with fail
          refine (ksol_any (F.below (by repeat (first | exact Below.refl _ _ | apply Below.drewN | apply Below.drew | apply Below.draws | apply below_lit))) (RT.below (by repeat (first | exact Below.refl _ _ | apply Below.drewN | apply Below.drew | apply Below.draws | apply below_lit))) (w1.below (by repeat (first | exact Below.refl _ _ | apply Below.drewN | apply Below.drew | apply Below.draws | apply below_lit))) (by rw [hsl.out]; omega) (by omega)).mono ?_
          rintro e u4 ⟨X2, A2, O2, va2, vo2, HK2, rfl, Ra2, Ro2, b⟩
          have D : Below (World.heap u3 |>.size) u3 u4 := Below.next (by repeat (first | exact Below.refl _ _ | apply Below.drewN | apply Below.drew | apply Below.draws | apply below_lit)) b
          replace w0 := w0.below D
          replace w1 := w1.below D
          replace F := F.below D
          replace RT := RT.below D
          replace Ra1 := Ra1.below D
          replace Ro1 := Ro1.below D
          replace B := Below.next B D
          clear b D
          obtain ⟨aa2, ca2, rfl⟩ := Ra2.form
          obtain ⟨ao2, co2, rfl⟩ := Ro2.form
          clear w0 w1 RT
          by_cases hy : y = 0
          · have q1 : (((y.toNat : Nat) : Int) == 0) = true := by rw [eq_u8_zero]; exact decide_eq_true hy
            by_cases hb : BadK z0 z1
            · obtain ⟨rfl, rfl, rfl⟩ := HK1.bad hb
              obtain ⟨rfl, rfl, rfl⟩ := HK2.bad (BadK_sc.2 hb)
              clear HK1 HK2 hb hy
              go_wp2_with fail
              refine (same_b (Ra2.below (by repeat (first | exact Below.refl _ _ | apply Below.drewN | apply Below.drew | apply Below.draws | apply below_lit))) (rd_lit2 [1] (by simp) rfl rfl (by decide))).mono ?_
              rintro e u5 ⟨rfl, b⟩
              have D : Below (World.heap u4 |>.size) u4 u5 := Below.next (by repeat (first | exact Below.refl _ _ | apply Below.drewN | apply Below.drew | apply Below.draws | apply below_lit)) b
              replace F := F.below D
              replace Ra1 := Ra1.below D
              replace Ro1 := Ro1.below D
              replace Ra2 := Ra2.below D
              replace Ro2 := Ro2.below D
              replace B := Below.next B D
              clear b D
              go_wp2
              go_ret
              exact ⟨rfl, Below.next B (by repeat (first | exact Below.refl _ _ | apply Below.drewN | apply Below.drew | apply Below.draws | apply below_lit))⟩
            · rw [hy] at HK2
              obtain ⟨rfl, rfl, rfl⟩ := (KeyAns.nought hb).unique HK2
              clear HK1 HK2 hb hy
              go_wp2_with fail
              refine (same9_t (Ra2.below (by repeat (first | exact Below.refl _ _ | apply Below.drewN | apply Below.drew | apply Below.draws | apply below_lit))) (rd_lit2 [1] (by simp) rfl rfl (by decide)) rfl).mono ?_
              rintro e u5 ⟨rfl, b⟩
              have D : Below (World.heap u4 |>.size) u4 u5 := Below.next (by repeat (first | exact Below.refl _ _ | apply Below.drewN | apply Below.drew | apply Below.draws | apply below_lit)) b
              replace F := F.below D
              replace Ra1 := Ra1.below D
              replace Ro1 := Ro1.below D
              replace Ra2 := Ra2.below D
              replace Ro2 := Ro2.below D
              replace B := Below.next B D
              clear b D
              go_wp2
              go_ret
              exact ⟨rfl, Below.next B (by repeat (first | exact Below.refl _ _ | apply Below.drewN | apply Below.drew | apply Below.draws | apply below_lit))⟩
          · have q1 : (((y.toNat : Nat) : Int) == 0) = false := by rw [eq_u8_zero]; exact decide_eq_false hy
            have hol := HK1.len.2
            obtain ⟨e1, e2, e3⟩ := (HK1.sc hy).unique HK2
            subst e1 e2 e3
            clear HK1 HK2 hy
            go_wp2_with fail
            refine (same9_t (Ra1.below (by repeat (first | exact Below.refl _ _ | apply Below.drewN | apply Below.drew | apply Below.draws | apply below_lit))) (Ra2.below (by repeat (first | exact Below.refl _ _ | apply Below.drewN | apply Below.drew | apply Below.draws | apply below_lit))) rfl).mono ?_
            rintro e u5 ⟨rfl, b⟩
            have D : Below (World.heap u4 |>.size) u4 u5 := Below.next (by repeat (first | exact Below.refl _ _ | apply Below.drewN | apply Below.drew | apply Below.draws | apply below_lit)) b
            replace F := F.below D
            replace Ra1 := Ra1.below D
            replace Ro1 := Ro1.below D
            replace Ra2 := Ra2.below D
            replace Ro2 := Ro2.below D
            replace B := Below.next B D
            clear b D
            go_wp2_with fail
            refine (pmul_any (F.below (by repeat (first | exact Below.refl _ _ | apply Below.drewN | apply Below.drew | apply Below.draws | apply below_lit))) (Ro1.below (by repeat (first | exact Below.refl _ _ | apply Below.drewN | apply Below.drew | apply Below.draws | apply below_lit))) (rd_lit2 [y] (by simp) rfl rfl (by simp)) (by omega) (by simp)).mono ?_
            rintro e u6 ⟨vm, rfl, Rm, b⟩
            have D : Below (World.heap u5 |>.size) u5 u6 := Below.next (by repeat (first | exact Below.refl _ _ | apply Below.drewN | apply Below.drew | apply Below.draws | apply below_lit)) b
            replace F := F.below D
            replace Ra1 := Ra1.below D
            replace Ro1 := Ro1.below D
            replace Ra2 := Ra2.below D
            replace Ro2 := Ro2.below D
            replace B := Below.next B D
            clear b D
            obtain ⟨ma, mc, rfl⟩ := Rm.form
            go_wp2_with fail
            refine (same9_t (Ro2.below (by repeat (first | exact Below.refl _ _ | apply Below.drewN | apply Below.drew | apply Below.draws | apply below_lit))) (Rm.below (by repeat (first | exact Below.refl _ _ | apply Below.drewN | apply Below.drew | apply Below.draws | apply below_lit))) rfl).mono ?_
            rintro e u7 ⟨rfl, b⟩
            have D : Below (World.heap u6 |>.size) u6 u7 := Below.next (by repeat (first | exact Below.refl _ _ | apply Below.drewN | apply Below.drew | apply Below.draws | apply below_lit)) b
            replace F := F.below D
            replace Ra1 := Ra1.below D
            replace Ro1 := Ro1.below D
            replace Ra2 := Ra2.below D
            replace Ro2 := Ro2.below D
            replace Rm := Rm.below D
            replace B := Below.next B D
            clear b D
            go_wp2
            go_ret
            exact ⟨rfl, Below.next B (by repeat (first | exact Below.refl _ _ | apply Below.drewN | apply Below.drew | apply Below.draws | apply below_lit))⟩
    · have hz1' : (z1.length : Int) > 30 := by omega
      go_wp2
      go_ret
      exact ⟨rfl, Below.next B (by repeat (first | exact Below.refl _ _ | apply Below.drewN | apply Below.drew | apply Below.draws | apply below_lit))⟩
  · have hz0' : (z0.length : Int) > 20 := by omega
    go_wp2
    go_ret
    exact ⟨rfl, Below.next B (by repeat (first | exact Below.refl _ _ | apply Below.drewN | apply Below.drew | apply Below.draws | apply below_lit))⟩

/-! ### THE ROW's STEP: WRITTEN OUT: LEAVE IT -/
set_option maxRecDepth 100000 in
theorem lifted (os : Os) (started : os.Started) (H : Type) (enc : TypeId × Value → H) :
    ReturnsInHanded {} Try.checked os 3 .any (Rows.keyeqScalesSpec.pre6 enc Try.prog Try.f3 Rows.keyeqScalesRow.domain false) (Rows.keyeqScalesSpec.post enc Try.prog Try.f3 false true false false) := by
  refine returnsInHanded_of_change (C := Try.checked) own started (by kernel_rfl) Try.func3
    (ChangeSpec.witness6 (enc := enc) (C := Try.checked) false ⟨#[], #[.slice none 0 0, .slice none 0 0, .int .u8 0], []⟩ 8 (by kernel_rfl) (by kernel_rfl) (by kernel_rfl) (by kernel_rfl)) ?_
  intro W base args ds gs before hval0 hW hcnd _
  have hval : ∀ (j : Nat) t v, Try.f3.params[j]? = some t → args[j]? = some v → Value.okWide Try.prog W .any base t v := hval0
  have hW' := hW
  obtain ⟨p, q, hA0, hV, rfl, hfz, hnd⟩ := hW
  have hA : DataW.TrodAll enc Try.prog W 0 (fun _ => true) true Try.f3.params.toList args.toList ds p := hA0
  rw [Try.params3] at hA hval
  obtain ⟨v0, vs0, d0, ds0, p0, q0, hargs, rfl, rfl, h0, r0⟩ := trodAll_cons hA
  obtain ⟨v1, vs1, d1, ds1, p1, q1, rfl, rfl, rfl, h1, r1⟩ := trodAll_cons r0
  obtain ⟨v2, vs2, d2, ds2, p2, q2, rfl, rfl, rfl, h2, r2⟩ := trodAll_cons r1
  obtain ⟨rfl, rfl, rfl⟩ := trodAll_nil r2
  obtain rfl : args = #[v0, v1, v2] := by cases args; simp_all
  obtain ⟨rfl, rfl⟩ := trodVars_none hV
  obtain ⟨a0, len0, cap0, rfl⟩ := okWide_slice Try.underlying22 (hval 0 22 v0 rfl rfl)
  have k0 := h0
  have lt0 : ∀ x ∈ p0, x.block < W.heap.size := by obtain ⟨m, hm⟩ := k0; exact DataW.trod_lt m _ _ _ hm
  obtain ⟨z0, w0⟩ : ∃ zs, IsRow .u8 W a0 len0 cap0 zs := by
    obtain ⟨fuel, hf⟩ := h0
    rcases open_ints Try.underlying22 Try.underlying5 (by kernel_rfl) hf with ⟨hcs, _⟩ | ⟨x, l, c, zs, hcs, _, hl, hm, hz, _, hcell, hwz⟩
    · simp [Value.cells] at hcs
      obtain ⟨rfl, rfl, rfl⟩ := hcs
      exact ⟨[], .inl ⟨rfl, rfl, rfl, rfl⟩⟩
    · simp [Value.cells] at hcs
      obtain ⟨rfl, rfl, rfl⟩ := hcs
      exact ⟨zs, .inr ⟨_, rfl, hl, hm, by simpa using hz, hcell, hwz⟩⟩
  obtain ⟨a1, len1, cap1, rfl⟩ := okWide_slice Try.underlying22 (hval 1 22 v1 rfl rfl)
  have k1 := h1
  have lt1 : ∀ x ∈ p1, x.block < W.heap.size := by obtain ⟨m, hm⟩ := k1; exact DataW.trod_lt m _ _ _ hm
  obtain ⟨z1, w1⟩ : ∃ zs, IsRow .u8 W a1 len1 cap1 zs := by
    obtain ⟨fuel, hf⟩ := h1
    rcases open_ints Try.underlying22 Try.underlying5 (by kernel_rfl) hf with ⟨hcs, _⟩ | ⟨x, l, c, zs, hcs, _, hl, hm, hz, _, hcell, hwz⟩
    · simp [Value.cells] at hcs
      obtain ⟨rfl, rfl, rfl⟩ := hcs
      exact ⟨[], .inl ⟨rfl, rfl, rfl, rfl⟩⟩
    · simp [Value.cells] at hcs
      obtain ⟨rfl, rfl, rfl⟩ := hcs
      exact ⟨zs, .inr ⟨_, rfl, hl, hm, by simpa using hz, hcell, hwz⟩⟩
  obtain ⟨a2, rfl, rfl, rfl, w2⟩ := open_int Try.underlying5 (hval 2 5 v2 rfl rfl) h2
  clear hA0 hval0
  refine (walk a0 len0 cap0 z0 a1 len1 cap1 z1 a2 W w0 w1 w2).mono fun e W' ⟨he, bel⟩ => ?_
  subst he
  exact ⟨_, rfl, _, _, _, [], _, [], hW', trodAll_mk1 (shut_bool Try.underlying4 _), (trodAll_cons_mk (Below.trod laidOut (by kernel_rfl) (of_decide_eq_true (by kernel_rfl)) k0 bel lt0) (trodAll_cons_mk (Below.trod laidOut (by kernel_rfl) (of_decide_eq_true (by kernel_rfl)) k1 bel lt1) (trodAll_cons_mk (shut_int Try.underlying5 w2) trodAll_mk0))), rfl, bel.frame _, fun h => by cases h⟩

theorem over : Rows.keyeqScalesRow.holds Try.pinned (OpenSpec.ofChange Rows.keyeqScalesSpec) :=
  OpenClaim.holds_of_wide 3 Try.f3 rfl rfl rfl rfl rfl rfl rfl ⟨rfl, rfl, rfl, rfl, rfl⟩ rfl rfl rfl rfl rfl (by kernel_rfl) Try.func3 (by kernel_rfl)
    (of_decide_eq_true (by kernel_rfl)) (by unfold Func.isWrapper; first | (rw [if_pos (by decide +kernel)]; kernel_rfl) | (rw [if_neg (by decide +kernel)]; exact ⟨rfl, rfl⟩))
    (fun os started H enc _ => lifted os started H enc)

/-- ████ THE STATEMENT ████ -/
theorem proved : Rows.KeyeqScalesSaid := over
end Go.Proofs.Ytlbachgbeefhcab.keyeqScales
namespace Go.Proofs.Ytlbachgbeefhcab
theorem keyeqScales_holds : Rows.KeyeqScalesSaid := keyeqScales.proved
#print axioms keyeqScales_holds
end Go.Proofs.Ytlbachgbeefhcab
