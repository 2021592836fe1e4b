/- PROVED: for all numbers k and m the call CauchyMore(k, m) returns true; no conditions. -/
import Derived.Test.YthfimeddfpchpaaRows
import Derived.Test.YthfimeddfpchpaaCaAwake
import Derived.Test.YthfimeddfpchpaaCaLaws
import Derived.WalkKit
import Derived.ProofKit
import Derived.OpenShut
import Derived.ShutString
namespace Go.Proofs.Ythfimeddfpchpaa.cauchyMore
open Go.ChangeShapes Go.WideShapes Go.ChangeAt Go.RowKit
open Go.ChangeMaps (open_string shut_string)
set_option linter.unusedVariables false      -- a walk need not use every 'w<i>' (that an integer argument fits its kind)

theorem own : ownKnob Try.prog.godebug = none := by kernel_rfl

open Gf
set_option linter.unusedSimpArgs false
set_option maxRecDepth 100000 in
set_option maxHeartbeats 2000000 in
theorem walk (a0 : Int) (a1 : Int) (w0 : (Lit.int .i64 a0).wf = true) (w1 : (Lit.int .i64 a1).wf = true) (w : World) :
    Calls Try.prog 7 #[.int .i64 a0, .int .i64 a1] w fun e w' => e = .returned (.bool true) ∧ Below w.heap.size w w' := by
  clear w0 w1
  by_cases hok : OkC a0 a1
  · obtain ⟨k, m, e1, e2, h1, h2⟩ := hok.nat
    subst e1 e2
    obtain ⟨N, hN⟩ : ∃ N, Hid (N = k + m) := ⟨_, rfl⟩
    have gN : (k : Int) + (m : Int) = (N : Int) := by have := hN.out; omega
    have hN2 : N ≤ 256 := by have := hN.out; omega
    by_cases h40 : N ≤ 40
    · by_cases hm0 : m = 0
      · have h40' : ¬ (N : Int) > 40 := by omega
        have hm0' : ((m : Int) == 0) = true := by rw [beq_iff_eq]; omega
        clear hm0
        go_enter Try.func7, Try.ntmps7
        have B : Below w.heap.size w w := Below.refl _ _
        go_wp2_with fail
        refine (awake5_any _).mono ?_
        rintro e u1 ⟨rfl, b⟩
        have D : Below (World.heap w |>.size) w u1 := Below.next (by repeat (first | exact Below.refl _ _ | apply Below.draws | apply below_lit)) b
        have sD := D.size
        replace B := Below.next B D
        clear b D sD
        go_wp2_with fail
        refine (new_any _).mono ?_
        rintro e u2 ⟨rfl, F, hO⟩
        have b := hO.below
        clear hO
        have D : Below (World.heap u1 |>.size) u1 u2 := Below.next (by repeat (first | exact Below.refl _ _ | apply Below.draws | apply below_lit)) b
        have sD := D.size
        replace B := Below.next B D
        clear b D sD
        go_wp2_with fail
        refine (ccheck_ok _ hok).mono ?_
        rintro e u3 ⟨rfl, b⟩
        have D : Below (World.heap u2 |>.size) u2 u3 := Below.next (by repeat (first | exact Below.refl _ _ | apply Below.draws | apply below_lit)) b
        have sD := D.size
        replace F := F.below D
        replace B := Below.next B D
        clear b D sD
        go_wp2
        go_ret
        exact ⟨rfl, Below.next B (by repeat (first | exact Below.refl _ _ | apply Below.draws | apply below_lit))⟩
      · have h40' : ¬ (N : Int) > 40 := by omega
        have hm0' : ((m : Int) == 0) = false := by rw [beq_eq_false_iff_ne]; omega
        obtain ⟨m1, em1⟩ : ∃ m1, Hid (m1 = m - 1) := ⟨_, rfl⟩
        have gm1 : (m : Int) - 1 = (m1 : Int) := by have := em1.out; omega
        obtain ⟨N1, hN1⟩ : ∃ N1, Hid (N1 = k + m1) := ⟨_, rfl⟩
        have HG : ∀ (w : World) (b : Nat), FieldAt w b → Calls Try.prog 16 #[.pointer (some ⟨b, 0, none⟩), .int .i64 (k : Int), .int .i64 (m : Int)] w (MakesM w N k (genF k)) := fun w b hF => by rw [hN.out]; exact cgen_ok k m hF h1 h2 rfl rfl
        have HG1 : ∀ (w : World) (b : Nat), FieldAt w b → Calls Try.prog 16 #[.pointer (some ⟨b, 0, none⟩), .int .i64 (k : Int), .int .i64 (m1 : Int)] w (MakesM w N1 k (genF k)) := fun w b hF => by rw [hN1.out]; exact cgen_ok k m1 hF h1 (by have := em1.out; omega) rfl rfl
        obtain ⟨La, hLa⟩ : ∃ L, Hid (L = flat N k (genF k)) := ⟨_, rfl⟩
        obtain ⟨Lb, hLb⟩ : ∃ L, Hid (L = flat N1 k (genF k)) := ⟨_, rfl⟩
        obtain ⟨Lp, hLp⟩ : ∃ L, Hid (L = flat m k (parF k)) := ⟨_, rfl⟩
        obtain ⟨kk, ekk⟩ : ∃ kk, Hid (kk = k * k) := ⟨_, rfl⟩
        have lLa : Hid (La.length = N * k) := by show _ = _; rw [hLa.out, flat_length]
        have lLb : Hid (Lb.length = N1 * k) := by show _ = _; rw [hLb.out, flat_length]
        have lLp : Hid (Lp.length = m * k) := by show _ = _; rw [hLp.out, flat_length]
        have gA : (N : Int) * (k : Int) = (La.length : Int) := by rw [lLa.out]; exact_mod_cast rfl
        have hNN : N = N1 + 1 := by have := hN.out; have := hN1.out; have := em1.out; omega
        have hAB : La.length = Lb.length + k := by rw [lLa.out, lLb.out, hNN, Nat.add_mul, Nat.one_mul]
        have gB : (La.length : Int) - (k : Int) = (Lb.length : Int) := by omega
        have gP : (m : Int) * (k : Int) = (Lp.length : Int) := by rw [lLp.out]; exact_mod_cast rfl
        have gK : (k : Int) * (k : Int) = (kk : Int) := by rw [ekk.out]; exact_mod_cast rfl
        have hLs : La.length ≤ 65536 := by rw [lLa.out]; exact mul_small (by omega) (by omega)
        have HLs : Hid (La.length = kk + Lp.length) := by show _ = _; rw [lLa.out, lLp.out, ekk.out, hN.out, Nat.add_mul]
        have hLps : Lp.length ≤ 65536 := by have := HLs.out; omega
        have hkk : kk ≤ 65536 := by have := HLs.out; omega
        have hLbs : Lb.length ≤ La.length := by omega
        have w1' : IntKind.i64.wrap (La.length : Int) = (La.length : Int) := by rw [IntKind.wrap_i64]; omega
        have w2' : IntKind.i64.wrap (Lb.length : Int) = (Lb.length : Int) := by rw [IntKind.wrap_i64]; omega
        have w3' : IntKind.i64.wrap (Lp.length : Int) = (Lp.length : Int) := by rw [IntKind.wrap_i64]; omega
        have w4' : IntKind.i64.wrap (kk : Int) = (kk : Int) := by rw [IntKind.wrap_i64]; omega
        have HAB : Hid (∀ i, i < Lb.length → co La i = co Lb i) := fun i hi => by rw [hLa.out, hLb.out]; exact gen_more (by omega) (by rw [← lLb.out]; exact hi)
        have HAP : Hid (∀ i, i < Lp.length → co La (kk + i) = co Lp i) := fun i hi => by rw [hLa.out, hLp.out, ekk.out, hN.out]; exact gen_par (by rw [← lLp.out]; exact hi)
        have HP0 : Hid (∀ i, i < Lp.length → co Lp i ≠ 0) := fun i hi => by rw [hLp.out]; exact par_some h2 (by rw [← lLp.out]; exact hi)
        clear hNN hAB
        clear hm0
        go_enter Try.func7, Try.ntmps7
        have B : Below w.heap.size w w := Below.refl _ _
        go_wp2_with fail
        refine (awake5_any _).mono ?_
        rintro e u1 ⟨rfl, b⟩
        have D : Below (World.heap w |>.size) w u1 := Below.next (by repeat (first | exact Below.refl _ _ | apply Below.draws | apply below_lit)) b
        have sD := D.size
        replace B := Below.next B D
        clear b D sD
        go_wp2_with fail
        refine (new_any _).mono ?_
        rintro e u2 ⟨rfl, F, hO⟩
        have b := hO.below
        clear hO
        have D : Below (World.heap u1 |>.size) u1 u2 := Below.next (by repeat (first | exact Below.refl _ _ | apply Below.draws | apply below_lit)) b
        have sD := D.size
        replace B := Below.next B D
        clear b D sD
        go_wp2_with fail
        refine (ccheck_ok _ hok).mono ?_
        rintro e u3 ⟨rfl, b⟩
        have D : Below (World.heap u2 |>.size) u2 u3 := Below.next (by repeat (first | exact Below.refl _ _ | apply Below.draws | apply below_lit)) b
        have sD := D.size
        replace F := F.below D
        replace B := Below.next B D
        clear b D sD
        go_wp2_with fail
        refine (HG _ _ (F.below (by repeat (first | exact Below.refl _ _ | apply Below.draws | apply below_lit)))).mono ?_
        rintro e u4 ⟨va, rfl, Ra, b⟩
        have D : Below (World.heap u3 |>.size) u3 u4 := Below.next (by repeat (first | exact Below.refl _ _ | apply Below.draws | apply below_lit)) b
        have sD := D.size
        replace F := F.below D
        replace B := Below.next B D
        clear b D sD
        rw [← hLa.out] at Ra
        obtain ⟨aa, ca, rfl⟩ := Ra.form
        go_wp2_with fail
        refine (HG1 _ _ (F.below (by repeat (first | exact Below.refl _ _ | apply Below.draws | apply below_lit)))).mono ?_
        rintro e u5 ⟨vb, rfl, Rb, b⟩
        have D : Below (World.heap u4 |>.size) u4 u5 := Below.next (by repeat (first | exact Below.refl _ _ | apply Below.draws | apply below_lit)) b
        have sD := D.size
        replace F := F.below D
        replace Ra := Ra.below D
        have Xa : Box u5 (World.heap u4 |>.size) _ _ _ := Below.box b (by simp <;> omega) (by first | exact Box.new _ _ _ _ _ | exact (Box.new _ _ _ _ _).alloc (by simp) _ | exact ((Box.new _ _ _ _ _).alloc (by simp) _).alloc (by simp <;> omega) _)
        have la : (World.heap u4 |>.size) < (World.heap u5 |>.size) := by have := b.size; simp at this; omega
        replace B := Below.next B D
        clear b D sD
        have xa0 := Xa.c0
        have xa1 := Xa.c1
        have xa2 := Xa.c2
        rw [← hLb.out] at Rb
        obtain ⟨ab, cb, rfl⟩ := Rb.form
        go_wp2_with fail
        refine (cpar_ok k m (F.below (by repeat (first | exact Below.refl _ _ | apply Below.draws | apply below_lit))) h1 h2 rfl rfl).mono ?_
        rintro e u6 ⟨vp, rfl, Rp, b⟩
        clear xa0 xa1 xa2
        have D : Below (World.heap u5 |>.size) u5 u6 := Below.next (by repeat (first | exact Below.refl _ _ | apply Below.draws | apply below_lit)) b
        have sD := D.size
        replace F := F.below D
        replace Ra := Ra.below D
        replace Rb := Rb.below D
        replace Xa := Xa.below la D
        replace la := Nat.lt_of_lt_of_le la sD
        have Xb : Box u6 (World.heap u5 |>.size) _ _ _ := Below.box b (by simp <;> omega) (by first | exact Box.new _ _ _ _ _ | exact (Box.new _ _ _ _ _).alloc (by simp) _ | exact ((Box.new _ _ _ _ _).alloc (by simp) _).alloc (by simp <;> omega) _)
        have lb : (World.heap u5 |>.size) < (World.heap u6 |>.size) := by have := b.size; simp at this; omega
        replace B := Below.next B D
        clear b D sD
        have xa0 := Xa.c0
        have xa1 := Xa.c1
        have xa2 := Xa.c2
        have xb0 := Xb.c0
        have xb1 := Xb.c1
        have xb2 := Xb.c2
        rw [← hLp.out] at Rp
        obtain ⟨ap, cp, rfl⟩ := Rp.form
        clear xa0 xa1 xa2 xb0 xb1 xb2
        have hAl : Below (World.heap u6 |>.size) u6 (World.alloc u6 (.cells #[.int .i64 (m : Int), .int .i64 (k : Int), .slice ap Lp.length cp] 30)) := (Below.refl _ _).alloc (Nat.le_refl _) _
        have Xp := Box.new u6 (m : Int) (k : Int) (.slice ap Lp.length cp) 30
        replace Xa := Xa.below la hAl
        replace Xb := Xb.below lb hAl
        replace Ra := Ra.below hAl
        replace Rb := Rb.below hAl
        replace Rp := Rp.below hAl
        replace B := Below.next B hAl
        have xa2 := Xa.c2
        have xb2 := Xb.c2
        have xp2 := Xp.c2
        clear hAl
        go_wp2
        generalize World.alloc u6 (.cells #[.int .i64 (m : Int), .int .i64 (k : Int), .slice ap Lp.length cp] 30) = w9 at *
        go_loopw [13] (fun i wr => ∃ n : Nat, n ≤ Lb.length ∧ i = .int .i64 n ∧ ∃ d, Hid (wr = World.drewN w9 d)) (fun i _ => Lb.length - (intOf i).toNat)
        case atStart => exact ⟨0, by omega, rfl, 0, rfl⟩
        case round =>
          obtain ⟨n, hn, rfl, d, hd⟩ := hrel
          clear xa2 xb2 xp2
          have xa2 := (Xa.drewN d).c2
          have xb2 := (Xb.drewN d).c2
          have xp2 := (Xp.drewN d).c2
          rw [← hd.out] at xa2 xb2 xp2
          by_cases hlt : n < Lb.length
          · have hlt' : (n : Int) < (Lb.length : Int) := by omega
            have hlta : n < La.length := by omega
            have hlta' : (n : Int) < (La.length : Int) := by omega
            obtain ⟨ga, oa, ca', ea⟩ := Ra.somewhere (fun e => by rw [e] at hlta; simp at hlta)
            obtain ⟨gb, ob, cb', eb⟩ := Rb.somewhere (fun e => by rw [e] at hlt; simp at hlt)
            simp at ea eb
            obtain ⟨rfl, rfl⟩ := ea
            obtain ⟨rfl, rfl⟩ := eb
            have k1 : wr.cell? ⟨ga, oa + n, none⟩ = some (.int .u8 ((co Lb n).toNat : Nat)) := by rw [hd.out, ← HAB.out n hlt]; exact Ra.cellAt hlta
            have k2 : wr.cell? ⟨gb, ob + n, none⟩ = some (.int .u8 ((co Lb n).toNat : Nat)) := by rw [hd.out]; exact Rb.cellAt hlt
            go_wp2
            go_quiet (fail)
            go_wp2
            go_roundw
            case rel => exact ⟨n + 1, by omega, by go_num, _, by show _ = _; rw [hd.out, World.drewN_drewN]⟩
            case measure => simp [intOf]; omega
          · have hge : ¬ (n : Int) < (Lb.length : Int) := by omega
            go_wp2
            clear xa2 xb2 xp2
            obtain ⟨w8, rfl⟩ : ∃ w8, w8 = wr := ⟨_, rfl⟩
            go_loopw [14] (fun i wr => ∃ n : Nat, n ≤ Lp.length ∧ i = .int .i64 n ∧ ∃ d, Hid (wr = World.drewN w9 d)) (fun i _ => Lp.length - (intOf i).toNat)
            case atStart => exact ⟨0, by omega, rfl, d, hd⟩
            case round =>
              clear hlt hge hn hd
              obtain ⟨n, hn, rfl, d, hd⟩ := hrel
              have xa2 := (Xa.drewN d).c2
              have xp2 := (Xp.drewN d).c2
              rw [← hd.out] at xa2 xp2
              by_cases hlt : n < Lp.length
              · have hlt' : (n : Int) < (Lp.length : Int) := by omega
                obtain ⟨t, et⟩ : ∃ t, Hid (t = kk + n) := ⟨_, rfl⟩
                have gt : (kk : Int) + (n : Int) = (t : Int) := by have := et.out; omega
                have hta : t < La.length := by have := et.out; have := HLs.out; omega
                have hta' : (t : Int) < (La.length : Int) := by omega
                have gwt : IntKind.i64.wrap (t : Int) = (t : Int) := by rw [IntKind.wrap_i64]; omega
                obtain ⟨ga, oa, ca', ea⟩ := Ra.somewhere (fun e => by rw [e] at hta; simp at hta)
                obtain ⟨gp, op, cp', ep⟩ := Rp.somewhere (fun e => by rw [e] at hlt; simp at hlt)
                simp at ea ep
                obtain ⟨rfl, rfl⟩ := ea
                obtain ⟨rfl, rfl⟩ := ep
                have k1 : wr.cell? ⟨ga, oa + t, none⟩ = some (.int .u8 ((co Lp n).toNat : Nat)) := by rw [hd.out, ← HAP.out n hlt, ← et.out]; exact Ra.cellAt hta
                have k2 : wr.cell? ⟨gp, op + n, none⟩ = some (.int .u8 ((co Lp n).toNat : Nat)) := by rw [hd.out]; exact Rp.cellAt hlt
                have dz : ((((co Lp n).toNat : Nat) : Int) == 0) = false := by rw [eq_u8_zero]; exact decide_eq_false (HP0.out n hlt)
                have dq : ((((co Lp n).toNat : Nat) : Int) != (((co Lp n).toNat : Nat) : Int)) = false := by simp
                go_wp2
                go_quiet (fail)
                go_wp2
                go_roundw
                case rel => exact ⟨n + 1, by omega, by go_num, _, by show _ = _; rw [hd.out, World.drewN_drewN]⟩
                case measure => simp [intOf]; omega
              · have hge : ¬ (n : Int) < (Lp.length : Int) := by omega
                have HB : Hid (Below w.heap.size w wr) := by show Below _ _ _; rw [hd.out]; exact Below.draws B d
                go_wp2
                go_ret
                exact ⟨rfl, HB.out⟩
    · have h40' : (N : Int) > 40 := by omega
      go_enter Try.func7, Try.ntmps7
      have B : Below w.heap.size w w := Below.refl _ _
      go_wp2_with fail
      refine (awake5_any _).mono ?_
      rintro e u1 ⟨rfl, b⟩
      have D : Below (World.heap w |>.size) w u1 := Below.next (by repeat (first | exact Below.refl _ _ | apply Below.draws | apply below_lit)) b
      have sD := D.size
      replace B := Below.next B D
      clear b D sD
      go_wp2_with fail
      refine (new_any _).mono ?_
      rintro e u2 ⟨rfl, F, hO⟩
      have b := hO.below
      clear hO
      have D : Below (World.heap u1 |>.size) u1 u2 := Below.next (by repeat (first | exact Below.refl _ _ | apply Below.draws | apply below_lit)) b
      have sD := D.size
      replace B := Below.next B D
      clear b D sD
      go_wp2_with fail
      refine (ccheck_ok _ hok).mono ?_
      rintro e u3 ⟨rfl, b⟩
      have D : Below (World.heap u2 |>.size) u2 u3 := Below.next (by repeat (first | exact Below.refl _ _ | apply Below.draws | apply below_lit)) b
      have sD := D.size
      replace F := F.below D
      replace B := Below.next B D
      clear b D sD
      go_wp2
      go_ret
      exact ⟨rfl, Below.next B (by repeat (first | exact Below.refl _ _ | apply Below.draws | apply below_lit))⟩
  · go_enter Try.func7, Try.ntmps7
    have B : Below w.heap.size w w := Below.refl _ _
    go_wp2_with fail
    refine (awake5_any _).mono ?_
    rintro e u1 ⟨rfl, b⟩
    have D : Below (World.heap w |>.size) w u1 := Below.next (by repeat (first | exact Below.refl _ _ | apply Below.draws | apply below_lit)) b
    have sD := D.size
    replace B := Below.next B D
    clear b D sD
    go_wp2_with fail
    refine (new_any _).mono ?_
    rintro e u2 ⟨rfl, F, hO⟩
    have b := hO.below
    clear hO
    have D : Below (World.heap u1 |>.size) u1 u2 := Below.next (by repeat (first | exact Below.refl _ _ | apply Below.draws | apply below_lit)) b
    have sD := D.size
    replace B := Below.next B D
    clear b D sD
    go_wp2_with fail
    refine (ccheck_bad _ hok).mono ?_
    rintro e u3 ⟨rfl, b⟩
    have D : Below (World.heap u2 |>.size) u2 u3 := Below.next (by repeat (first | exact Below.refl _ _ | apply Below.draws | apply below_lit)) b
    have sD := D.size
    replace F := F.below D
    replace B := Below.next B D
    clear b D sD
    go_wp2
    go_ret
    exact ⟨rfl, Below.next B (by repeat (first | exact Below.refl _ _ | apply Below.draws | apply below_lit))⟩

/-! ### THE ROW's STEP: WRITTEN OUT: LEAVE IT -/
set_option maxRecDepth 100000 in
theorem lifted (os : Os) (started : os.Started) (H : Type) (enc : TypeId × Value → H) :
    ReturnsInHanded {} Try.checked os 7 .any (Rows.cauchyMoreSpec.pre6 enc Try.prog Try.f7 Rows.cauchyMoreRow.domain false) (Rows.cauchyMoreSpec.post enc Try.prog Try.f7 false true false false) := by
  refine returnsInHanded_of_change (C := Try.checked) own started (by kernel_rfl) Try.func7
    (ChangeSpec.witness6 (enc := enc) (C := Try.checked) false ⟨#[], #[.int .i64 0, .int .i64 0], []⟩ 8 (by kernel_rfl) (by kernel_rfl) (by kernel_rfl) (by kernel_rfl)) ?_
  intro W base args ds gs before hval0 hW hcnd _
  have hval : ∀ (j : Nat) t v, Try.f7.params[j]? = some t → args[j]? = some v → Value.okWide Try.prog W .any base t v := hval0
  have hW' := hW
  obtain ⟨p, q, hA0, hV, rfl, hfz, hnd⟩ := hW
  have hA : DataW.TrodAll enc Try.prog W 0 (fun _ => true) true Try.f7.params.toList args.toList ds p := hA0
  rw [Try.params7] at hA hval
  obtain ⟨v0, vs0, d0, ds0, p0, q0, hargs, rfl, rfl, h0, r0⟩ := trodAll_cons hA
  obtain ⟨v1, vs1, d1, ds1, p1, q1, rfl, rfl, rfl, h1, r1⟩ := trodAll_cons r0
  obtain ⟨rfl, rfl, rfl⟩ := trodAll_nil r1
  obtain rfl : args = #[v0, v1] := by cases args; simp_all
  obtain ⟨rfl, rfl⟩ := trodVars_none hV
  obtain ⟨a0, rfl, rfl, rfl, w0⟩ := open_int Try.underlying3 (hval 0 3 v0 rfl rfl) h0
  obtain ⟨a1, rfl, rfl, rfl, w1⟩ := open_int Try.underlying3 (hval 1 3 v1 rfl rfl) h1
  clear hA0 hval0
  simp only [List.append_nil] at hW'
  refine (walk a0 a1 w0 w1 W).mono fun e W' ⟨he, hg⟩ => ?_
  subst he
  exact ⟨_, rfl, _, _, _, [], _, [], hW', trodAll_mk1 (shut_bool Try.underlying4 _), (trodAll_cons_mk (shut_int Try.underlying3 w0) (trodAll_cons_mk (shut_int Try.underlying3 w1) trodAll_mk0)), rfl, hg.frame _, fun h => by cases h⟩

theorem over : Rows.cauchyMoreRow.holds Try.pinned (OpenSpec.ofChange Rows.cauchyMoreSpec) :=
  OpenClaim.holds_of_wide 7 Try.f7 rfl rfl rfl rfl rfl rfl rfl ⟨rfl, rfl, rfl, rfl, rfl⟩ rfl rfl rfl rfl rfl (by kernel_rfl) Try.func7 (by kernel_rfl)
    (of_decide_eq_true (by kernel_rfl)) (by unfold Func.isWrapper; first | (rw [if_pos (by decide +kernel)]; kernel_rfl) | (rw [if_neg (by decide +kernel)]; exact ⟨rfl, rfl⟩))
    (fun os started H enc _ => lifted os started H enc)

/-- ████ THE STATEMENT ████ -/
theorem proved : Rows.CauchyMoreSaid :=
  over
end Go.Proofs.Ythfimeddfpchpaa.cauchyMore
namespace Go.Proofs.Ythfimeddfpchpaa
theorem cauchyMore_holds : Rows.CauchyMoreSaid := cauchyMore.proved
#print axioms cauchyMore_holds
end Go.Proofs.Ythfimeddfpchpaa
