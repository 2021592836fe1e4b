/- PROVED: for all k, m, every word and number c the call SyndromeScales(k, m, word, c) returns true, and its arguments read behind it as before; no conditions. -/
import Derived.Test.YtjgeipmfdmdmkaaRows
import Derived.Test.YtjgeipmfdmdmkaaTome6
import Derived.Test.YtjgeipmfdmdmkaaTome7
import Derived.WalkKit
import Derived.ProofKit
import Derived.OpenShut
import Derived.ShutString
import Derived.ChangeOld
import Derived.Below
namespace Go.Proofs.Ytjgeipmfdmdmkaa.syndromeScales
open Go.ChangeShapes Go.WideShapes Go.ChangeAt Go.RowKit
open Go.ChangeMaps (open_string shut_string)
set_option linter.unusedVariables false

theorem own : ownKnob Try.prog.godebug = none := by kernel_rfl
theorem laidOut : laidOutB Try.prog = true := by kernel_rfl

/-- WHAT THE WALK IS TOLD OF A SLICE OF INTEGERS THAT CAME IN: it is nil; or it leads to a row of 'cap' cells, the numbers 'zs' (the first 'len' are its elements, the rest its spare room), each fitting its kind. -/
def IsRow (k : IntKind) (w : World) (a : Option Addr) (len cap : Nat) (zs : List Int) : Prop :=
  (a = none ∧ len = 0 ∧ cap = 0 ∧ zs = []) ∨
  ∃ x, a = some x ∧ len ≤ cap ∧ cap ≤ maxLen ∧ zs.length = cap ∧ (∀ i, i < zs.length → w.cell? (x.add i) = some (.int k (zs.getD i 0))) ∧ ∀ n ∈ zs, (Lit.int k n).wf = true

open Gf
set_option linter.unusedSimpArgs false
set_option maxRecDepth 100000 in
set_option maxHeartbeats 4000000 in
theorem walk (a0 : Int) (a1 : Int) (a2 : Option Addr) (len2 cap2 : Nat) (z2 : List Int) (a3 : Int) (w : World) (w0 : (Lit.int .i64 a0).wf = true) (w1 : (Lit.int .i64 a1).wf = true) (w2 : IsRow .u8 w a2 len2 cap2 z2) (w3 : (Lit.int .u8 a3).wf = true) :
    Calls Try.prog 7 #[.int .i64 a0, .int .i64 a1, .slice a2 len2 cap2, .int .u8 a3] w fun e w' => e = .returned (.bool true) ∧ Below w.heap.size w w' := by
  obtain ⟨z, rfl, w2⟩ := rd_row w2
  obtain ⟨y, rfl⟩ : ∃ y : UInt8, a3 = ((y.toNat : Nat) : Int) := ⟨UInt8.ofNat (a3).toNat, by have := bounds_u8 w3; rw [ofNat_u8 (by omega)]; omega⟩
  obtain ⟨i0, hi, hz0, hz1, hz2⟩ := info_parts info_u8
  have hzl := w2.len
  unfold maxLen at hzl
  go_enter Try.func7, Try.ntmps7
  have B : Below w.heap.size w w := Below.refl _ _
  go_wp2_with fail
  refine (awake8_any _).mono ?_
  rintro e u1 ⟨rfl, b⟩
  have D : Below (World.heap w |>.size) w u1 := Below.next (by repeat (first | exact Below.refl _ _ | apply Below.drewN | apply Below.drew | apply Below.draws | apply below_lit)) b
  replace w2 := w2.below D
  replace B := Below.next B D
  clear b D
  go_wp2_with fail
  refine (new_any _).mono ?_
  rintro e u2 ⟨rfl, F, hO⟩
  have b := hO.below
  clear hO
  have D : Below (World.heap u1 |>.size) u1 u2 := Below.next (by repeat (first | exact Below.refl _ _ | apply Below.drewN | apply Below.drew | apply Below.draws | apply below_lit)) b
  replace w2 := w2.below D
  replace B := Below.next B D
  clear b D
  go_wp2_with fail
  refine (few8_any a0 a1 _).mono ?_
  rintro e u3 ⟨rfl, b⟩
  have D : Below (World.heap u2 |>.size) u2 u3 := Below.next (by repeat (first | exact Below.refl _ _ | apply Below.drewN | apply Below.drew | apply Below.draws | apply below_lit)) b
  replace w2 := w2.below D
  replace F := F.below D
  replace B := Below.next B D
  clear b D
  generalize fewB a0 a1 = t0
  cases t0
  · skip
    go_wp2
    go_ret
    exact ⟨rfl, Below.next B (by repeat (first | exact Below.refl _ _ | apply Below.drewN | apply Below.drew | apply Below.draws | apply below_lit))⟩
  · by_cases h3 : z.length ≤ 300
    · have h3' : ¬ (z.length : Int) > 300 := by omega
      go_wp2
      go_loopw [11, 12] (fun o v wr => ∃ i : Nat, i ≤ z.length ∧ v = .int .i64 i ∧ wr.ownsRow (World.heap u3 |>.size) 5 1 o i ((upto (fun i => mu (co z i) y) i).map vb) ∧ Below (World.heap u3 |>.size) u3 wr) (fun _ v _ => z.length - (intOf v).toNat)
      case atStart => exact ⟨0, by omega, rfl, World.ownsRow_nil _ _ _ _, Below.refl _ _⟩
      case round =>
        obtain ⟨i, hi9, rfl, hown, hbel⟩ := hrel
        have hsz := hbel.size
        obtain ⟨av, cv, rfl⟩ := owns_form hown
        by_cases hlt : i < z.length
        · have hlt' : (i : Int) < (z.length : Int) := by omega
          obtain ⟨zb, zo, rfl, _, cz⟩ := (w2.below hbel).byte (i := i) hlt
          have F1 := F.below hbel
          obtain ⟨x, hx⟩ : ∃ x, Hid (x = mu (co z i) y) := ⟨_, rfl⟩
          go_wp2_with fail
          refine (fmu_quiet F1 (co z i) y rfl rfl).mono ?_
          rintro e v3 ⟨rfl, nd, hv3⟩
          rw [← hx.out]
          have ho8 : World.ownsRow v3 (World.heap u3 |>.size) 5 1 (.slice av i cv) i ((upto (fun i => mu (co z i) y) i).map vb) := by rw [hv3]; exact hown
          have hB8 : Below (World.heap u3 |>.size) u3 v3 := by rw [hv3]; exact Below.draws hbel nd
          have hs8 := hB8.size
          clear hv3 hown hbel cz F1
          go_wp2_with (at_builtin; go_loud (refine wpList_append_rd2 _ rfl (.tmp 41) (.tmp 49) 22 rfl (World.heap u3 |>.size) 5 i0 Try.underlying22 hi hz0 hz1 hz2 (.slice av i cv) i _ rfl (World.ownsRow.alloc ho8 _) _ [x] rfl (rd_lit (n := 1) [x] rfl rfl (by decide)) (by simp; omega) (by simp; omega) ?_); intro x' w4 hx4 hg4 _)
          have HN : Hid (World.ownsRow w4 (World.heap u3 |>.size) 5 1 x' (i + 1) ((upto (fun i => mu (co z i) y) (i + 1)).map vb)) := (by rw [upto_vb_succ, ← hx.out]; exact hx4 : World.ownsRow w4 (World.heap u3 |>.size) 5 1 x' (i + 1) ((upto (fun i => mu (co z i) y) (i + 1)).map vb))
          have HB : Hid (Below (World.heap u3 |>.size) u3 w4) := grow_below hB8 ho8 hg4
          clear hx4 hg4 ho8 hB8
          go_roundw
          case rel => exact ⟨i + 1, by omega, by go_num, HN.out, HB.out⟩
          case measure => simp [intOf]; omega
        · have e : i = z.length := by omega
          have hge : ¬ (i : Int) < (z.length : Int) := by omega
          obtain ⟨T, hT⟩ : ∃ T, Hid (T = timesP z y) := ⟨_, rfl⟩
          have RT : Rd wr (.slice av i cv) T := by
            rw [hT.out]
            unfold timesP
            rw [← e]
            exact Rd.owned (base := (World.heap u3 |>.size)) (e := 5) (by rw [upto_length]; exact hown)
          have hTl : T.length = z.length := by rw [hT.out, timesP_length]
          replace w2 := w2.below hbel
          replace F := F.below hbel
          replace B := Below.next B hbel
          have hN1 : Hid (ofX a0 a1 T = ofX a0 a1 z) := ofX_len hTl.symm
          have hN2 : Hid ((ofR a0 a1 T).length = (ofR a0 a1 z).length) := ofR_len hTl.symm
          have hN3 : Hid (∀ i, i < (ofR a0 a1 z).length → co (ofR a0 a1 T) i = mu (co (ofR a0 a1 z) i) y) := fun i hi => by rw [hT.out]; exact ofR_times hi
          have hN4 : Hid (ofX a0 a1 z = 0 → ((ofR a0 a1 z).length : Int) = a1) := ofR_zero
          clear e hown hbel hTl hge
          go_wp2_with fail
          refine (sof_any (k := a0) (m := a1) (F.below (by repeat (first | exact Below.refl _ _ | apply Below.drewN | apply Below.drew | apply Below.draws | apply below_lit))) (w2.below (by repeat (first | exact Below.refl _ _ | apply Below.drewN | apply Below.drew | apply Below.draws | apply below_lit)))).mono ?_
          rintro e u4 ⟨vx, rfl, Rx, b⟩
          have D : Below (World.heap wr |>.size) wr u4 := Below.next (by repeat (first | exact Below.refl _ _ | apply Below.drewN | apply Below.drew | apply Below.draws | apply below_lit)) b
          replace w2 := w2.below D
          replace F := F.below D
          replace RT := RT.below D
          replace B := Below.next B D
          clear b D
          obtain ⟨X, hX⟩ : ∃ X, Hid (X = ofX a0 a1 z) := ⟨_, rfl⟩
          obtain ⟨P, hP⟩ : ∃ P, Hid (P = ofR a0 a1 z) := ⟨_, rfl⟩
          rw [← hX.out] at hN1 hN4 ⊢
          rw [← hP.out] at hN2 hN3 hN4 Rx
          obtain ⟨xa, xc, rfl⟩ := Rx.form
          go_wp2_with fail
          refine (sof_any (k := a0) (m := a1) (F.below (by repeat (first | exact Below.refl _ _ | apply Below.drewN | apply Below.drew | apply Below.draws | apply below_lit))) (RT.below (by repeat (first | exact Below.refl _ _ | apply Below.drewN | apply Below.drew | apply Below.draws | apply below_lit)))).mono ?_
          rintro e u5 ⟨vy, rfl, Ry, b⟩
          have D : Below (World.heap u4 |>.size) u4 u5 := Below.next (by repeat (first | exact Below.refl _ _ | apply Below.drewN | apply Below.drew | apply Below.draws | apply below_lit)) b
          replace w2 := w2.below D
          replace F := F.below D
          replace RT := RT.below D
          replace Rx := Rx.below D
          replace B := Below.next B D
          clear b D
          rw [hN1.out]
          obtain ⟨Q, hQ⟩ : ∃ Q, Hid (Q = ofR a0 a1 T) := ⟨_, rfl⟩
          rw [← hQ.out] at hN2 hN3 Ry
          obtain ⟨ya, yc, ey⟩ := Ry.form
          rw [hN2.out] at ey
          subst ey
          have q1 : (X != X) = false := by simp
          have q2 : ((P.length : Int) != (P.length : Int)) = false := by simp
          have hPl := Rx.len
          unfold maxLen at hPl
          clear w2 RT
          by_cases hX0 : X = 0
          · have hX1 : (X == 0) = true := by simp [hX0]
            have hm := hN4.out hX0
            have hX9 : Hid _ := hX0
            clear hX0
            have q4 : ((P.length : Int) != a1) = false := by simp [hm]
            have hm9 : Hid _ := hm
            clear hm
            go_wp2
            go_loopw [17] (fun v wr => ∃ i : Nat, i ≤ P.length ∧ v = .int .i64 i ∧ ∃ nd, wr = World.drewN u5 nd) (fun v _ => P.length - (intOf v).toNat)
            case atStart => exact ⟨0, by omega, rfl, 0, rfl⟩
            case round =>
              obtain ⟨i, hi9, rfl, nd, hd0⟩ := hrel
              have hd : Hid (wr = World.drewN u5 nd) := hd0
              by_cases hlt : i < P.length
              · have hlt' : (i : Int) < (P.length : Int) := by omega
                obtain ⟨xb, xo, rfl, _, cx⟩ := Rx.byte (i := i) hlt
                obtain ⟨yb, yo, rfl, _, cy⟩ := Ry.byte (i := i) (by rw [hN2.out]; exact hlt)
                rw [hN3.out i hlt] at cy
                have cx2 : World.cell? wr ⟨xb, xo + i, none⟩ = some (.int .u8 ((co P i).toNat : Nat)) := by rw [hd0]; exact cx
                have cy2 : World.cell? wr ⟨yb, yo + i, none⟩ = some (.int .u8 ((mu (co P i) y).toNat : Nat)) := by rw [hd0]; exact cy
                have F2 := F.drewN nd
                rw [← hd0] at F2
                have q3 : ((((mu (co P i) y).toNat : Nat) : Int) != (((mu (co P i) y).toNat : Nat) : Int)) = false := by simp
                clear cx cy hd0 F Rx Ry
                go_wp2
                go_quiet ((go_at_call 22; go_loud (exact Calls.quiet_of (fmu_quiet (F2.drewN _) (co P i) y rfl rfl))))
                go_wp2
                go_roundw
                case rel => exact ⟨i + 1, by omega, by go_num, _, by show _ = _; rw [hd.out, World.drewN_drewN]⟩
                case measure => simp [intOf]; omega
              · have e : i = P.length := by omega
                have hge : ¬ (i : Int) < (P.length : Int) := by omega
                clear hd0 F Rx Ry
                go_wp2
                go_ret
                exact ⟨rfl, by rw [hd.out]; exact Below.draws B nd⟩
          · have hX1 : (X == 0) = false := by simp [hX0]
            clear hX0
            go_wp2
            go_loopw [17] (fun v wr => ∃ i : Nat, i ≤ P.length ∧ v = .int .i64 i ∧ ∃ nd, wr = World.drewN u5 nd) (fun v _ => P.length - (intOf v).toNat)
            case atStart => exact ⟨0, by omega, rfl, 0, rfl⟩
            case round =>
              obtain ⟨i, hi9, rfl, nd, hd0⟩ := hrel
              have hd : Hid (wr = World.drewN u5 nd) := hd0
              by_cases hlt : i < P.length
              · have hlt' : (i : Int) < (P.length : Int) := by omega
                obtain ⟨xb, xo, rfl, _, cx⟩ := Rx.byte (i := i) hlt
                obtain ⟨yb, yo, rfl, _, cy⟩ := Ry.byte (i := i) (by rw [hN2.out]; exact hlt)
                rw [hN3.out i hlt] at cy
                have cx2 : World.cell? wr ⟨xb, xo + i, none⟩ = some (.int .u8 ((co P i).toNat : Nat)) := by rw [hd0]; exact cx
                have cy2 : World.cell? wr ⟨yb, yo + i, none⟩ = some (.int .u8 ((mu (co P i) y).toNat : Nat)) := by rw [hd0]; exact cy
                have F2 := F.drewN nd
                rw [← hd0] at F2
                have q3 : ((((mu (co P i) y).toNat : Nat) : Int) != (((mu (co P i) y).toNat : Nat) : Int)) = false := by simp
                clear cx cy hd0 F Rx Ry
                go_wp2
                go_quiet ((go_at_call 22; go_loud (exact Calls.quiet_of (fmu_quiet (F2.drewN _) (co P i) y rfl rfl))))
                go_wp2
                go_roundw
                case rel => exact ⟨i + 1, by omega, by go_num, _, by show _ = _; rw [hd.out, World.drewN_drewN]⟩
                case measure => simp [intOf]; omega
              · have e : i = P.length := by omega
                have hge : ¬ (i : Int) < (P.length : Int) := by omega
                clear hd0 F Rx Ry
                go_wp2
                go_ret
                exact ⟨rfl, by rw [hd.out]; exact Below.draws B nd⟩
    · have h3' : (z.length : Int) > 300 := by omega
      go_wp2
      go_ret
      exact ⟨rfl, Below.next B (by repeat (first | exact Below.refl _ _ | apply Below.drewN | apply Below.drew | apply Below.draws | apply below_lit))⟩

/-! ### THE ROW's STEP: WRITTEN OUT: LEAVE IT -/
set_option maxRecDepth 100000 in
theorem lifted (os : Os) (started : os.Started) (H : Type) (enc : TypeId × Value → H) :
    ReturnsInHanded {} Try.checked os 7 .any (Rows.syndromeScalesSpec.pre6 enc Try.prog Try.f7 Rows.syndromeScalesRow.domain false) (Rows.syndromeScalesSpec.post enc Try.prog Try.f7 false true false false) := by
  refine returnsInHanded_of_change (C := Try.checked) own started (by kernel_rfl) Try.func7
    (ChangeSpec.witness6 (enc := enc) (C := Try.checked) false ⟨#[], #[.int .i64 0, .int .i64 0, .slice none 0 0, .int .u8 0], []⟩ 8 (by kernel_rfl) (by kernel_rfl) (by kernel_rfl) (by kernel_rfl)) ?_
  intro W base args ds gs before hval0 hW hcnd _
  have hval : ∀ (j : Nat) t v, Try.f7.params[j]? = some t → args[j]? = some v → Value.okWide Try.prog W .any base t v := hval0
  have hW' := hW
  obtain ⟨p, q, hA0, hV, rfl, hfz, hnd⟩ := hW
  have hA : DataW.TrodAll enc Try.prog W 0 (fun _ => true) true Try.f7.params.toList args.toList ds p := hA0
  rw [Try.params7] at hA hval
  obtain ⟨v0, vs0, d0, ds0, p0, q0, hargs, rfl, rfl, h0, r0⟩ := trodAll_cons hA
  obtain ⟨v1, vs1, d1, ds1, p1, q1, rfl, rfl, rfl, h1, r1⟩ := trodAll_cons r0
  obtain ⟨v2, vs2, d2, ds2, p2, q2, rfl, rfl, rfl, h2, r2⟩ := trodAll_cons r1
  obtain ⟨v3, vs3, d3, ds3, p3, q3, rfl, rfl, rfl, h3, r3⟩ := trodAll_cons r2
  obtain ⟨rfl, rfl, rfl⟩ := trodAll_nil r3
  obtain rfl : args = #[v0, v1, v2, v3] := by cases args; simp_all
  obtain ⟨rfl, rfl⟩ := trodVars_none hV
  obtain ⟨a0, rfl, rfl, rfl, w0⟩ := open_int Try.underlying3 (hval 0 3 v0 rfl rfl) h0
  obtain ⟨a1, rfl, rfl, rfl, w1⟩ := open_int Try.underlying3 (hval 1 3 v1 rfl rfl) h1
  obtain ⟨a2, len2, cap2, rfl⟩ := okWide_slice Try.underlying22 (hval 2 22 v2 rfl rfl)
  have k2 := h2
  have lt2 : ∀ x ∈ p2, x.block < W.heap.size := by obtain ⟨m, hm⟩ := k2; exact DataW.trod_lt m _ _ _ hm
  obtain ⟨z2, w2⟩ : ∃ zs, IsRow .u8 W a2 len2 cap2 zs := by
    obtain ⟨fuel, hf⟩ := h2
    rcases open_ints Try.underlying22 Try.underlying5 (by kernel_rfl) hf with ⟨hcs, _⟩ | ⟨x, l, c, zs, hcs, _, hl, hm, hz, _, hcell, hwz⟩
    · simp [Value.cells] at hcs
      obtain ⟨rfl, rfl, rfl⟩ := hcs
      exact ⟨[], .inl ⟨rfl, rfl, rfl, rfl⟩⟩
    · simp [Value.cells] at hcs
      obtain ⟨rfl, rfl, rfl⟩ := hcs
      exact ⟨zs, .inr ⟨_, rfl, hl, hm, by simpa using hz, hcell, hwz⟩⟩
  obtain ⟨a3, rfl, rfl, rfl, w3⟩ := open_int Try.underlying5 (hval 3 5 v3 rfl rfl) h3
  clear hA0 hval0
  refine (walk a0 a1 a2 len2 cap2 z2 a3 W w0 w1 w2 w3).mono fun e W' ⟨he, bel⟩ => ?_
  subst he
  exact ⟨_, rfl, _, _, _, [], _, [], hW', trodAll_mk1 (shut_bool Try.underlying4 _), (trodAll_cons_mk (shut_int Try.underlying3 w0) (trodAll_cons_mk (shut_int Try.underlying3 w1) (trodAll_cons_mk (Below.trod laidOut (by kernel_rfl) (of_decide_eq_true (by kernel_rfl)) k2 bel lt2) (trodAll_cons_mk (shut_int Try.underlying5 w3) trodAll_mk0)))), rfl, bel.frame _, fun h => by cases h⟩

theorem over : Rows.syndromeScalesRow.holds Try.pinned (OpenSpec.ofChange Rows.syndromeScalesSpec) :=
  OpenClaim.holds_of_wide 7 Try.f7 rfl rfl rfl rfl rfl rfl rfl ⟨rfl, rfl, rfl, rfl, rfl⟩ rfl rfl rfl rfl rfl (by kernel_rfl) Try.func7 (by kernel_rfl)
    (of_decide_eq_true (by kernel_rfl)) (by unfold Func.isWrapper; first | (rw [if_pos (by decide +kernel)]; kernel_rfl) | (rw [if_neg (by decide +kernel)]; exact ⟨rfl, rfl⟩))
    (fun os started H enc _ => lifted os started H enc)

/-- ████ THE STATEMENT ████ -/
theorem proved : Rows.SyndromeScalesSaid := over
end Go.Proofs.Ytjgeipmfdmdmkaa.syndromeScales
namespace Go.Proofs.Ytjgeipmfdmdmkaa
theorem syndromeScales_holds : Rows.SyndromeScalesSaid := syndromeScales.proved
#print axioms syndromeScales_holds
end Go.Proofs.Ytjgeipmfdmdmkaa
