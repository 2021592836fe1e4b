/- PROVED: for all k, m, every word and all slices missing of bools the call ErrdecNear(k, m, word, missing) returns true, and its arguments read behind it as before; no conditions. -/
import Derived.Test.YtchfonofjbpmaaaRows
import Derived.Test.YtchfonofjbpmaaaTome14
import Derived.WalkKit
import Derived.ProofKit
import Derived.OpenShut
import Derived.ShutString
import Derived.ChangeOld
import Derived.Below
import Derived.Deep.Grids
namespace Go.Proofs.Ytchfonofjbpmaaa.errdecNear
open Go.ChangeShapes Go.WideShapes Go.ChangeAt Go.RowKit
open Go.ChangeMaps (open_string shut_string)
set_option linter.unusedVariables false

theorem own : ownKnob Try.prog.godebug = none := by kernel_rfl
theorem laidOut : laidOutB Try.prog = true := by kernel_rfl

/-- WHAT THE WALK IS TOLD OF A SLICE OF INTEGERS THAT CAME IN: it is nil; or it leads to a row of 'cap' cells, the numbers 'zs' (the first 'len' are its elements, the rest its spare room), each fitting its kind. -/
def IsRow (k : IntKind) (w : World) (a : Option Addr) (len cap : Nat) (zs : List Int) : Prop :=
  (a = none ∧ len = 0 ∧ cap = 0 ∧ zs = []) ∨
  ∃ x, a = some x ∧ len ≤ cap ∧ cap ≤ maxLen ∧ zs.length = cap ∧ (∀ i, i < zs.length → w.cell? (x.add i) = some (.int k (zs.getD i 0))) ∧ ∀ n ∈ zs, (Lit.int k n).wf = true

open Gf
set_option linter.unusedSimpArgs false
set_option maxRecDepth 100000 in
set_option maxHeartbeats 4000000 in
theorem walk (a0 : Int) (a1 : Int) (a2 : Option Addr) (len2 cap2 : Nat) (z2 : List Int) (a3 : Option Addr) (len3 cap3 : Nat) (z3 : List Bool) (w : World) (w0 : (Lit.int .i64 a0).wf = true) (w1 : (Lit.int .i64 a1).wf = true) (w2 : IsRow .u8 w a2 len2 cap2 z2) (w3 : RdB w (.slice a3 len3 cap3) z3) :
    Calls Try.prog 6 #[.int .i64 a0, .int .i64 a1, .slice a2 len2 cap2, .slice a3 len3 cap3] w fun e w' => e = .returned (.bool true) ∧ Below w.heap.size w w' := by
  obtain ⟨z2, rfl, w2⟩ := rd_row w2
  obtain rfl := w3.lenEq
  obtain ⟨i0, hi, hz0, hz1, hz2⟩ := info_parts info_int10
  go_enter Try.func6, Try.ntmps6
  have B : Below w.heap.size w w := Below.refl _ _
  go_wp2_with fail
  refine (awake10_any _).mono ?_
  rintro e u1 ⟨rfl, b⟩
  have D : Below (World.heap w |>.size) w u1 := Below.next (by repeat (first | exact Below.refl _ _ | apply Below.drewN | apply Below.drew | apply Below.draws | apply below_lit)) b
  replace w2 := w2.below D
  replace w3 := w3.below D
  replace B := Below.next B D
  clear b D
  go_wp2_with fail
  refine (new_any _).mono ?_
  rintro e u2 ⟨rfl, F, hO⟩
  have b := hO.below
  clear hO
  have D : Below (World.heap u1 |>.size) u1 u2 := Below.next (by repeat (first | exact Below.refl _ _ | apply Below.drewN | apply Below.drew | apply Below.draws | apply below_lit)) b
  replace w2 := w2.below D
  replace w3 := w3.below D
  replace B := Below.next B D
  clear b D
  by_cases ok : OkC a0 a1
  · obtain ⟨k, m, rfl, rfl, h1, h2⟩ := ok.nat
    obtain ⟨s, hs⟩ : ∃ s, Hid (s = k + m) := ⟨_, rfl⟩
    have hs2 : s ≤ 256 := by have := hs.out; omega
    have hs1 : 1 ≤ s := by have := hs.out; omega
    have g1 : (k : Int) + (m : Int) = (s : Int) := by have := hs.out; omega
    have gw : IntKind.i64.wrap (s : Int) = (s : Int) := by rw [IntKind.wrap_i64]; omega
    by_cases h60 : (s : Int) > 60
    · skip
      go_wp2_with fail
      refine (ccheck_ok _ ok).mono ?_
      rintro e u3 ⟨rfl, b⟩
      have D : Below (World.heap u2 |>.size) u2 u3 := Below.next (by repeat (first | exact Below.refl _ _ | apply Below.drewN | apply Below.drew | apply Below.draws | apply below_lit)) b
      replace w2 := w2.below D
      replace w3 := w3.below D
      replace F := F.below D
      replace B := Below.next B D
      clear b D
      clear ok
      go_wp2
      go_ret
      exact ⟨rfl, Below.next B (by repeat (first | exact Below.refl _ _ | apply Below.drewN | apply Below.drew | apply Below.draws | apply below_lit))⟩
    · skip
      by_cases lz2 : z2.length = s
      · have qz2 : ((z2.length : Int) != (s : Int)) = false := by simp [lz2]
        have Lz2 : Hid _ := lz2
        clear lz2
        by_cases lz3 : z3.length = s
        · have qz3 : ((z3.length : Int) != (s : Int)) = false := by simp [lz3]
          have Lz3 : Hid _ := lz3
          clear lz3
          go_wp2_with fail
          refine (ccheck_ok _ ok).mono ?_
          rintro e u3 ⟨rfl, b⟩
          have D : Below (World.heap u2 |>.size) u2 u3 := Below.next (by repeat (first | exact Below.refl _ _ | apply Below.drewN | apply Below.drew | apply Below.draws | apply below_lit)) b
          replace w2 := w2.below D
          replace w3 := w3.below D
          replace F := F.below D
          replace B := Below.next B D
          clear b D
          have h2' : Hid _ := h2
          clear ok h2
          rcases wd_two h1 h2'.out (by rw [Lz2.out, hs.out]) (by rw [Lz3.out, hs.out]) with ⟨e1, e2, e3⟩ | ⟨c, hc, e1, e2, e3⟩
          · skip
            go_wp2_with fail
            refine (eword_any (k := (k : Int)) (m := (m : Int)) (F.below (by repeat (first | exact Below.refl _ _ | apply Below.drewN | apply Below.drew | apply Below.draws | apply below_lit))) (w2.below (by repeat (first | exact Below.refl _ _ | apply Below.drewN | apply Below.drew | apply Below.draws | apply below_lit))) (w3.below (by repeat (first | exact Below.refl _ _ | apply Below.drewN | apply Below.drew | apply Below.draws | apply below_lit)))).mono ?_
            rintro e u4 ⟨va, vd, rfl, Ra, Oa, b, fa⟩
            rw [e1]
            rw [e2] at Ra
            rw [e3] at Oa
            obtain ⟨aa, ac, rfl⟩ := Ra.form
            obtain ⟨da, dc, rfl⟩ := Oa.form
            clear fa Oa Ra e1 e2 e3
            have D : Below (World.heap u3 |>.size) u3 u4 := Below.next (by repeat (first | exact Below.refl _ _ | apply Below.drewN | apply Below.drew | apply Below.draws | apply below_lit)) b
            replace w2 := w2.below D
            replace w3 := w3.below D
            replace F := F.below D
            replace B := Below.next B D
            clear b D
            go_wp2
            go_ret
            exact ⟨rfl, Below.next B (by repeat (first | exact Below.refl _ _ | apply Below.drewN | apply Below.drew | apply Below.draws | apply below_lit))⟩
          · have HC : Hid _ := hc
            rw [← hs.out] at e2 e3
            clear hc
            go_wp2_with fail
            refine (eword_any (k := (k : Int)) (m := (m : Int)) (F.below (by repeat (first | exact Below.refl _ _ | apply Below.drewN | apply Below.drew | apply Below.draws | apply below_lit))) (w2.below (by repeat (first | exact Below.refl _ _ | apply Below.drewN | apply Below.drew | apply Below.draws | apply below_lit))) (w3.below (by repeat (first | exact Below.refl _ _ | apply Below.drewN | apply Below.drew | apply Below.draws | apply below_lit)))).mono ?_
            rintro e u4 ⟨va, vd, rfl, Ra, Oa, b, fa⟩
            rw [e1]
            rw [e2] at Ra
            have Wa := Oa.rd (wdP_small _ _ _ _)
            rw [e3] at Wa
            clear fa Oa e1 e2 e3
            have D : Below (World.heap u3 |>.size) u3 u4 := Below.next (by repeat (first | exact Below.refl _ _ | apply Below.drewN | apply Below.drew | apply Below.draws | apply below_lit)) b
            replace w2 := w2.below D
            replace w3 := w3.below D
            replace F := F.below D
            replace B := Below.next B D
            clear b D
            obtain ⟨aa, ac, ea⟩ := Ra.form
            rw [upto_length] at ea
            subst ea
            obtain ⟨da, dc, rfl⟩ := Wa.form
            rw [toI_length] at Wa ⊢
            have hpl : Hid ((plc (wrg (co z2) c (hb z3)) s).length = cnt (wrg (co z2) c (hb z3)) s) := plc_length _ _
            have hp6 : (plc (wrg (co z2) c (hb z3)) s).length ≤ s := by rw [hpl.out]; exact cnt_le _ _
            obtain ⟨P, hP⟩ : ∃ P, Hid (P = plc (wrg (co z2) c (hb z3)) s) := ⟨_, rfl⟩
            rw [← hP.out] at Wa hpl hp6 ⊢
            go_wp2_with fail
            refine (sof_ok (F.below (by repeat (first | exact Below.refl _ _ | apply Below.drewN | apply Below.drew | apply Below.draws | apply below_lit))) h1 h2'.out (Ra.below (by repeat (first | exact Below.refl _ _ | apply Below.drewN | apply Below.drew | apply Below.draws | apply below_lit))) (by rw [upto_length, hs.out]) rfl rfl).mono ?_
            rintro e u5 ⟨vs, rfl, Rs1, b⟩
            have D : Below (World.heap u4 |>.size) u4 u5 := Below.next (by repeat (first | exact Below.refl _ _ | apply Below.drewN | apply Below.drew | apply Below.draws | apply below_lit)) b
            replace w2 := w2.below D
            replace w3 := w3.below D
            replace F := F.below D
            replace Ra := Ra.below D
            replace Wa := Wa.below D
            replace B := Below.next B D
            clear b D
            obtain ⟨sa, sc, es⟩ := Rs1.form
            rw [upto_length] at es
            subst es
            have HZ : Hid (∀ l, l < m → co (upto (synF k m (co (upto c s))) m) l = 0) := fun l hl => by
              rw [co_upto_in hl]
              exact (HC.out.code.congr fun i hi => co_upto_in (by rw [hs.out]; exact hi)) l hl
            obtain ⟨SY, hSY⟩ : ∃ SY, Hid (SY = upto (synF k m (co (upto c s))) m) := ⟨_, rfl⟩
            have hSl : Hid (SY.length = m) := (by rw [hSY.out, upto_length] : SY.length = m)
            rw [← hSY.out] at Rs1 HZ
            go_wp2
            go_loop [16] (fun i => ∃ r : Nat, r ≤ m ∧ i = .int .i64 (r : Int)) (fun i => m - (intOf i).toNat)
            case atStart => exact ⟨0, by omega, rfl⟩
            case round =>
              obtain ⟨r, hr, rfl⟩ := hrel
              by_cases hlt : r < m
              · have hlt' : (r : Int) < (m : Int) := by omega
                obtain ⟨yb, yo, ey, _, cy⟩ := Rs1.byte (i := r) (by rw [hSl.out]; exact hlt)
                subst ey
                rw [HZ.out r hlt] at cy
                have cy0 : (World.cell? u5 ⟨yb, yo + r, none⟩) = some (.int .u8 0) := cy
                clear cy
                go_wp2
                go_round
                case rel => exact ⟨r + 1, by omega, by go_num⟩
                case measure => simp [intOf]; omega
              · have hge : ¬ (r : Int) < (m : Int) := by omega
                clear Rs1 HZ
                go_wp2
                clear hge hlt hr
                go_loopw [17, 18] (fun o i wr => ∃ r : Nat, r ≤ s ∧ i = .int .i64 (r : Int) ∧ OwnI wr (World.heap u5 |>.size) 3 o (plc (wrg (co z2) c (hb z3)) r) ∧ Below (World.heap u5 |>.size) u5 wr) (fun _ i _ => s - (intOf i).toNat)
                case atStart => exact ⟨0, by omega, rfl, OwnI.nil _ _ _, Below.refl _ _⟩
                case round =>
                  obtain ⟨r, hr, rfl, hO, hB⟩ := hrel
                  have hsz := hB.size
                  have hn : Hid ((plc (wrg (co z2) c (hb z3)) r).length ≤ 300) := (by rw [plc_length]; have := cnt_le (wrg (co z2) c (hb z3)) r; omega : (plc (wrg (co z2) c (hb z3)) r).length ≤ 300)
                  obtain ⟨av, cv, rfl⟩ := hO.form
                  by_cases hlt : r < s
                  · obtain ⟨b1, o1, e1, _, k1⟩ := (Ra.below hB).byte (i := r) (by rw [upto_length]; exact hlt)
                    obtain ⟨b2, o2, e2, _, k2⟩ := (w2.below hB).byte (show r < z2.length by rw [Lz2.out]; exact hlt)
                    obtain ⟨b3, o3, e3, _, k3⟩ := (w3.below hB).at (show r < z3.length by rw [Lz3.out]; exact hlt)
                    subst e1 e2 e3
                    rw [co_upto_in hlt] at k1
                    have hlt' : (r : Int) < (s : Int) := by omega
                    have hlt2 : (r : Int) < (z2.length : Int) := by rw [Lz2.out]; omega
                    have hlt3 : (r : Int) < (z3.length : Int) := by rw [Lz3.out]; omega
                    have E := plc_succ (wrg (co z2) c (hb z3)) r
                    cases e : wrg (co z2) c (hb z3) r with
                    | false =>
                      rw [e] at E
                      have E' : Hid (plc (wrg (co z2) c (hb z3)) (r + 1) = plc (wrg (co z2) c (hb z3)) r) := (by rw [E]; simp : plc (wrg (co z2) c (hb z3)) (r + 1) = plc (wrg (co z2) c (hb z3)) r)
                      have hw : hb z3 r = true ∨ (hb z3 r = false ∧ c r = co z2 r) := by
                        unfold wrg at e
                        cases hm2 : hb z3 r
                        · rw [hm2] at e; simp at e; exact Or.inr ⟨rfl, e⟩
                        · exact Or.inl rfl
                      clear Ra w2 w3 E e
                      rcases hw with hw | ⟨hw, hw2⟩
                      · rw [hw] at k3
                        clear hw
                        go_wp2_with fail
                        go_quiet (fail)
                        go_wp2
                        go_roundw
                        case rel => exact ⟨r + 1, by omega, by go_num, by rw [E'.out]; exact hO.drewN _, hB.drewN _⟩
                        case measure => simp [intOf]; omega
                      · rw [hw] at k3
                        rw [hw2] at k1
                        clear hw hw2
                        go_wp2_with fail
                        go_quiet (fail)
                        go_wp2
                        go_roundw
                        case rel => exact ⟨r + 1, by omega, by go_num, by rw [E'.out]; exact hO.drewN _, hB.drewN _⟩
                        case measure => simp [intOf]; omega
                    | true =>
                      rw [e] at E
                      have E' : Hid (plc (wrg (co z2) c (hb z3)) (r + 1) = plc (wrg (co z2) c (hb z3)) r ++ [r]) := E
                      have hw : hb z3 r = false ∧ c r ≠ co z2 r := by
                        unfold wrg at e
                        simpa using e
                      have hne : ((((c r).toNat : Nat) : Int) != (((co z2 r).toNat : Nat) : Int)) = true := by rw [ne_u8]; simp [hw.2]
                      rw [hw.1] at k3
                      clear Ra w2 w3 E e hw
                      go_wp2_with fail
                      go_quiet (fail)
                      go_wp2_with (at_builtin; go_loud (refine wpList_append_int rfl (.tmp 130) (.tmp 132) 28 rfl (World.heap u5 |>.size) 3 i0 Try.underlying28 hi hz0 hz1 hz2 (.slice av (plc (wrg (co z2) c (hb z3)) r).length cv) (plc (wrg (co z2) c (hb z3)) r) rfl (hO.drewN _) r _ 1 rfl (by have := hn.out; omega) hsz ?_); intro v' w9 hv2 hb2)
                      have HO : Hid (OwnI w9 (World.heap u5 |>.size) 3 v' (plc (wrg (co z2) c (hb z3)) (r + 1))) := (by rw [E'.out]; exact hv2 : OwnI w9 (World.heap u5 |>.size) 3 v' (plc (wrg (co z2) c (hb z3)) (r + 1)))
                      have HB : Hid (Below (World.heap u5 |>.size) u5 w9) := (hB.drewN _).trans hb2
                      clear hO hv2 hb2 hB k1 k2 k3 hne
                      go_wp2
                      go_roundw
                      case rel => exact ⟨r + 1, by omega, by go_num, HO.out, HB.out⟩
                      case measure => simp [intOf]; omega
                  · have hge : ¬ (r : Int) < (s : Int) := by omega
                    have er : r = s := by omega
                    rw [er, ← hP.out] at hO ⊢
                    have Rp := hO.rd (by omega)
                    have hfew := HC.out.few
                    rw [← hs.out, ← hpl.out] at hfew
                    have hcl : Hid (cnt (hb z3) z3.length = cnt (hb z3) s) := (by rw [Lz3.out] : cnt (hb z3) z3.length = cnt (hb z3) s)
                    obtain ⟨e0, he0⟩ : ∃ e0, Hid (e0 = cnt (hb z3) s) := ⟨_, rfl⟩
                    rw [← he0.out] at hfew hcl
                    have hg1 : IntKind.i64.wrap (2 * (P.length : Int)) = 2 * (P.length : Int) := by rw [IntKind.wrap_i64]; omega
                    have hg2 : IntKind.i64.wrap (2 * (P.length : Int) + (e0 : Int)) = 2 * (P.length : Int) + (e0 : Int) := by rw [IntKind.wrap_i64]; omega
                    have hle : 2 * (P.length : Int) + (e0 : Int) ≤ (m : Int) := by omega
                    have Wr := Wa.below hB
                    have C3 := w3.below hB
                    have BB := Below.next B hB
                    clear hO er hge hlt
                    go_wp2_with fail
                    refine (ints_t Wr Rp (by rw [toI_length]; omega) (by rw [toI_length]; omega) rfl).mono ?_
                    rintro e v8 ⟨rfl, b8⟩
                    have C8 := C3.below b8
                    have BB8 := Below.next BB b8
                    clear C3 BB b8 Wr Rp
                    go_wp2_with fail
                    refine (lcnt_b C8).mono ?_
                    rintro e v9 ⟨rfl, b9⟩
                    have BB9 := Below.next BB8 b9
                    rw [hcl.out]
                    clear C8 BB8 b9
                    go_wp2
                    go_ret
                    exact ⟨rfl, BB9⟩
        · have qz3 : ((z3.length : Int) != (s : Int)) = true := by simp; omega
          clear lz3
          go_wp2_with fail
          refine (ccheck_ok _ ok).mono ?_
          rintro e u3 ⟨rfl, b⟩
          have D : Below (World.heap u2 |>.size) u2 u3 := Below.next (by repeat (first | exact Below.refl _ _ | apply Below.drewN | apply Below.drew | apply Below.draws | apply below_lit)) b
          replace w2 := w2.below D
          replace w3 := w3.below D
          replace F := F.below D
          replace B := Below.next B D
          clear b D
          clear ok
          go_wp2
          go_ret
          exact ⟨rfl, Below.next B (by repeat (first | exact Below.refl _ _ | apply Below.drewN | apply Below.drew | apply Below.draws | apply below_lit))⟩
      · have qz2 : ((z2.length : Int) != (s : Int)) = true := by simp; omega
        clear lz2
        go_wp2_with fail
        refine (ccheck_ok _ ok).mono ?_
        rintro e u3 ⟨rfl, b⟩
        have D : Below (World.heap u2 |>.size) u2 u3 := Below.next (by repeat (first | exact Below.refl _ _ | apply Below.drewN | apply Below.drew | apply Below.draws | apply below_lit)) b
        replace w2 := w2.below D
        replace w3 := w3.below D
        replace F := F.below D
        replace B := Below.next B D
        clear b D
        clear ok
        go_wp2
        go_ret
        exact ⟨rfl, Below.next B (by repeat (first | exact Below.refl _ _ | apply Below.drewN | apply Below.drew | apply Below.draws | apply below_lit))⟩
  · skip
    go_wp2_with fail
    refine (ccheck_bad _ ok).mono ?_
    rintro e u3 ⟨rfl, b⟩
    have D : Below (World.heap u2 |>.size) u2 u3 := Below.next (by repeat (first | exact Below.refl _ _ | apply Below.drewN | apply Below.drew | apply Below.draws | apply below_lit)) b
    replace w2 := w2.below D
    replace w3 := w3.below D
    replace F := F.below D
    replace B := Below.next B D
    clear b D
    clear ok
    go_wp2
    go_ret
    exact ⟨rfl, Below.next B (by repeat (first | exact Below.refl _ _ | apply Below.drewN | apply Below.drew | apply Below.draws | apply below_lit))⟩

/-! ### THE ROW's STEP: WRITTEN OUT: LEAVE IT -/
set_option maxRecDepth 100000 in
theorem lifted (os : Os) (started : os.Started) (H : Type) (enc : TypeId × Value → H) :
    ReturnsInHanded {} Try.checked os 6 .any (Rows.errdecNearSpec.pre6 enc Try.prog Try.f6 Rows.errdecNearRow.domain false) (Rows.errdecNearSpec.post enc Try.prog Try.f6 false true false false) := by
  refine returnsInHanded_of_change (C := Try.checked) own started (by kernel_rfl) Try.func6
    (ChangeSpec.witness6 (enc := enc) (C := Try.checked) false ⟨#[], #[.int .i64 0, .int .i64 0, .slice none 0 0, .slice none 0 0], []⟩ 8 (by kernel_rfl) (by kernel_rfl) (by kernel_rfl) (by kernel_rfl)) ?_
  intro W base args ds gs before hval0 hW hcnd _
  have hval : ∀ (j : Nat) t v, Try.f6.params[j]? = some t → args[j]? = some v → Value.okWide Try.prog W .any base t v := hval0
  have hW' := hW
  obtain ⟨p, q, hA0, hV, rfl, hfz, hnd⟩ := hW
  have hA : DataW.TrodAll enc Try.prog W 0 (fun _ => true) true Try.f6.params.toList args.toList ds p := hA0
  rw [Try.params6] at hA hval
  obtain ⟨v0, vs0, d0, ds0, p0, q0, hargs, rfl, rfl, h0, r0⟩ := trodAll_cons hA
  obtain ⟨v1, vs1, d1, ds1, p1, q1, rfl, rfl, rfl, h1, r1⟩ := trodAll_cons r0
  obtain ⟨v2, vs2, d2, ds2, p2, q2, rfl, rfl, rfl, h2, r2⟩ := trodAll_cons r1
  obtain ⟨v3, vs3, d3, ds3, p3, q3, rfl, rfl, rfl, h3, r3⟩ := trodAll_cons r2
  obtain ⟨rfl, rfl, rfl⟩ := trodAll_nil r3
  obtain rfl : args = #[v0, v1, v2, v3] := by cases args; simp_all
  obtain ⟨rfl, rfl⟩ := trodVars_none hV
  obtain ⟨a0, rfl, rfl, rfl, w0⟩ := open_int Try.underlying3 (hval 0 3 v0 rfl rfl) h0
  obtain ⟨a1, rfl, rfl, rfl, w1⟩ := open_int Try.underlying3 (hval 1 3 v1 rfl rfl) h1
  obtain ⟨a2, len2, cap2, rfl⟩ := okWide_slice Try.underlying22 (hval 2 22 v2 rfl rfl)
  have k2 := h2
  have lt2 : ∀ x ∈ p2, x.block < W.heap.size := by obtain ⟨m, hm⟩ := k2; exact DataW.trod_lt m _ _ _ hm
  obtain ⟨z2, w2⟩ : ∃ zs, IsRow .u8 W a2 len2 cap2 zs := by
    obtain ⟨fuel, hf⟩ := h2
    rcases open_ints Try.underlying22 Try.underlying5 (by kernel_rfl) hf with ⟨hcs, _⟩ | ⟨x, l, c, zs, hcs, _, hl, hm, hz, _, hcell, hwz⟩
    · simp [Value.cells] at hcs
      obtain ⟨rfl, rfl, rfl⟩ := hcs
      exact ⟨[], .inl ⟨rfl, rfl, rfl, rfl⟩⟩
    · simp [Value.cells] at hcs
      obtain ⟨rfl, rfl, rfl⟩ := hcs
      exact ⟨zs, .inr ⟨_, rfl, hl, hm, by simpa using hz, hcell, hwz⟩⟩
  obtain ⟨a3, len3, cap3, rfl⟩ := okWide_slice Try.underlying23 (hval 3 23 v3 rfl rfl)
  have k3 := h3
  have lt3 : ∀ x ∈ p3, x.block < W.heap.size := by obtain ⟨m, hm⟩ := k3; exact DataW.trod_lt m _ _ _ hm
  obtain ⟨z3, w3⟩ : ∃ zs, RdB W (.slice a3 len3 cap3) zs := by
    obtain ⟨fuel, hf⟩ := h3
    rcases Go.Deep.open_bools Try.underlying23 Try.underlying4 (by kernel_rfl) hf with ⟨hcs, _⟩ | ⟨x, l, c, B, hcs, _, hl, hm, _, hcell⟩
    · simp [Value.cells] at hcs
      obtain ⟨rfl, rfl, rfl⟩ := hcs
      exact ⟨[], rdB_none⟩
    · simp [Value.cells] at hcs
      obtain ⟨rfl, rfl, rfl⟩ := hcs
      exact rdB_row hl hm hcell
  clear hA0 hval0
  refine (walk a0 a1 a2 len2 cap2 z2 a3 len3 cap3 z3 W w0 w1 w2 w3).mono fun e W' ⟨he, bel⟩ => ?_
  subst he
  exact ⟨_, rfl, _, _, _, [], _, [], hW', trodAll_mk1 (shut_bool Try.underlying4 _), (trodAll_cons_mk (shut_int Try.underlying3 w0) (trodAll_cons_mk (shut_int Try.underlying3 w1) (trodAll_cons_mk (Below.trod laidOut (by kernel_rfl) (of_decide_eq_true (by kernel_rfl)) k2 bel lt2) (trodAll_cons_mk (Below.trod laidOut (by kernel_rfl) (of_decide_eq_true (by kernel_rfl)) k3 bel lt3) trodAll_mk0)))), rfl, bel.frame _, fun h => by cases h⟩

theorem over : Rows.errdecNearRow.holds Try.pinned (OpenSpec.ofChange Rows.errdecNearSpec) :=
  OpenClaim.holds_of_wide 6 Try.f6 rfl rfl rfl rfl rfl rfl rfl ⟨rfl, rfl, rfl, rfl, rfl⟩ rfl rfl rfl rfl rfl (by kernel_rfl) Try.func6 (by kernel_rfl)
    (of_decide_eq_true (by kernel_rfl)) (by unfold Func.isWrapper; first | (rw [if_pos (by decide +kernel)]; kernel_rfl) | (rw [if_neg (by decide +kernel)]; exact ⟨rfl, rfl⟩))
    (fun os started H enc _ => lifted os started H enc)

/-- ████ THE STATEMENT ████ -/
theorem proved : Rows.ErrdecNearSaid := over
end Go.Proofs.Ytchfonofjbpmaaa.errdecNear
namespace Go.Proofs.Ytchfonofjbpmaaa
theorem errdecNear_holds : Rows.ErrdecNearSaid := errdecNear.proved
#print axioms errdecNear_holds
end Go.Proofs.Ytchfonofjbpmaaa
