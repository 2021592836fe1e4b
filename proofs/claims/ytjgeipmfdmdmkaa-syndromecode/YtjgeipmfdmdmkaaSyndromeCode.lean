/- PROVED: for all k, m and every word the call SyndromeCode(k, m, word) returns true, and its arguments read behind it as before; no conditions. -/
import Derived.Test.YtjgeipmfdmdmkaaRows
import Derived.Test.YtjgeipmfdmdmkaaTome6
import Derived.Test.YtjgeipmfdmdmkaaTome9
import Derived.WalkKit
import Derived.ProofKit
import Derived.OpenShut
import Derived.ShutString
import Derived.ChangeOld
import Derived.Below
namespace Go.Proofs.Ytjgeipmfdmdmkaa.syndromeCode
open Go.ChangeShapes Go.WideShapes Go.ChangeAt Go.RowKit
open Go.ChangeMaps (open_string shut_string)
set_option linter.unusedVariables false

theorem own : ownKnob Try.prog.godebug = none := by kernel_rfl
theorem laidOut : laidOutB Try.prog = true := by kernel_rfl

/-- WHAT THE WALK IS TOLD OF A SLICE OF INTEGERS THAT CAME IN: it is nil; or it leads to a row of 'cap' cells, the numbers 'zs' (the first 'len' are its elements, the rest its spare room), each fitting its kind. -/
def IsRow (k : IntKind) (w : World) (a : Option Addr) (len cap : Nat) (zs : List Int) : Prop :=
  (a = none ∧ len = 0 ∧ cap = 0 ∧ zs = []) ∨
  ∃ x, a = some x ∧ len ≤ cap ∧ cap ≤ maxLen ∧ zs.length = cap ∧ (∀ i, i < zs.length → w.cell? (x.add i) = some (.int k (zs.getD i 0))) ∧ ∀ n ∈ zs, (Lit.int k n).wf = true

open Gf
set_option linter.unusedSimpArgs false
set_option maxRecDepth 100000 in
set_option maxHeartbeats 4000000 in
theorem walk (a0 : Int) (a1 : Int) (a2 : Option Addr) (len2 cap2 : Nat) (z2 : List Int) (w : World) (w0 : (Lit.int .i64 a0).wf = true) (w1 : (Lit.int .i64 a1).wf = true) (w2 : IsRow .u8 w a2 len2 cap2 z2) :
    Calls Try.prog 4 #[.int .i64 a0, .int .i64 a1, .slice a2 len2 cap2] w fun e w' => e = .returned (.bool true) ∧ Below w.heap.size w w' := by
  obtain ⟨z, rfl, w2⟩ := rd_row w2
  have hzl := w2.len
  unfold maxLen at hzl
  go_enter Try.func4, Try.ntmps4
  have B : Below w.heap.size w w := Below.refl _ _
  go_wp2_with fail
  refine (awake8_any _).mono ?_
  rintro e u1 ⟨rfl, b⟩
  have D : Below (World.heap w |>.size) w u1 := Below.next (by repeat (first | exact Below.refl _ _ | apply Below.drewN | apply Below.drew | apply Below.draws | apply below_lit)) b
  replace w2 := w2.below D
  replace B := Below.next B D
  clear b D
  go_wp2_with fail
  refine (new_any _).mono ?_
  rintro e u2 ⟨rfl, F, hO⟩
  have b := hO.below
  clear hO
  have D : Below (World.heap u1 |>.size) u1 u2 := Below.next (by repeat (first | exact Below.refl _ _ | apply Below.drewN | apply Below.drew | apply Below.draws | apply below_lit)) b
  replace w2 := w2.below D
  replace B := Below.next B D
  clear b D
  go_wp2_with fail
  refine (few8_any a0 a1 _).mono ?_
  rintro e u3 ⟨rfl, b⟩
  have D : Below (World.heap u2 |>.size) u2 u3 := Below.next (by repeat (first | exact Below.refl _ _ | apply Below.drewN | apply Below.drew | apply Below.draws | apply below_lit)) b
  replace w2 := w2.below D
  replace F := F.below D
  replace B := Below.next B D
  clear b D
  by_cases ok : OkC a0 a1
  · obtain ⟨k, m, rfl, rfl, h1, h2⟩ := ok.nat
    obtain ⟨s, hs⟩ : ∃ s, Hid (s = k + m) := ⟨_, rfl⟩
    have hs2 : s ≤ 256 := by have := hs.out; omega
    have g1 : (k : Int) + (m : Int) = (s : Int) := by have := hs.out; omega
    have gw : IntKind.i64.wrap (s : Int) = (s : Int) := by rw [IntKind.wrap_i64]; omega
    have hfew : fewB (k : Int) (m : Int) = decide ((s : Int) ≤ 30) := by rw [fewB_ok ok, g1]
    by_cases h30 : (s : Int) ≤ 30
    · rw [hfew, decide_eq_true h30]
      clear hfew
      by_cases hlen : k ≤ z.length
      · have q1 : ¬ (z.length : Int) < (k : Int) := by omega
        go_wp2_with fail
        refine (ccheck_ok _ ok).mono ?_
        rintro e u4 ⟨rfl, b⟩
        have D : Below (World.heap u3 |>.size) u3 u4 := Below.next (by repeat (first | exact Below.refl _ _ | apply Below.drewN | apply Below.drew | apply Below.draws | apply below_lit)) b
        replace w2 := w2.below D
        replace F := F.below D
        replace B := Below.next B D
        clear b D
        clear ok
        obtain ⟨zb, zo, zc, ez, hzc, hzm⟩ := w2.place (by omega)
        simp at ez
        obtain ⟨rfl, rfl⟩ := ez
        unfold maxLen at hzm
        have hkc : (k : Int) ≤ (cap2 : Int) := by omega
        have hkc' : k ≤ cap2 := by omega
        have hwk : IntKind.i64.wrap (k : Int) = (k : Int) := by rw [IntKind.wrap_i64]; omega
        obtain ⟨D, hD⟩ : ∃ D, Hid (D = z.take k) := ⟨_, rfl⟩
        have HDl : Hid (D.length = k) := (by rw [hD.out, List.length_take]; omega : D.length = k)
        have Rt := w2.first hlen h1
        rw [← hD.out] at Rt
        go_wp2_with fail
        refine (col_any (Rt.below (by repeat (first | exact Below.refl _ _ | apply Below.drewN | apply Below.drew | apply Below.draws | apply below_lit))) (by rw [HDl.out]; omega)).mono ?_
        rintro e u5 ⟨vc, rfl, Rc, b⟩
        have D : Below (World.heap u4 |>.size) u4 u5 := Below.next (by repeat (first | exact Below.refl _ _ | apply Below.drewN | apply Below.drew | apply Below.draws | apply below_lit)) b
        replace w2 := w2.below D
        replace F := F.below D
        replace Rt := Rt.below D
        replace B := Below.next B D
        clear b D
        obtain ⟨ca, cc, ec⟩ := Rc.form
        rw [colL_length, HDl.out] at ec
        subst ec
        go_wp2_with fail
        refine (enc_ok (F.below (by repeat (first | exact Below.refl _ _ | apply Below.drewN | apply Below.drew | apply Below.draws | apply below_lit))) h1 h2 (Rc.below (by repeat (first | exact Below.refl _ _ | apply Below.drewN | apply Below.drew | apply Below.draws | apply below_lit))) (by rw [colL_length, HDl.out]) (colL_even D) (colL_small (by rw [HDl.out]; omega)) rfl rfl).mono ?_
        rintro e u6 ⟨ve, rfl, Re, b⟩
        have D : Below (World.heap u5 |>.size) u5 u6 := Below.next (by repeat (first | exact Below.refl _ _ | apply Below.drewN | apply Below.drew | apply Below.draws | apply below_lit)) b
        replace w2 := w2.below D
        replace F := F.below D
        replace Rt := Rt.below D
        replace Rc := Rc.below D
        replace B := Below.next B D
        clear b D
        have HEl : Hid ((encL m k (parF k) (colL D)).length = s) := (by rw [encL_length, colL_length, HDl.out, hs.out] : (encL m k (parF k) (colL D)).length = s)
        have HE1 : Hid (∀ i, i < (encL m k (parF k) (colL D)).length → (ro (encL m k (parF k) (colL D)) i).length = 1) := fun i hi => encC_len HDl.out h1 (by rw [HEl.out, hs.out] at hi; exact hi)
        have HN1 : Hid _ := line_nought h1 h2 HDl.out (p := D) (m := m)
        have HN2 : Hid _ := line_len HDl.out (p := D) (m := m)
        obtain ⟨E0, hE0⟩ : ∃ E0, Hid (E0 = encL m k (parF k) (colL D)) := ⟨_, rfl⟩
        rw [← hE0.out] at HEl HE1 HN1 HN2 Re
        obtain ⟨ea, ec, ee⟩ := Re.form
        rw [HEl.out] at ee
        subst ee
        go_wp2_with fail
        refine (line_any (Re.below (by repeat (first | exact Below.refl _ _ | apply Below.drewN | apply Below.drew | apply Below.draws | apply below_lit))) (by rw [HEl.out]; omega) HE1.out).mono ?_
        rintro e u7 ⟨vl, rfl, Rl, b⟩
        have D : Below (World.heap u6 |>.size) u6 u7 := Below.next (by repeat (first | exact Below.refl _ _ | apply Below.drewN | apply Below.drew | apply Below.draws | apply below_lit)) b
        replace w2 := w2.below D
        replace F := F.below D
        replace Rt := Rt.below D
        replace Rc := Rc.below D
        replace Re := Re.below D
        replace B := Below.next B D
        clear b D
        obtain ⟨la, lc, el⟩ := Rl.form
        rw [HN2.out] at el
        subst el
        go_wp2_with fail
        refine (sof_ok (F.below (by repeat (first | exact Below.refl _ _ | apply Below.drewN | apply Below.drew | apply Below.draws | apply below_lit))) h1 h2 (Rl.below (by repeat (first | exact Below.refl _ _ | apply Below.drewN | apply Below.drew | apply Below.draws | apply below_lit))) HN2.out rfl rfl).mono ?_
        rintro e u8 ⟨vs, rfl, Rs1, b⟩
        have D : Below (World.heap u7 |>.size) u7 u8 := Below.next (by repeat (first | exact Below.refl _ _ | apply Below.drewN | apply Below.drew | apply Below.draws | apply below_lit)) b
        replace w2 := w2.below D
        replace F := F.below D
        replace Rt := Rt.below D
        replace Rc := Rc.below D
        replace Re := Re.below D
        replace Rl := Rl.below D
        replace B := Below.next B D
        clear b D
        obtain ⟨P, hP⟩ : ∃ P, Hid (P = upto (synF k m (co (lineL E0))) m) := ⟨_, rfl⟩
        have HPl : Hid (P.length = m) := (by rw [hP.out, upto_length] : P.length = m)
        rw [← hP.out] at HN1 Rs1
        obtain ⟨pa, pc, ep⟩ := Rs1.form
        rw [HPl.out] at ep
        subst ep
        have q6 : ((m : Int) != (m : Int)) = false := by simp
        go_wp2_with fail
        refine (nought_any (Rs1.below (by repeat (first | exact Below.refl _ _ | apply Below.drewN | apply Below.drew | apply Below.draws | apply below_lit)))).mono ?_
        rintro e u9 ⟨rfl, b⟩
        rw [HN1.out]
        have D : Below (World.heap u8 |>.size) u8 u9 := Below.next (by repeat (first | exact Below.refl _ _ | apply Below.drewN | apply Below.drew | apply Below.draws | apply below_lit)) b
        replace w2 := w2.below D
        replace F := F.below D
        replace Rt := Rt.below D
        replace Rc := Rc.below D
        replace Re := Re.below D
        replace Rl := Rl.below D
        replace Rs1 := Rs1.below D
        replace B := Below.next B D
        clear b D
        clear Rs1 Rl Re Rc Rt
        by_cases hz : z.length = k + m
        · have q7 : ((z.length : Int) != (s : Int)) = false := by have := hs.out; simp; omega
          have hz' : Hid (z.length = k + m) := hz
          have HF : Hid _ := fit_nought h1 h2 hz
          clear hz
          go_wp2_with fail
          refine (col_any (w2.below (by repeat (first | exact Below.refl _ _ | apply Below.drewN | apply Below.drew | apply Below.draws | apply below_lit))) (by rw [hz'.out]; omega)).mono ?_
          rintro e u10 ⟨vd, rfl, Rd2, b⟩
          have D : Below (World.heap u9 |>.size) u9 u10 := Below.next (by repeat (first | exact Below.refl _ _ | apply Below.drewN | apply Below.drew | apply Below.draws | apply below_lit)) b
          replace w2 := w2.below D
          replace F := F.below D
          replace B := Below.next B D
          clear b D
          obtain ⟨da, dc, ed⟩ := Rd2.form
          rw [colL_length] at ed
          subst ed
          go_wp2_with fail
          refine (fits_ok (F.below (by repeat (first | exact Below.refl _ _ | apply Below.drewN | apply Below.drew | apply Below.draws | apply below_lit))) h1 h2 (Rd2.below (by repeat (first | exact Below.refl _ _ | apply Below.drewN | apply Below.drew | apply Below.draws | apply below_lit))) (by rw [colL_length, hz'.out]) (colL_even z) (colL_small (by rw [hz'.out]; omega)) rfl rfl).mono ?_
          rintro e u11 ⟨rfl, b⟩
          have D : Below (World.heap u10 |>.size) u10 u11 := Below.next (by repeat (first | exact Below.refl _ _ | apply Below.drewN | apply Below.drew | apply Below.draws | apply below_lit)) b
          replace w2 := w2.below D
          replace F := F.below D
          replace Rd2 := Rd2.below D
          replace B := Below.next B D
          clear b D
          go_wp2_with fail
          refine (sof_ok (F.below (by repeat (first | exact Below.refl _ _ | apply Below.drewN | apply Below.drew | apply Below.draws | apply below_lit))) h1 h2 (w2.below (by repeat (first | exact Below.refl _ _ | apply Below.drewN | apply Below.drew | apply Below.draws | apply below_lit))) hz'.out rfl rfl).mono ?_
          rintro e u12 ⟨vt, rfl, Rt2, b⟩
          have D : Below (World.heap u11 |>.size) u11 u12 := Below.next (by repeat (first | exact Below.refl _ _ | apply Below.drewN | apply Below.drew | apply Below.draws | apply below_lit)) b
          replace w2 := w2.below D
          replace F := F.below D
          replace Rd2 := Rd2.below D
          replace B := Below.next B D
          clear b D
          obtain ⟨ta, tc, et⟩ := Rt2.form
          rw [upto_length] at et
          subst et
          go_wp2_with fail
          refine (nought_any (Rt2.below (by repeat (first | exact Below.refl _ _ | apply Below.drewN | apply Below.drew | apply Below.draws | apply below_lit)))).mono ?_
          rintro e u13 ⟨rfl, b⟩
          rw [HF.out]
          generalize noughtB (upto (synF k m (co z)) m) = t1
          have q8 : (t1 == t1) = true := by simp
          have D : Below (World.heap u12 |>.size) u12 u13 := Below.next (by repeat (first | exact Below.refl _ _ | apply Below.drewN | apply Below.drew | apply Below.draws | apply below_lit)) b
          replace w2 := w2.below D
          replace F := F.below D
          replace Rd2 := Rd2.below D
          replace Rt2 := Rt2.below D
          replace B := Below.next B D
          clear b D
          go_wp2
          go_ret
          exact ⟨rfl, Below.next B (by repeat (first | exact Below.refl _ _ | apply Below.drewN | apply Below.drew | apply Below.draws | apply below_lit))⟩
        · have q7 : ((z.length : Int) != (s : Int)) = true := by have := hs.out; simp; omega
          clear hz
          go_wp2
          go_ret
          exact ⟨rfl, Below.next B (by repeat (first | exact Below.refl _ _ | apply Below.drewN | apply Below.drew | apply Below.draws | apply below_lit))⟩
      · have q1 : (z.length : Int) < (k : Int) := by omega
        go_wp2_with fail
        refine (ccheck_ok _ ok).mono ?_
        rintro e u4 ⟨rfl, b⟩
        have D : Below (World.heap u3 |>.size) u3 u4 := Below.next (by repeat (first | exact Below.refl _ _ | apply Below.drewN | apply Below.drew | apply Below.draws | apply below_lit)) b
        replace w2 := w2.below D
        replace F := F.below D
        replace B := Below.next B D
        clear b D
        clear ok
        go_wp2
        go_ret
        exact ⟨rfl, Below.next B (by repeat (first | exact Below.refl _ _ | apply Below.drewN | apply Below.drew | apply Below.draws | apply below_lit))⟩
    · rw [hfew, decide_eq_false h30]
      clear hfew
      go_wp2
      go_ret
      exact ⟨rfl, Below.next B (by repeat (first | exact Below.refl _ _ | apply Below.drewN | apply Below.drew | apply Below.draws | apply below_lit))⟩
  · rw [fewB_bad ok]
    go_wp2_with fail
    refine (ccheck_bad _ ok).mono ?_
    rintro e u4 ⟨rfl, b⟩
    have D : Below (World.heap u3 |>.size) u3 u4 := Below.next (by repeat (first | exact Below.refl _ _ | apply Below.drewN | apply Below.drew | apply Below.draws | apply below_lit)) b
    replace w2 := w2.below D
    replace F := F.below D
    replace B := Below.next B D
    clear b D
    clear ok
    go_wp2
    go_ret
    exact ⟨rfl, Below.next B (by repeat (first | exact Below.refl _ _ | apply Below.drewN | apply Below.drew | apply Below.draws | apply below_lit))⟩

/-! ### THE ROW's STEP: WRITTEN OUT: LEAVE IT -/
set_option maxRecDepth 100000 in
theorem lifted (os : Os) (started : os.Started) (H : Type) (enc : TypeId × Value → H) :
    ReturnsInHanded {} Try.checked os 4 .any (Rows.syndromeCodeSpec.pre6 enc Try.prog Try.f4 Rows.syndromeCodeRow.domain false) (Rows.syndromeCodeSpec.post enc Try.prog Try.f4 false true false false) := by
  refine returnsInHanded_of_change (C := Try.checked) own started (by kernel_rfl) Try.func4
    (ChangeSpec.witness6 (enc := enc) (C := Try.checked) false ⟨#[], #[.int .i64 0, .int .i64 0, .slice none 0 0], []⟩ 8 (by kernel_rfl) (by kernel_rfl) (by kernel_rfl) (by kernel_rfl)) ?_
  intro W base args ds gs before hval0 hW hcnd _
  have hval : ∀ (j : Nat) t v, Try.f4.params[j]? = some t → args[j]? = some v → Value.okWide Try.prog W .any base t v := hval0
  have hW' := hW
  obtain ⟨p, q, hA0, hV, rfl, hfz, hnd⟩ := hW
  have hA : DataW.TrodAll enc Try.prog W 0 (fun _ => true) true Try.f4.params.toList args.toList ds p := hA0
  rw [Try.params4] at hA hval
  obtain ⟨v0, vs0, d0, ds0, p0, q0, hargs, rfl, rfl, h0, r0⟩ := trodAll_cons hA
  obtain ⟨v1, vs1, d1, ds1, p1, q1, rfl, rfl, rfl, h1, r1⟩ := trodAll_cons r0
  obtain ⟨v2, vs2, d2, ds2, p2, q2, rfl, rfl, rfl, h2, r2⟩ := trodAll_cons r1
  obtain ⟨rfl, rfl, rfl⟩ := trodAll_nil r2
  obtain rfl : args = #[v0, v1, v2] := by cases args; simp_all
  obtain ⟨rfl, rfl⟩ := trodVars_none hV
  obtain ⟨a0, rfl, rfl, rfl, w0⟩ := open_int Try.underlying3 (hval 0 3 v0 rfl rfl) h0
  obtain ⟨a1, rfl, rfl, rfl, w1⟩ := open_int Try.underlying3 (hval 1 3 v1 rfl rfl) h1
  obtain ⟨a2, len2, cap2, rfl⟩ := okWide_slice Try.underlying22 (hval 2 22 v2 rfl rfl)
  have k2 := h2
  have lt2 : ∀ x ∈ p2, x.block < W.heap.size := by obtain ⟨m, hm⟩ := k2; exact DataW.trod_lt m _ _ _ hm
  obtain ⟨z2, w2⟩ : ∃ zs, IsRow .u8 W a2 len2 cap2 zs := by
    obtain ⟨fuel, hf⟩ := h2
    rcases open_ints Try.underlying22 Try.underlying5 (by kernel_rfl) hf with ⟨hcs, _⟩ | ⟨x, l, c, zs, hcs, _, hl, hm, hz, _, hcell, hwz⟩
    · simp [Value.cells] at hcs
      obtain ⟨rfl, rfl, rfl⟩ := hcs
      exact ⟨[], .inl ⟨rfl, rfl, rfl, rfl⟩⟩
    · simp [Value.cells] at hcs
      obtain ⟨rfl, rfl, rfl⟩ := hcs
      exact ⟨zs, .inr ⟨_, rfl, hl, hm, by simpa using hz, hcell, hwz⟩⟩
  clear hA0 hval0
  refine (walk a0 a1 a2 len2 cap2 z2 W w0 w1 w2).mono fun e W' ⟨he, bel⟩ => ?_
  subst he
  exact ⟨_, rfl, _, _, _, [], _, [], hW', trodAll_mk1 (shut_bool Try.underlying4 _), (trodAll_cons_mk (shut_int Try.underlying3 w0) (trodAll_cons_mk (shut_int Try.underlying3 w1) (trodAll_cons_mk (Below.trod laidOut (by kernel_rfl) (of_decide_eq_true (by kernel_rfl)) k2 bel lt2) trodAll_mk0))), rfl, bel.frame _, fun h => by cases h⟩

theorem over : Rows.syndromeCodeRow.holds Try.pinned (OpenSpec.ofChange Rows.syndromeCodeSpec) :=
  OpenClaim.holds_of_wide 4 Try.f4 rfl rfl rfl rfl rfl rfl rfl ⟨rfl, rfl, rfl, rfl, rfl⟩ rfl rfl rfl rfl rfl (by kernel_rfl) Try.func4 (by kernel_rfl)
    (of_decide_eq_true (by kernel_rfl)) (by unfold Func.isWrapper; first | (rw [if_pos (by decide +kernel)]; kernel_rfl) | (rw [if_neg (by decide +kernel)]; exact ⟨rfl, rfl⟩))
    (fun os started H enc _ => lifted os started H enc)

/-- ████ THE STATEMENT ████ -/
theorem proved : Rows.SyndromeCodeSaid := over
end Go.Proofs.Ytjgeipmfdmdmkaa.syndromeCode
namespace Go.Proofs.Ytjgeipmfdmdmkaa
theorem syndromeCode_holds : Rows.SyndromeCodeSaid := syndromeCode.proved
#print axioms syndromeCode_holds
end Go.Proofs.Ytjgeipmfdmdmkaa
