/- PROVED: for all numbers writes, tries and disk the call ArrayCounts(writes, tries, disk) returns true; no conditions. -/
import Derived.Test.YtpijncnpicgjeaaRows
import Derived.Test.YtpijncnpicgjeaaTome9
import Derived.Test.YtpijncnpicgjeaaTome11
import Derived.WalkKit
import Derived.ProofKit
import Derived.OpenShut
import Derived.ShutString
namespace Go.Proofs.Ytpijncnpicgjeaa.arrayCounts
open Go.ChangeShapes Go.WideShapes Go.ChangeAt Go.RowKit
open Go.ChangeMaps (open_string shut_string)
set_option linter.unusedVariables false      -- a walk need not use every 'w<i>' (that an integer argument fits its kind)

theorem own : ownKnob Try.prog.godebug = none := by kernel_rfl

open Gf
set_option linter.unusedSimpArgs false
set_option maxRecDepth 100000 in
set_option maxHeartbeats 4000000 in
theorem walk (a0 : Int) (a1 : Int) (a2 : Int) (w0 : (Lit.int .i64 a0).wf = true) (w1 : (Lit.int .i64 a1).wf = true) (w2 : (Lit.int .i64 a2).wf = true) (w : World) :
    Calls Try.prog 5 #[.int .i64 a0, .int .i64 a1, .int .i64 a2] w fun e w' => e = .returned (.bool true) ∧ Below w.heap.size w w' := by
  go_enter Try.func5, Try.ntmps5
  go_wp2_with fail
  refine awake_any.mono ?_
  rintro e u1 ⟨rfl, b⟩
  have N1 := b.size
  go_wp2_with fail
  refine (anew_is (n := 3) (s := 100) (m := 3) (k := 100) rfl (by decide) (by decide) (by decide) (by decide) rfl).mono ?_
  rintro _ v0 ⟨ab, G0, rfl, A0, H0, B0⟩
  have D0 : ArB v0 u1.heap.size ab G0 (newA 3 100) := ⟨A0, H0, B0.size⟩
  have FB0 : Hid (Below w.heap.size w v0) := b.trans (B0.mono N1)
  clear A0 H0
  by_cases h0 : a0 < 0
  · clear D0 B0 N1 b
    go_wp2
    go_ret
    exact ⟨rfl, FB0.out⟩
  by_cases h1 : a0 > 60
  · clear D0 B0 N1 b
    go_wp2
    go_ret
    exact ⟨rfl, FB0.out⟩
  by_cases h2 : a1 < 0
  · clear D0 B0 N1 b
    go_wp2
    go_ret
    exact ⟨rfl, FB0.out⟩
  by_cases h3 : a1 > 60
  · clear D0 B0 N1 b
    go_wp2
    go_ret
    exact ⟨rfl, FB0.out⟩
  by_cases h4 : a2 < 0
  · clear D0 B0 N1 b
    go_wp2
    go_ret
    exact ⟨rfl, FB0.out⟩
  by_cases h5 : a2 > 2
  · clear D0 B0 N1 b
    go_wp2
    go_ret
    exact ⟨rfl, FB0.out⟩
  obtain ⟨wt, rfl⟩ : ∃ wt : Nat, a0 = (wt : Int) := ⟨a0.toNat, by omega⟩
  obtain ⟨tr, rfl⟩ : ∃ tr : Nat, a1 = (tr : Int) := ⟨a1.toNat, by omega⟩
  obtain ⟨dk, rfl⟩ : ∃ dk : Nat, a2 = (dk : Int) := ⟨a2.toNat, by omega⟩
  have hd : dk < 3 := by omega
  have hw6 : wt ≤ 60 := by omega
  have ht6 : tr ≤ 60 := by omega
  go_wp2_with fail
  refine (aafter_any D0.at_ w0).mono ?_
  rintro _ v1 ⟨rfl, G1, A1, g1⟩
  have D1 := D0.grew A1 g1
  rw [cS_zero hd] at D1
  have START : Hid (∃ G, ArB v1 u1.heap.size ab G (cS wt dk 0) ∧ Below u1.heap.size u1 v1) := ⟨G1, D1, B0.trans (D0.bel g1)⟩
  have b' : Hid _ := b
  clear A1 g1 D0 D1 B0 FB0 b
  go_wp2
  go_loopw [10, 11] (fun dn i wr => ∃ k : Nat, k ≤ tr ∧ dn = .int .i64 ((min k wt : Nat) : Int) ∧ i = .int .i64 (k : Int) ∧ ∃ G, ArB wr u1.heap.size ab G (cS wt dk k) ∧ Below u1.heap.size u1 wr) (fun _ i _ => tr - (intOf i).toNat)
  case atStart => exact ⟨0, Nat.zero_le _, by rw [Nat.zero_min]; rfl, rfl, START.out⟩
  case round =>
    clear START
    obtain ⟨k, hk, rfl, rfl, G, D, B⟩ := hrel
    by_cases hlt : k < tr
    · have hlt' : (k : Int) < (tr : Int) := by omega
      have g1 : IntKind.i64.wrap ((k : Int) + 1) = ((k + 1 : Nat) : Int) := by rw [IntKind.wrap_i64]; omega
      have wfk : (Lit.int .i64 (k : Int)).wf = true := by simp [Lit.wf, IntKind.min, IntKind.max, IntKind.signed, IntKind.bits]; omega
      have ex := @cS_x wt dk k hd (by omega)
      have es := @cS_s wt dk k hd (by omega)
      have Da := fun o => D.below (belA wr o)
      have Ba := fun o => B.step12 (belA wr o) B.size
      by_cases hkw : k < wt
      · have hkw' : (k : Int) < (wt : Int) := by omega
        rw [if_pos hkw] at ex
        have em : min k wt = k := by omega
        have em2 : Hid (min (k + 1) wt = k + 1) := by show _ = _; omega
        rw [em]
        go_wp2_with fail
        refine (awrite_is (Da _).at_ w2 wfk (rd_lit [1] rfl rfl (by decide)) ex es).mono ?_
        rintro _ w3 ⟨rfl, G3, A3, g3⟩
        have E3 : Hid (∃ G, ArB w3 u1.heap.size ab G (cS wt dk (k + 1)) ∧ Below u1.heap.size u1 w3) := ⟨G3, (Da _).grew A3 g3, (Ba _).trans ((Da _).bel g3)⟩
        clear Da Ba A3 g3 D B ex es em
        go_wp2
        go_roundw
        case rel => exact ⟨k + 1, by omega, by rw [em2.out]; go_num, by go_num, E3.out⟩
        case measure => simp [intOf]; omega
      · have hkw' : ¬ (k : Int) < (wt : Int) := by omega
        rw [if_neg hkw] at ex
        have em : min k wt = wt := by omega
        have em2 : Hid (min (k + 1) wt = wt) := by show _ = _; omega
        rw [em]
        go_wp2_with fail
        refine (awrite_is (Da _).at_ w2 wfk (rd_lit [1] rfl rfl (by decide)) ex es).mono ?_
        rintro _ w3 ⟨rfl, G3, A3, g3⟩
        have E3 : Hid (∃ G, ArB w3 u1.heap.size ab G (cS wt dk (k + 1)) ∧ Below u1.heap.size u1 w3) := ⟨G3, (Da _).grew A3 g3, (Ba _).trans ((Da _).bel g3)⟩
        clear Da Ba A3 g3 D B ex es em
        go_wp2
        go_roundw
        case rel => exact ⟨k + 1, by omega, by rw [em2.out], by go_num, E3.out⟩
        case measure => simp [intOf]; omega
    · have hlt' : ¬ (k : Int) < (tr : Int) := by omega
      obtain rfl : k = tr := by omega
      have wf0 : (Lit.int .i64 0).wf = true := by decide
      have er := @cS_r wt dk k hd
      have ef := @cS_f wt dk k
      have eo := @cS_off wt dk k
      obtain ⟨hh, hl3, hs1, hde⟩ := @cS_held wt dk k hd
      rw [show min 100 (min k wt) = min k wt by omega] at hh
      have hh' : Hid _ := hh
      have hr' : Hid _ := re_readA hl3 hd hs1 hde
      have hl3' : Hid (dk < (flAS (cS wt dk k)).D.length) := by show dk < _; omega
      clear hh hs1 hde hl3
      by_cases hkw : wt ≤ k
      · have hkw' : (k : Int) ≥ (wt : Int) := by omega
        rw [if_pos hkw] at er ef
        rw [decide_eq_true hkw] at eo
        go_wp2_with fail
        refine (aread_is D.at_ w2 wf0 er rfl).mono ?_
        rintro _ v2 ⟨vr, rfl, O2, C2⟩
        obtain ⟨ar, cr, rfl⟩ := owns_slice O2
        have D2 := D.below C2
        have B2 := B.step12 C2 B.size
        clear O2 C2 D B
        go_wp2_with fail
        refine (aflush_is D2.at_ ef rfl).mono ?_
        rintro _ v3 ⟨rfl, G3, A3, g3⟩
        have D3 : ArB v3 u1.heap.size ab G3 (flAS (cS wt dk k)) := D2.grew A3 g3
        have B3 := B2.trans (D2.bel g3)
        clear A3 g3 D2 B2
        have eo3 : Hid ((flAS (cS wt dk k)).off = _) := (flAS_off _).trans eo
        go_wp2_with fail
        refine (adown_is D3.at_ eo3.out).mono ?_
        rintro _ uq ⟨rfl, hq⟩
        rw [hq]
        clear hq uq
        obtain ⟨a3, ha3⟩ : ∃ a3, a3 = flAS (cS wt dk k) := ⟨_, rfl⟩
        rw [← ha3] at D3 hh' hr' hl3'
        clear eo3 er ef eo ha3
        go_wp2_with fail
        refine (awaits_at D3.at_ hl3'.out).mono ?_
        rintro _ v4 ⟨xw, rfl, O4, C4⟩
        have D4 := D3.below C4
        have B4 := B3.step12 C4 B3.size
        obtain ⟨m1, hm1⟩ : ∃ m1, Hid (m1 = (heldL (a3.D.getD dk default).wait (a3.D.getD dk default).s).length) := ⟨_, rfl⟩
        obtain ⟨aw, cw, rfl⟩ : ∃ aw cw, xw = .slice aw m1 cw := by rw [hm1.out]; exact O4.formL
        clear O4 C4 D3 B3
        go_wp2_with fail
        refine (alasts_at D4.at_ hl3'.out).mono ?_
        rintro _ v5 ⟨xl, rfl, O5, C5⟩
        have D5 := D4.below C5
        have B5 := B4.step12 C5 B4.size
        obtain ⟨m2, hm2⟩ : ∃ m2, Hid (m2 = (heldL (a3.D.getD dk default).last (a3.D.getD dk default).s).length) := ⟨_, rfl⟩
        obtain ⟨al, cl, rfl⟩ : ∃ al cl, xl = .slice al m2 cl := by rw [hm2.out]; exact O5.formL
        clear O5 C5 D4 B4
        have hh := hh'.out
        rw [← hm1.out, ← hm2.out] at hh
        have gs : IntKind.i64.wrap ((m1 : Int) + (m2 : Int)) = (wt : Int) := by rw [IntKind.wrap_i64]; omega
        have gs' : (m1 : Int) + (m2 : Int) = (wt : Int) := by omega
        clear hm1 hm2 hh' hh
        go_wp2_with fail
        refine (arestart_any D5.at_ (K := []) ⟨Or.inl ⟨none, 0, rfl, rfl⟩, ApartG.nil _ _ _, by simp⟩ (by simp)).mono ?_
        rintro _ v6 ⟨rfl, G6, A6, g6⟩
        have D6 : ArB v6 u1.heap.size ab G6 (reAS a3 []) := D5.grew A6 g6
        have B6 := B5.trans (D5.bel g6)
        clear A6 g6 D5 B5
        go_wp2_with fail
        refine (aread_is D6.at_ w2 wf0 hr'.out rfl).mono ?_
        rintro _ v7 ⟨vi, rfl, O7, C7⟩
        obtain ⟨ai, ci, rfl⟩ := owns_slice O7
        have D7 := D6.below C7
        have B7 := B6.step12 C7 B6.size
        clear O7 C7 D6 B6
        go_wp2_with fail
        refine (adown_is (x := false) D7.at_ rfl).mono ?_
        rintro _ uq ⟨rfl, hq⟩
        rw [hq]
        clear hq uq
        have FB : Hid (Below w.heap.size w v7) := b'.out.trans (B7.mono N1)
        clear D7 B7
        go_wp2
        go_ret
        exact ⟨rfl, FB.out⟩
      · have hkw' : ¬ (k : Int) ≥ (wt : Int) := by omega
        rw [if_neg hkw] at er ef
        rw [decide_eq_false hkw] at eo
        go_wp2_with fail
        refine (aread_is D.at_ w2 wf0 er rfl).mono ?_
        rintro _ v2 ⟨vr, rfl, O2, C2⟩
        obtain ⟨ar, cr, rfl⟩ := owns_slice O2
        have D2 := D.below C2
        have B2 := B.step12 C2 B.size
        clear O2 C2 D B
        go_wp2_with fail
        refine (aflush_is D2.at_ ef rfl).mono ?_
        rintro _ v3 ⟨rfl, G3, A3, g3⟩
        have D3 : ArB v3 u1.heap.size ab G3 (flAS (cS wt dk k)) := D2.grew A3 g3
        have B3 := B2.trans (D2.bel g3)
        clear A3 g3 D2 B2
        have eo3 : Hid ((flAS (cS wt dk k)).off = _) := (flAS_off _).trans eo
        go_wp2_with fail
        refine (adown_is D3.at_ eo3.out).mono ?_
        rintro _ uq ⟨rfl, hq⟩
        rw [hq]
        clear hq uq
        obtain ⟨a3, ha3⟩ : ∃ a3, a3 = flAS (cS wt dk k) := ⟨_, rfl⟩
        rw [← ha3] at D3 hh' hr' hl3'
        clear eo3 er ef eo ha3
        go_wp2_with fail
        refine (awaits_at D3.at_ hl3'.out).mono ?_
        rintro _ v4 ⟨xw, rfl, O4, C4⟩
        have D4 := D3.below C4
        have B4 := B3.step12 C4 B3.size
        obtain ⟨m1, hm1⟩ : ∃ m1, Hid (m1 = (heldL (a3.D.getD dk default).wait (a3.D.getD dk default).s).length) := ⟨_, rfl⟩
        obtain ⟨aw, cw, rfl⟩ : ∃ aw cw, xw = .slice aw m1 cw := by rw [hm1.out]; exact O4.formL
        clear O4 C4 D3 B3
        go_wp2_with fail
        refine (alasts_at D4.at_ hl3'.out).mono ?_
        rintro _ v5 ⟨xl, rfl, O5, C5⟩
        have D5 := D4.below C5
        have B5 := B4.step12 C5 B4.size
        obtain ⟨m2, hm2⟩ : ∃ m2, Hid (m2 = (heldL (a3.D.getD dk default).last (a3.D.getD dk default).s).length) := ⟨_, rfl⟩
        obtain ⟨al, cl, rfl⟩ : ∃ al cl, xl = .slice al m2 cl := by rw [hm2.out]; exact O5.formL
        clear O5 C5 D4 B4
        have hh := hh'.out
        rw [← hm1.out, ← hm2.out] at hh
        have gs : IntKind.i64.wrap ((m1 : Int) + (m2 : Int)) = (k : Int) := by rw [IntKind.wrap_i64]; omega
        have gs' : (m1 : Int) + (m2 : Int) = (k : Int) := by omega
        clear hm1 hm2 hh' hh
        go_wp2_with fail
        refine (arestart_any D5.at_ (K := []) ⟨Or.inl ⟨none, 0, rfl, rfl⟩, ApartG.nil _ _ _, by simp⟩ (by simp)).mono ?_
        rintro _ v6 ⟨rfl, G6, A6, g6⟩
        have D6 : ArB v6 u1.heap.size ab G6 (reAS a3 []) := D5.grew A6 g6
        have B6 := B5.trans (D5.bel g6)
        clear A6 g6 D5 B5
        go_wp2_with fail
        refine (aread_is D6.at_ w2 wf0 hr'.out rfl).mono ?_
        rintro _ v7 ⟨vi, rfl, O7, C7⟩
        obtain ⟨ai, ci, rfl⟩ := owns_slice O7
        have D7 := D6.below C7
        have B7 := B6.step12 C7 B6.size
        clear O7 C7 D6 B6
        go_wp2_with fail
        refine (adown_is (x := false) D7.at_ rfl).mono ?_
        rintro _ uq ⟨rfl, hq⟩
        rw [hq]
        clear hq uq
        have FB : Hid (Below w.heap.size w v7) := b'.out.trans (B7.mono N1)
        clear D7 B7
        go_wp2
        go_ret
        exact ⟨rfl, FB.out⟩

/-! ### THE ROW's STEP: WRITTEN OUT: LEAVE IT -/
set_option maxRecDepth 100000 in
theorem lifted (os : Os) (started : os.Started) (H : Type) (enc : TypeId × Value → H) :
    ReturnsInHanded {} Try.checked os 5 .any (Rows.arrayCountsSpec.pre6 enc Try.prog Try.f5 Rows.arrayCountsRow.domain false) (Rows.arrayCountsSpec.post enc Try.prog Try.f5 false true false false) := by
  refine returnsInHanded_of_change (C := Try.checked) own started (by kernel_rfl) Try.func5
    (ChangeSpec.witness6 (enc := enc) (C := Try.checked) false ⟨#[], #[.int .i64 0, .int .i64 0, .int .i64 0], []⟩ 8 (by kernel_rfl) (by kernel_rfl) (by kernel_rfl) (by kernel_rfl)) ?_
  intro W base args ds gs before hval0 hW hcnd _
  have hval : ∀ (j : Nat) t v, Try.f5.params[j]? = some t → args[j]? = some v → Value.okWide Try.prog W .any base t v := hval0
  have hW' := hW
  obtain ⟨p, q, hA0, hV, rfl, hfz, hnd⟩ := hW
  have hA : DataW.TrodAll enc Try.prog W 0 (fun _ => true) true Try.f5.params.toList args.toList ds p := hA0
  rw [Try.params5] at hA hval
  obtain ⟨v0, vs0, d0, ds0, p0, q0, hargs, rfl, rfl, h0, r0⟩ := trodAll_cons hA
  obtain ⟨v1, vs1, d1, ds1, p1, q1, rfl, rfl, rfl, h1, r1⟩ := trodAll_cons r0
  obtain ⟨v2, vs2, d2, ds2, p2, q2, rfl, rfl, rfl, h2, r2⟩ := trodAll_cons r1
  obtain ⟨rfl, rfl, rfl⟩ := trodAll_nil r2
  obtain rfl : args = #[v0, v1, v2] := by cases args; simp_all
  obtain ⟨rfl, rfl⟩ := trodVars_none hV
  obtain ⟨a0, rfl, rfl, rfl, w0⟩ := open_int Try.underlying3 (hval 0 3 v0 rfl rfl) h0
  obtain ⟨a1, rfl, rfl, rfl, w1⟩ := open_int Try.underlying3 (hval 1 3 v1 rfl rfl) h1
  obtain ⟨a2, rfl, rfl, rfl, w2⟩ := open_int Try.underlying3 (hval 2 3 v2 rfl rfl) h2
  clear hA0 hval0
  simp only [List.append_nil] at hW'
  refine (walk a0 a1 a2 w0 w1 w2 W).mono fun e W' ⟨he, hg⟩ => ?_
  subst he
  exact ⟨_, rfl, _, _, _, [], _, [], hW', trodAll_mk1 (shut_bool Try.underlying4 _), (trodAll_cons_mk (shut_int Try.underlying3 w0) (trodAll_cons_mk (shut_int Try.underlying3 w1) (trodAll_cons_mk (shut_int Try.underlying3 w2) trodAll_mk0))), rfl, hg.frame _, fun h => by cases h⟩

theorem over : Rows.arrayCountsRow.holds Try.pinned (OpenSpec.ofChange Rows.arrayCountsSpec) :=
  OpenClaim.holds_of_wide 5 Try.f5 rfl rfl rfl rfl rfl rfl rfl ⟨rfl, rfl, rfl, rfl, rfl⟩ rfl rfl rfl rfl rfl (by kernel_rfl) Try.func5 (by kernel_rfl)
    (of_decide_eq_true (by kernel_rfl)) (by unfold Func.isWrapper; first | (rw [if_pos (by decide +kernel)]; kernel_rfl) | (rw [if_neg (by decide +kernel)]; exact ⟨rfl, rfl⟩))
    (fun os started H enc _ => lifted os started H enc)

/-- ████ THE STATEMENT ████ -/
theorem proved : Rows.ArrayCountsSaid :=
  over
end Go.Proofs.Ytpijncnpicgjeaa.arrayCounts
namespace Go.Proofs.Ytpijncnpicgjeaa
theorem arrayCounts_holds : Rows.ArrayCountsSaid := arrayCounts.proved
#print axioms arrayCounts_holds
end Go.Proofs.Ytpijncnpicgjeaa
