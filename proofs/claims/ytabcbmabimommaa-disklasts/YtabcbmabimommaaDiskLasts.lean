/- PROVED: for every number sectors, every script of calls and every list keep of numbers the call DiskLasts(sectors, script, keep) returns true, and its arguments read behind it as before; no conditions. -/
import Derived.Test.YtabcbmabimommaaRows
import Derived.Test.YtabcbmabimommaaTome5
import Derived.WalkKit
import Derived.ProofKit
import Derived.OpenShut
import Derived.ShutString
import Derived.ChangeOld
import Derived.Below
namespace Go.Proofs.Ytabcbmabimommaa.diskLasts
open Go.ChangeShapes Go.WideShapes Go.ChangeAt Go.RowKit
open Go.ChangeMaps (open_string shut_string)
set_option linter.unusedVariables false

theorem own : ownKnob Try.prog.godebug = none := by kernel_rfl
theorem laidOut : laidOutB Try.prog = true := by kernel_rfl

/-- WHAT THE WALK IS TOLD OF A SLICE OF INTEGERS THAT CAME IN: it is nil; or it leads to a row of 'cap' cells, the numbers 'zs' (the first 'len' are its elements, the rest its spare room), each fitting its kind. -/
def IsRow (k : IntKind) (w : World) (a : Option Addr) (len cap : Nat) (zs : List Int) : Prop :=
  (a = none ∧ len = 0 ∧ cap = 0 ∧ zs = []) ∨
  ∃ x, a = some x ∧ len ≤ cap ∧ cap ≤ maxLen ∧ zs.length = cap ∧ (∀ i, i < zs.length → w.cell? (x.add i) = some (.int k (zs.getD i 0))) ∧ ∀ n ∈ zs, (Lit.int k n).wf = true

open Gf
set_option linter.unusedSimpArgs false
set_option maxRecDepth 100000 in
set_option maxHeartbeats 4000000 in
theorem walk (a0 : Int) (a1 : Option Addr) (len1 cap1 : Nat) (z1 : List CallR) (a2 : Option Addr) (len2 cap2 : Nat) (z2 : List Int) (w : World) (w0 : (Lit.int .i64 a0).wf = true) (w1 : RdC w (.slice a1 len1 cap1) z1) (w2 : IsRow .i64 w a2 len2 cap2 z2) :
    Calls Try.prog 5 #[.int .i64 a0, .slice a1 len1 cap1, .slice a2 len2 cap2] w fun e w' => e = .returned (.bool true) ∧ Below w.heap.size w w' := by
  obtain rfl := w1.lenEq
  obtain ⟨K, RK, WK⟩ := rdI_row2 w2
  obtain ⟨_, _, eK⟩ := RK.form
  obtain rfl : len2 = K.length := by simp at eK; exact eK.2.1
  clear eK w2
  by_cases hn : 1 ≤ a0 ∧ a0 ≤ 4096
  · obtain ⟨h1, h2⟩ := hn
    by_cases hk : K.length ≤ 200
    · have hk' : ¬ (K.length : Int) > 200 := by omega
      go_enter Try.func5, Try.ntmps5
      go_wp2_with fail
      refine awake_any.mono ?_
      rintro e u1 ⟨rfl, b⟩
      replace w1 := w1.below b
      replace RK := RK.below b
      have N1 := b.size
      go_wp2_with fail
      refine (done_any h1 h2 w1).mono ?_
      rintro _ v0 ⟨db, G0, rfl, A0, H0, B0⟩
      have D0 : DkB v0 u1.heap.size db G0 (runS (newD a0.toNat) (z1.take 60)) := ⟨A0, H0, B0.size⟩
      obtain ⟨d, hd⟩ : ∃ d, d = runS (newD a0.toNat) (z1.take 60) := ⟨_, rfl⟩
      have hs : Hid (d.s = a0.toNat) := by show d.s = _; rw [hd, runS_s]; rfl
      rw [← hd] at D0
      have ok : Hid d.Ok := D0.at_.ok
      clear A0 H0 hd
      have ek := ok.out
      by_cases hdd : d.dead = true
      · have hdd0 := hdd
        have eX : flX d = 120 := by unfold flX; rw [if_pos hdd]
        have eW : (flS d).wait = noneI := fl_wait ek
        have eC : crS (flS d) K = flS d := cr_none eW K
        have eS : (flS d).dead = true := by rw [fl_dead]; exact hdd0
        clear ek hdd hdd0
        go_wp2_with fail
        refine (dflush_is D0.at_ eX rfl).mono ?_
        rintro _ v1 ⟨rfl, G1, A1, g1⟩
        have D1 : DkB v1 u1.heap.size db G1 (flS d) := D0.grew A1 g1
        have B1 := B0.trans (D0.bel g1)
        clear D0 B0  A1 g1
        go_wp2_with fail
        refine (dlasts_any D1.at_).mono ?_
        rintro _ v2 ⟨xwas, rfl, O2, C2⟩
        have Twas_2 := ToldH.own D1.at_ O2 (Nat.le_trans (heldL_length _ _) (by have := D1.at_.ok.s2; omega))
        have D2 := D1.below C2
        have B2 := B1.step12 C2 B1.size
        clear D1 B1  O2 C2
        go_wp2_with fail
        refine (dwaits_any D2.at_).mono ?_
        rintro _ v3 ⟨xwt, rfl, O3, C3⟩
        have Twt_3 := ToldH.own D2.at_ O3 (Nat.le_trans (heldL_length _ _) (by have := D2.at_.ok.s2; omega))
        have D3 := D2.below C3
        have Twas_3 := Twas_2.below C3
        have B3 := B2.step12 C3 B2.size
        clear D2 B2 Twas_2 O3 C3
        go_wp2_with fail
        refine (dcrash_is D3.at_ (RK.below B3) WK (apart_old D3 RK) (by omega) eC).mono ?_
        rintro _ v4 ⟨rfl, G4, A4, g4⟩
        have D4 : DkB v4 u1.heap.size db G4 (flS d) := D3.grew A4 g4
        have Twas_4 := Twas_3.grew g4
        have Twt_4 := Twt_3.grew g4
        have B4 := B3.trans (D3.bel g4)
        clear D3 B3 Twas_3 Twt_3 A4 g4
        go_wp2_with fail
        refine (dlasts_any D4.at_).mono ?_
        rintro _ v5 ⟨xnow, rfl, O5, C5⟩
        have Tnow_5 := ToldH.own D4.at_ O5 (Nat.le_trans (heldL_length _ _) (by have := D4.at_.ok.s2; omega))
        have D5 := D4.below C5
        have Twas_5 := Twas_4.below C5
        have Twt_5 := Twt_4.below C5
        have B5 := B4.step12 C5 B4.size
        clear D4 B4 Twas_4 Twt_4 O5 C5
        go_wp2_with fail
        refine (same12_is Tnow_5.rd Twas_5.rd (decide_eq_true rfl)).mono ?_
        rintro _ v6 ⟨rfl, nq6, hq6⟩
        have C6 : Below v5.heap.size v5 v6 := by rw [hq6]; exact (Below.refl _ _).drewN _
        have D6 := D5.below C6
        have Twas_6 := Twas_5.below C6
        have Twt_6 := Twt_5.below C6
        have Tnow_6 := Tnow_5.below C6
        have B6 := B5.step12 C6 B5.size
        clear D5 B5 Twas_5 Twt_5 Tnow_5 hq6 C6
        rw [eW, heldL_none] at Twt_6
        obtain ⟨aw, cw, rfl⟩ := Twt_6.none
        have KD := @ddead_any v6 db _ D6.at_.dead
        rw [eS] at KD
        go_wp2_with fail
        refine KD.mono ?_
        rintro _ uq ⟨rfl, hq⟩
        rw [hq]
        clear hq uq KD
        have FB : Hid (Below w.heap.size w v6) := b.trans (B6.mono N1)
        clear D6 B6 Twas_6 Twt_6 Tnow_6
        clear eX eW eC eS RK WK w1 ok
        go_wp2
        go_ret
        exact ⟨rfl, FB.out⟩
      have hdd0 : d.dead = false := by simpa using hdd
      have eX : flX d = 0 := by unfold flX; rw [if_neg hdd]
      have eW : (flS d).wait = noneI := fl_wait ek
      have eC : crS (flS d) K = flS d := cr_none eW K
      have eS : (flS d).dead = false := by rw [fl_dead]; exact hdd0
      clear ek hdd hdd0
      go_wp2_with fail
      refine (dflush_is D0.at_ eX rfl).mono ?_
      rintro _ v1 ⟨rfl, G1, A1, g1⟩
      have D1 : DkB v1 u1.heap.size db G1 (flS d) := D0.grew A1 g1
      have B1 := B0.trans (D0.bel g1)
      clear D0 B0  A1 g1
      go_wp2_with fail
      refine (dlasts_any D1.at_).mono ?_
      rintro _ v2 ⟨xwas, rfl, O2, C2⟩
      have Twas_2 := ToldH.own D1.at_ O2 (Nat.le_trans (heldL_length _ _) (by have := D1.at_.ok.s2; omega))
      have D2 := D1.below C2
      have B2 := B1.step12 C2 B1.size
      clear D1 B1  O2 C2
      go_wp2_with fail
      refine (dwaits_any D2.at_).mono ?_
      rintro _ v3 ⟨xwt, rfl, O3, C3⟩
      have Twt_3 := ToldH.own D2.at_ O3 (Nat.le_trans (heldL_length _ _) (by have := D2.at_.ok.s2; omega))
      have D3 := D2.below C3
      have Twas_3 := Twas_2.below C3
      have B3 := B2.step12 C3 B2.size
      clear D2 B2 Twas_2 O3 C3
      go_wp2_with fail
      refine (dcrash_is D3.at_ (RK.below B3) WK (apart_old D3 RK) (by omega) eC).mono ?_
      rintro _ v4 ⟨rfl, G4, A4, g4⟩
      have D4 : DkB v4 u1.heap.size db G4 (flS d) := D3.grew A4 g4
      have Twas_4 := Twas_3.grew g4
      have Twt_4 := Twt_3.grew g4
      have B4 := B3.trans (D3.bel g4)
      clear D3 B3 Twas_3 Twt_3 A4 g4
      go_wp2_with fail
      refine (dlasts_any D4.at_).mono ?_
      rintro _ v5 ⟨xnow, rfl, O5, C5⟩
      have Tnow_5 := ToldH.own D4.at_ O5 (Nat.le_trans (heldL_length _ _) (by have := D4.at_.ok.s2; omega))
      have D5 := D4.below C5
      have Twas_5 := Twas_4.below C5
      have Twt_5 := Twt_4.below C5
      have B5 := B4.step12 C5 B4.size
      clear D4 B4 Twas_4 Twt_4 O5 C5
      go_wp2_with fail
      refine (same12_is Tnow_5.rd Twas_5.rd (decide_eq_true rfl)).mono ?_
      rintro _ v6 ⟨rfl, nq6, hq6⟩
      have C6 : Below v5.heap.size v5 v6 := by rw [hq6]; exact (Below.refl _ _).drewN _
      have D6 := D5.below C6
      have Twas_6 := Twas_5.below C6
      have Twt_6 := Twt_5.below C6
      have Tnow_6 := Tnow_5.below C6
      have B6 := B5.step12 C6 B5.size
      clear D5 B5 Twas_5 Twt_5 Tnow_5 hq6 C6
      rw [eW, heldL_none] at Twt_6
      obtain ⟨aw, cw, rfl⟩ := Twt_6.none
      have KD := @ddead_any v6 db _ D6.at_.dead
      rw [eS] at KD
      go_wp2_with fail
      refine KD.mono ?_
      rintro _ uq ⟨rfl, hq⟩
      rw [hq]
      clear hq uq KD
      have FB : Hid (Below w.heap.size w v6) := b.trans (B6.mono N1)
      clear D6 B6 Twas_6 Twt_6 Tnow_6
      clear eX eW eC eS RK WK w1 ok
      go_wp2
      go_ret
      exact ⟨rfl, FB.out⟩
    · have hk' : (K.length : Int) > 200 := by omega
      go_enter Try.func5, Try.ntmps5
      go_wp2_with fail
      refine awake_any.mono ?_
      rintro e u1 ⟨rfl, b⟩
      replace w1 := w1.below b
      replace RK := RK.below b
      have N1 := b.size
      go_wp2_with fail
      refine (done_any h1 h2 w1).mono ?_
      rintro _ v0 ⟨db, G0, rfl, A0, H0, B0⟩
      have D0 : DkB v0 u1.heap.size db G0 (runS (newD a0.toNat) (z1.take 60)) := ⟨A0, H0, B0.size⟩
      obtain ⟨d, hd⟩ : ∃ d, d = runS (newD a0.toNat) (z1.take 60) := ⟨_, rfl⟩
      have hs : Hid (d.s = a0.toNat) := by show d.s = _; rw [hd, runS_s]; rfl
      rw [← hd] at D0
      have ok : Hid d.Ok := D0.at_.ok
      clear A0 H0 hd
      have FB : Hid (Below w.heap.size w v0) := b.trans (B0.mono N1)
      clear D0 B0 
      go_wp2
      go_ret
      exact ⟨rfl, FB.out⟩
  · clear RK WK
    go_enter Try.func5, Try.ntmps5
    go_wp2_with fail
    refine awake_any.mono ?_
    rintro e u1 ⟨rfl, b⟩
    replace w1 := w1.below b
    have N1 := b.size
    go_wp2_with fail
    refine (done_no hn w1).mono ?_
    rintro _ uq ⟨rfl, hq⟩
    rw [hq]
    clear hq uq
    have FB : Hid (Below w.heap.size w u1) := b
    go_wp2
    go_ret
    exact ⟨rfl, FB.out⟩

/-! ### THE ROW's STEP: WRITTEN OUT: LEAVE IT -/
set_option maxRecDepth 100000 in
theorem lifted (os : Os) (started : os.Started) (H : Type) (enc : TypeId × Value → H) :
    ReturnsInHanded {} Try.checked os 5 .any (Rows.diskLastsSpec.pre6 enc Try.prog Try.f5 Rows.diskLastsRow.domain false) (Rows.diskLastsSpec.post enc Try.prog Try.f5 false true false false) := by
  refine returnsInHanded_of_change (C := Try.checked) own started (by kernel_rfl) Try.func5
    (ChangeSpec.witness6 (enc := enc) (C := Try.checked) false ⟨#[], #[.int .i64 0, .slice none 0 0, .slice none 0 0], []⟩ 8 (by kernel_rfl) (by kernel_rfl) (by kernel_rfl) (by kernel_rfl)) ?_
  intro W base args ds gs before hval0 hW hcnd _
  have hval : ∀ (j : Nat) t v, Try.f5.params[j]? = some t → args[j]? = some v → Value.okWide Try.prog W .any base t v := hval0
  have hW' := hW
  obtain ⟨p, q, hA0, hV, rfl, hfz, hnd⟩ := hW
  have hA : DataW.TrodAll enc Try.prog W 0 (fun _ => true) true Try.f5.params.toList args.toList ds p := hA0
  rw [Try.params5] at hA hval
  obtain ⟨v0, vs0, d0, ds0, p0, q0, hargs, rfl, rfl, h0, r0⟩ := trodAll_cons hA
  obtain ⟨v1, vs1, d1, ds1, p1, q1, rfl, rfl, rfl, h1, r1⟩ := trodAll_cons r0
  obtain ⟨v2, vs2, d2, ds2, p2, q2, rfl, rfl, rfl, h2, r2⟩ := trodAll_cons r1
  obtain ⟨rfl, rfl, rfl⟩ := trodAll_nil r2
  obtain rfl : args = #[v0, v1, v2] := by cases args; simp_all
  obtain ⟨rfl, rfl⟩ := trodVars_none hV
  obtain ⟨a0, rfl, rfl, rfl, w0⟩ := open_int Try.underlying3 (hval 0 3 v0 rfl rfl) h0
  obtain ⟨a1, len1, cap1, rfl⟩ := okWide_slice Try.underlying23 (hval 1 23 v1 rfl rfl)
  have k1 := h1
  have lt1 : ∀ x ∈ p1, x.block < W.heap.size := by obtain ⟨m, hm⟩ := k1; exact DataW.trod_lt m _ _ _ hm
  obtain ⟨z1, w1⟩ : ∃ zs, RdC W (.slice a1 len1 cap1) zs := by
    obtain ⟨fuel, hf⟩ := h1
    obtain ⟨a9, l9, c9, L9, hcs, _, hR⟩ := open_calls (sb := 5) (si := 3) Try.underlying23 Try.underlying35 (by kernel_rfl) rfl rfl rfl rfl rfl rfl (by kernel_rfl) (by kernel_rfl) (by kernel_rfl) (by kernel_rfl) (by kernel_rfl) (by kernel_rfl) (by kernel_rfl) (by kernel_rfl) (by kernel_rfl) (by kernel_rfl) (by kernel_rfl) (by kernel_rfl) (by kernel_rfl) (by kernel_rfl) (by kernel_rfl) (by kernel_rfl) hf
    simp [Value.cells] at hcs
    obtain ⟨rfl, rfl, rfl⟩ := hcs
    exact ⟨L9, hR⟩
  obtain ⟨a2, len2, cap2, rfl⟩ := okWide_slice Try.underlying33 (hval 2 33 v2 rfl rfl)
  have k2 := h2
  have lt2 : ∀ x ∈ p2, x.block < W.heap.size := by obtain ⟨m, hm⟩ := k2; exact DataW.trod_lt m _ _ _ hm
  obtain ⟨z2, w2⟩ : ∃ zs, IsRow .i64 W a2 len2 cap2 zs := by
    obtain ⟨fuel, hf⟩ := h2
    rcases open_ints Try.underlying33 Try.underlying3 (by kernel_rfl) hf with ⟨hcs, _⟩ | ⟨x, l, c, zs, hcs, _, hl, hm, hz, _, hcell, hwz⟩
    · simp [Value.cells] at hcs
      obtain ⟨rfl, rfl, rfl⟩ := hcs
      exact ⟨[], .inl ⟨rfl, rfl, rfl, rfl⟩⟩
    · simp [Value.cells] at hcs
      obtain ⟨rfl, rfl, rfl⟩ := hcs
      exact ⟨zs, .inr ⟨_, rfl, hl, hm, by simpa using hz, hcell, hwz⟩⟩
  clear hA0 hval0
  refine (walk a0 a1 len1 cap1 z1 a2 len2 cap2 z2 W w0 w1 w2).mono fun e W' ⟨he, bel⟩ => ?_
  subst he
  exact ⟨_, rfl, _, _, _, [], _, [], hW', trodAll_mk1 (shut_bool Try.underlying4 _), (trodAll_cons_mk (shut_int Try.underlying3 w0) (trodAll_cons_mk (Below.trod laidOut (by kernel_rfl) (of_decide_eq_true (by kernel_rfl)) k1 bel lt1) (trodAll_cons_mk (Below.trod laidOut (by kernel_rfl) (of_decide_eq_true (by kernel_rfl)) k2 bel lt2) trodAll_mk0))), rfl, bel.frame _, fun h => by cases h⟩

theorem over : Rows.diskLastsRow.holds Try.pinned (OpenSpec.ofChange Rows.diskLastsSpec) :=
  OpenClaim.holds_of_wide 5 Try.f5 rfl rfl rfl rfl rfl rfl rfl ⟨rfl, rfl, rfl, rfl, rfl⟩ rfl rfl rfl rfl rfl (by kernel_rfl) Try.func5 (by kernel_rfl)
    (of_decide_eq_true (by kernel_rfl)) (by unfold Func.isWrapper; first | (rw [if_pos (by decide +kernel)]; kernel_rfl) | (rw [if_neg (by decide +kernel)]; exact ⟨rfl, rfl⟩))
    (fun os started H enc _ => lifted os started H enc)

/-- ████ THE STATEMENT ████ -/
theorem proved : Rows.DiskLastsSaid := over
end Go.Proofs.Ytabcbmabimommaa.diskLasts
namespace Go.Proofs.Ytabcbmabimommaa
theorem diskLasts_holds : Rows.DiskLastsSaid := diskLasts.proved
#print axioms diskLasts_holds
end Go.Proofs.Ytabcbmabimommaa
