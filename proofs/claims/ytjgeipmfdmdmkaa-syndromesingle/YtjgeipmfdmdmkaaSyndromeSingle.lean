/- PROVED: for all k, m, at and by the call SyndromeSingle(k, m, at, by) returns true; no conditions. -/
import Derived.Test.YtjgeipmfdmdmkaaRows
import Derived.Test.YtjgeipmfdmdmkaaTome6
import Derived.WalkKit
import Derived.ProofKit
import Derived.OpenShut
import Derived.ShutString
namespace Go.Proofs.Ytjgeipmfdmdmkaa.syndromeSingle
open Go.ChangeShapes Go.WideShapes Go.ChangeAt Go.RowKit
open Go.ChangeMaps (open_string shut_string)
set_option linter.unusedVariables false      -- a walk need not use every 'w<i>' (that an integer argument fits its kind)

theorem own : ownKnob Try.prog.godebug = none := by kernel_rfl

open Gf
set_option linter.unusedSimpArgs false
set_option maxRecDepth 100000 in
set_option maxHeartbeats 4000000 in
theorem walk (a0 : Int) (a1 : Int) (a2 : Int) (a3 : Int) (w0 : (Lit.int .i64 a0).wf = true) (w1 : (Lit.int .i64 a1).wf = true) (w2 : (Lit.int .i64 a2).wf = true) (w3 : (Lit.int .u8 a3).wf = true) (w : World) :
    Calls Try.prog 6 #[.int .i64 a0, .int .i64 a1, .int .i64 a2, .int .u8 a3] w fun e w' => e = .returned (.bool true) ∧ Below w.heap.size w w' := by
  obtain ⟨y, rfl⟩ : ∃ y : UInt8, a3 = ((y.toNat : Nat) : Int) := ⟨UInt8.ofNat (a3).toNat, by have := bounds_u8 w3; rw [ofNat_u8 (by omega)]; omega⟩
  obtain ⟨i0, hi, hz0, hz1, hz2⟩ := info_parts info_u8
  go_enter Try.func6, Try.ntmps6
  have B : Below w.heap.size w w := Below.refl _ _
  go_wp2_with fail
  refine (awake8_any _).mono ?_
  rintro e u1 ⟨rfl, b⟩
  have D : Below (World.heap w |>.size) w u1 := Below.next (by repeat (first | exact Below.refl _ _ | apply Below.drewN | apply Below.drew | apply Below.draws | apply below_lit)) b
  replace B := Below.next B D
  clear b D
  go_wp2_with fail
  refine (new_any _).mono ?_
  rintro e u2 ⟨rfl, F, hO⟩
  have b := hO.below
  clear hO
  have D : Below (World.heap u1 |>.size) u1 u2 := Below.next (by repeat (first | exact Below.refl _ _ | apply Below.drewN | apply Below.drew | apply Below.draws | apply below_lit)) b
  replace B := Below.next B D
  clear b D
  go_wp2_with fail
  refine (few8_any a0 a1 _).mono ?_
  rintro e u3 ⟨rfl, b⟩
  have D : Below (World.heap u2 |>.size) u2 u3 := Below.next (by repeat (first | exact Below.refl _ _ | apply Below.drewN | apply Below.drew | apply Below.draws | apply below_lit)) b
  replace F := F.below D
  replace B := Below.next B D
  clear b D
  by_cases ok : OkC a0 a1
  · obtain ⟨k, m, rfl, rfl, h1, h2⟩ := ok.nat
    obtain ⟨s, hs⟩ : ∃ s, Hid (s = k + m) := ⟨_, rfl⟩
    have hs2 : s ≤ 256 := by have := hs.out; omega
    have g1 : (k : Int) + (m : Int) = (s : Int) := by have := hs.out; omega
    have gw : IntKind.i64.wrap (s : Int) = (s : Int) := by rw [IntKind.wrap_i64]; omega
    have hfew : fewB (k : Int) (m : Int) = decide ((s : Int) ≤ 30) := by rw [fewB_ok ok, g1]
    by_cases h30 : (s : Int) ≤ 30
    · rw [hfew, decide_eq_true h30]
      clear hfew
      by_cases hat : 0 ≤ a2 ∧ a2 < (s : Int)
      · obtain ⟨n, rfl⟩ : ∃ n : Nat, a2 = (n : Int) := ⟨a2.toNat, by omega⟩
        have q1 : ¬ (n : Int) < 0 := by omega
        have q2 : ¬ (n : Int) ≥ (s : Int) := by omega
        have q3 : (n : Int) < (s : Int) := by omega
        have hn : n < s := by omega
        clear hat
        go_wp2_with fail
        refine (ccheck_ok _ ok).mono ?_
        rintro e u4 ⟨rfl, b⟩
        have D : Below (World.heap u3 |>.size) u3 u4 := Below.next (by repeat (first | exact Below.refl _ _ | apply Below.drewN | apply Below.drew | apply Below.draws | apply below_lit)) b
        replace F := F.below D
        replace B := Below.next B D
        clear b D
        have h2' : Hid _ := h2
        clear ok h2
        obtain ⟨g, hg⟩ : ∃ g, Hid (g = (World.heap u4 |>.size)) := ⟨_, rfl⟩
        go_wp2_with (at_make; go_loud (refine wpList_make_full _ rfl (.tmp 49) (.tmp 49) 22 rfl (World.heap u4 |>.size) 5 i0 (.int .u8 0) 1 Try.underlying22 hi hz0 hz1 _ _ _ _ s rfl rfl (by omega) (by omega) (by rw [hz2]; omega) (by unfold maxLen; omega) (Nat.le_refl _) ?_); intro w8 hown8 hgrow8; rw [← hg.out] at hown8; rw [← hg.out]; have R8 := RowF.made hown8; have c8 := R8.cell hn; have f8 := R8.unfrozen n)
        have RW : Rd (World.setCell w8 ⟨g, n, none⟩ (.int .u8 (y.toNat : Nat))) (.slice (some ⟨g, 0, none⟩) s s) (upto (fun i => if i = n then y else 0) s) := (R8.store hn y (fun t => rfl)).rd
        have D : Below (World.heap u4 |>.size) u4 (World.setCell w8 ⟨g, n, none⟩ (.int .u8 (y.toNat : Nat))) := ((Below.refl _ _).grown hgrow8 (Nat.le_refl _) (fun q hq => by cases hq)).setCell (p := ⟨g, n, none⟩) (by rw [hg.out]; exact Nat.le_refl _) _
        replace F := F.below D
        replace B := Below.next B D
        clear D hown8 hgrow8 R8 c8 f8 hg
        generalize World.setCell w8 ⟨g, n, none⟩ (.int .u8 (y.toNat : Nat)) = w9 at *
        have HSy : Hid (∀ l, l < m → co (upto (synF k m (co (upto (fun i => if i = n then y else 0) s))) m) l = nmF (mu y (wtF k m n)) (pt n) l) := fun l hl => by
          rw [co_upto_in hl, synF_one (j := n) (by have := hs.out; omega) (fun i hi hne => by rw [co_upto_in (by have := hs.out; omega), if_neg hne]), co_upto_in hn, if_pos rfl]
        have HLw : Hid ((upto (fun i => if i = n then y else 0) s).length = k + m) := (by rw [upto_length, hs.out] : (upto (fun i => if i = n then y else 0) s).length = k + m)
        have HLx : Hid ((upto (synF k m (co (upto (fun i => if i = n then y else 0) s))) m).length = m) := upto_length _ _
        go_wp2_with fail
        refine (wts_ok (F.below (by repeat (first | exact Below.refl _ _ | apply Below.drewN | apply Below.drew | apply Below.draws | apply below_lit))) h1 h2'.out rfl rfl).mono ?_
        rintro e u5 ⟨va, rfl, Ra, b⟩
        rw [← hs.out] at Ra
        have D : Below (World.heap w9 |>.size) w9 u5 := Below.next (by repeat (first | exact Below.refl _ _ | apply Below.drewN | apply Below.drew | apply Below.draws | apply below_lit)) b
        replace F := F.below D
        replace RW := RW.below D
        replace B := Below.next B D
        clear b D
        obtain ⟨aa, ca, ea⟩ := Ra.form
        rw [upto_length] at ea
        subst ea
        go_wp2_with fail
        refine (sof_ok (F.below (by repeat (first | exact Below.refl _ _ | apply Below.drewN | apply Below.drew | apply Below.draws | apply below_lit))) h1 h2'.out (RW.below (by repeat (first | exact Below.refl _ _ | apply Below.drewN | apply Below.drew | apply Below.draws | apply below_lit))) HLw.out rfl rfl).mono ?_
        rintro e u6 ⟨vx, rfl, Rx, b⟩
        have D : Below (World.heap u5 |>.size) u5 u6 := Below.next (by repeat (first | exact Below.refl _ _ | apply Below.drewN | apply Below.drew | apply Below.draws | apply below_lit)) b
        replace F := F.below D
        replace RW := RW.below D
        replace Ra := Ra.below D
        replace B := Below.next B D
        clear b D
        obtain ⟨xa, xc, ex⟩ := Rx.form
        rw [HLx.out] at ex
        subst ex
        obtain ⟨P, hP⟩ : ∃ P, Hid (P = upto (synF k m (co (upto (fun i => if i = n then y else 0) s))) m) := ⟨_, rfl⟩
        rw [← hP.out] at Rx HSy HLx
        obtain ⟨ab, ao, rfl, _, ca1⟩ := Ra.byte (i := n) (by rw [upto_length]; exact hn)
        rw [co_upto_in hn] at ca1
        obtain ⟨x, hx⟩ : ∃ x, Hid (x = wtF k m n) := ⟨_, rfl⟩
        rw [← hx.out] at ca1 HSy
        have hx0 : (((x.toNat : Nat) : Int) == 0) = false := by rw [eq_u8_zero]; exact decide_eq_false (by rw [hx.out]; exact wtF_ne h2'.out (by omega))
        have q5 : ((s : Int) != (s : Int)) = false := by simp
        have q6 : ((m : Int) != (m : Int)) = false := by simp
        go_wp2_with fail
        refine (fmu_quiet (F.below (by repeat (first | exact Below.refl _ _ | apply Below.drewN | apply Below.drew | apply Below.draws | apply below_lit))) y x rfl rfl).mono ?_
        rintro e v1 ⟨rfl, nd1, hv1⟩
        have F1 := F.drewN nd1
        rw [← hv1] at F1
        have Rx1 : Rd v1 (.slice xa m xc) P := by rw [hv1]; exact Rx.drewN nd1
        have B1 : Hid (Below w.heap.size w v1) := by rw [hv1]; exact Below.draws B nd1
        clear hv1 hx0 q5 q6 ca1 F Rx Ra RW
        have m1 : (n : Int) % 256 = (n : Int) := by omega
        have hpt : Hid ((n : Int) = (((pt n).toNat : Nat) : Int)) := (by rw [pt_toNat (by omega)] : (n : Int) = (((pt n).toNat : Nat) : Int))
        go_wp2
        go_loopw [16, 17] (fun x' v wr => ∃ l : Nat, l ≤ m ∧ v = .int .i64 l ∧ x' = .int .u8 ((nmF (mu y x) (pt n) l).toNat : Nat) ∧ ∃ nd, wr = v1.drewN nd) (fun _ v _ => m - (intOf v).toNat)
        case atStart => exact ⟨0, by omega, rfl, rfl, 0, rfl⟩
        case round =>
          obtain ⟨l, hl, rfl, rfl, nd, hd0⟩ := hrel
          have hd : Hid (wr = v1.drewN nd) := hd0
          by_cases hlt : l < m
          · have hlt' : (l : Int) < (m : Int) := by omega
            obtain ⟨xb, xo, rfl, _, cx⟩ := Rx1.byte (i := l) (by rw [HLx.out]; exact hlt)
            rw [HSy.out l hlt] at cx
            obtain ⟨q, hq⟩ : ∃ q, Hid (q = nmF (mu y x) (pt n) l) := ⟨_, rfl⟩
            have HQ : Hid (nmF (mu y x) (pt n) (l + 1) = mu q (pt n)) := by show _ = _; rw [hq.out]; rfl
            rw [← hq.out] at cx ⊢
            have cx2 : wr.cell? ⟨xb, xo + l, none⟩ = some (.int .u8 (q.toNat : Nat)) := by rw [hd0]; exact cx
            have F2 := F1.drewN nd
            rw [← hd0] at F2
            have hne : (((q.toNat : Nat) : Int) != ((q.toNat : Nat) : Int)) = false := by simp
            clear cx hd0 F1 Rx1
            go_wp2_with fail
            refine (fmu_quiet F2 q (pt n) rfl hpt.out).mono ?_
            rintro e w2 ⟨rfl, n2, hw2⟩
            have hw : Hid _ := hw2
            clear hw2 hne cx2 F2
            go_wp2
            go_roundw
            case rel => exact ⟨l + 1, by omega, by go_num, by rw [HQ.out], nd + n2, by rw [hw.out, hd.out, World.drewN_drewN]⟩
            case measure => simp [intOf]; omega
          · have e : l = m := by omega
            subst e
            have hge : ¬ (l : Int) < (l : Int) := by omega
            clear hd0 F1 Rx1
            go_wp2
            go_ret
            exact ⟨rfl, by rw [hd.out]; exact Below.draws B1.out nd⟩
      · by_cases hneg : a2 < 0
        · clear hat
          go_wp2_with fail
          refine (ccheck_ok _ ok).mono ?_
          rintro e u4 ⟨rfl, b⟩
          have D : Below (World.heap u3 |>.size) u3 u4 := Below.next (by repeat (first | exact Below.refl _ _ | apply Below.drewN | apply Below.drew | apply Below.draws | apply below_lit)) b
          replace F := F.below D
          replace B := Below.next B D
          clear b D
          clear ok
          go_wp2
          go_ret
          exact ⟨rfl, Below.next B (by repeat (first | exact Below.refl _ _ | apply Below.drewN | apply Below.drew | apply Below.draws | apply below_lit))⟩
        · have hge : a2 ≥ (s : Int) := by omega
          clear hat
          go_wp2_with fail
          refine (ccheck_ok _ ok).mono ?_
          rintro e u4 ⟨rfl, b⟩
          have D : Below (World.heap u3 |>.size) u3 u4 := Below.next (by repeat (first | exact Below.refl _ _ | apply Below.drewN | apply Below.drew | apply Below.draws | apply below_lit)) b
          replace F := F.below D
          replace B := Below.next B D
          clear b D
          clear ok
          go_wp2
          go_ret
          exact ⟨rfl, Below.next B (by repeat (first | exact Below.refl _ _ | apply Below.drewN | apply Below.drew | apply Below.draws | apply below_lit))⟩
    · rw [hfew, decide_eq_false h30]
      clear hfew
      go_wp2
      go_ret
      exact ⟨rfl, Below.next B (by repeat (first | exact Below.refl _ _ | apply Below.drewN | apply Below.drew | apply Below.draws | apply below_lit))⟩
  · rw [fewB_bad ok]
    go_wp2_with fail
    refine (ccheck_bad _ ok).mono ?_
    rintro e u4 ⟨rfl, b⟩
    have D : Below (World.heap u3 |>.size) u3 u4 := Below.next (by repeat (first | exact Below.refl _ _ | apply Below.drewN | apply Below.drew | apply Below.draws | apply below_lit)) b
    replace F := F.below D
    replace B := Below.next B D
    clear b D
    clear ok
    go_wp2
    go_ret
    exact ⟨rfl, Below.next B (by repeat (first | exact Below.refl _ _ | apply Below.drewN | apply Below.drew | apply Below.draws | apply below_lit))⟩

/-! ### THE ROW's STEP: WRITTEN OUT: LEAVE IT -/
set_option maxRecDepth 100000 in
theorem lifted (os : Os) (started : os.Started) (H : Type) (enc : TypeId × Value → H) :
    ReturnsInHanded {} Try.checked os 6 .any (Rows.syndromeSingleSpec.pre6 enc Try.prog Try.f6 Rows.syndromeSingleRow.domain false) (Rows.syndromeSingleSpec.post enc Try.prog Try.f6 false true false false) := by
  refine returnsInHanded_of_change (C := Try.checked) own started (by kernel_rfl) Try.func6
    (ChangeSpec.witness6 (enc := enc) (C := Try.checked) false ⟨#[], #[.int .i64 0, .int .i64 0, .int .i64 0, .int .u8 0], []⟩ 8 (by kernel_rfl) (by kernel_rfl) (by kernel_rfl) (by kernel_rfl)) ?_
  intro W base args ds gs before hval0 hW hcnd _
  have hval : ∀ (j : Nat) t v, Try.f6.params[j]? = some t → args[j]? = some v → Value.okWide Try.prog W .any base t v := hval0
  have hW' := hW
  obtain ⟨p, q, hA0, hV, rfl, hfz, hnd⟩ := hW
  have hA : DataW.TrodAll enc Try.prog W 0 (fun _ => true) true Try.f6.params.toList args.toList ds p := hA0
  rw [Try.params6] at hA hval
  obtain ⟨v0, vs0, d0, ds0, p0, q0, hargs, rfl, rfl, h0, r0⟩ := trodAll_cons hA
  obtain ⟨v1, vs1, d1, ds1, p1, q1, rfl, rfl, rfl, h1, r1⟩ := trodAll_cons r0
  obtain ⟨v2, vs2, d2, ds2, p2, q2, rfl, rfl, rfl, h2, r2⟩ := trodAll_cons r1
  obtain ⟨v3, vs3, d3, ds3, p3, q3, rfl, rfl, rfl, h3, r3⟩ := trodAll_cons r2
  obtain ⟨rfl, rfl, rfl⟩ := trodAll_nil r3
  obtain rfl : args = #[v0, v1, v2, v3] := by cases args; simp_all
  obtain ⟨rfl, rfl⟩ := trodVars_none hV
  obtain ⟨a0, rfl, rfl, rfl, w0⟩ := open_int Try.underlying3 (hval 0 3 v0 rfl rfl) h0
  obtain ⟨a1, rfl, rfl, rfl, w1⟩ := open_int Try.underlying3 (hval 1 3 v1 rfl rfl) h1
  obtain ⟨a2, rfl, rfl, rfl, w2⟩ := open_int Try.underlying3 (hval 2 3 v2 rfl rfl) h2
  obtain ⟨a3, rfl, rfl, rfl, w3⟩ := open_int Try.underlying5 (hval 3 5 v3 rfl rfl) h3
  clear hA0 hval0
  simp only [List.append_nil] at hW'
  refine (walk a0 a1 a2 a3 w0 w1 w2 w3 W).mono fun e W' ⟨he, hg⟩ => ?_
  subst he
  exact ⟨_, rfl, _, _, _, [], _, [], hW', trodAll_mk1 (shut_bool Try.underlying4 _), (trodAll_cons_mk (shut_int Try.underlying3 w0) (trodAll_cons_mk (shut_int Try.underlying3 w1) (trodAll_cons_mk (shut_int Try.underlying3 w2) (trodAll_cons_mk (shut_int Try.underlying5 w3) trodAll_mk0)))), rfl, hg.frame _, fun h => by cases h⟩

theorem over : Rows.syndromeSingleRow.holds Try.pinned (OpenSpec.ofChange Rows.syndromeSingleSpec) :=
  OpenClaim.holds_of_wide 6 Try.f6 rfl rfl rfl rfl rfl rfl rfl ⟨rfl, rfl, rfl, rfl, rfl⟩ rfl rfl rfl rfl rfl (by kernel_rfl) Try.func6 (by kernel_rfl)
    (of_decide_eq_true (by kernel_rfl)) (by unfold Func.isWrapper; first | (rw [if_pos (by decide +kernel)]; kernel_rfl) | (rw [if_neg (by decide +kernel)]; exact ⟨rfl, rfl⟩))
    (fun os started H enc _ => lifted os started H enc)

/-- ████ THE STATEMENT ████ -/
theorem proved : Rows.SyndromeSingleSaid :=
  over
end Go.Proofs.Ytjgeipmfdmdmkaa.syndromeSingle
namespace Go.Proofs.Ytjgeipmfdmdmkaa
theorem syndromeSingle_holds : Rows.SyndromeSingleSaid := syndromeSingle.proved
#print axioms syndromeSingle_holds
end Go.Proofs.Ytjgeipmfdmdmkaa
