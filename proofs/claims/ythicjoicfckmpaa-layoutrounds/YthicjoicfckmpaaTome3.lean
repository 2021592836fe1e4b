/- TEXTS JOINED: LyL, LyAw. -/
import Derived.Test.YthicjoicfckmpaaTome2
import Derived.Deep.RegionHeld3
/-
  THE PROGRAM's LAYOUT BY CONTRACT (package layout): Disk, Shard.
-/

namespace Go.Proofs.Ythicjoicfckmpaa.Gf
set_option linter.unusedVariables false
set_option linter.unusedSimpArgs false
open Go.RowKit
set_option maxRecDepth 100000 in
set_option maxHeartbeats 1000000 in
theorem ldisk_any {w : World} {g : GeoS} (hg : g.Wf) {st sh : Int} (hst : (Lit.int .i64 st).wf = true) (hsh : (Lit.int .i64 sh).wf = true) {x : Int} (hx : diG g st sh = x) : Calls Try.prog 20 #[aggG g, .int .i64 st, .int .i64 sh] w fun e w' => e = .returned (.int .i64 x) ∧ Below w.heap.size w w' := by
  obtain ⟨k, m, z, s, t, o⟩ := g
  have LA := geo_laid w ⟨k, m, z, s, t, o⟩
  rw [show aggG ⟨k, m, z, s, t, o⟩ = .agg #[.int .i64 k, .int .i64 m, .int .i64 z, .int .i64 s, .int .i64 t, .int .i64 o] from rfl]
  have bk := bounds_i64 hg.k
  have bm := bounds_i64 hg.m
  simp only at bk bm
  have KC := fun W => @lcheck_any W ⟨k, m, z, s, t, o⟩ hg _ rfl
  rw [show aggG ⟨k, m, z, s, t, o⟩ = .agg #[.int .i64 k, .int .i64 m, .int .i64 z, .int .i64 s, .int .i64 t, .int .i64 o] from rfl] at KC
  have KD := fun W => @ldisks_any W ⟨k, m, z, s, t, o⟩ _ rfl
  simp only at KD
  rw [show aggG ⟨k, m, z, s, t, o⟩ = .agg #[.int .i64 k, .int .i64 m, .int .i64 z, .int .i64 s, .int .i64 t, .int .i64 o] from rfl] at KD
  have KA := fun W => @lis_any W st s _ rfl
  have KI := fun W => @lis_any W sh (k + m) _ rfl
  by_cases h0 : okG ⟨k, m, z, s, t, o⟩
  · rw [show chG ⟨k, m, z, s, t, o⟩ = 0 from if_pos h0] at KC
    have hok := h0
    obtain ⟨o1, o2, o3, o4, o5, o6, o7, o8, o9, o10, o11⟩ := h0
    simp only at o1 o2 o3 o4 o5 o6 o7 o8 o9 o10 o11
    have gk : IntKind.i64.wrap (k + m) = k + m := by rw [IntKind.wrap_i64]; omega
    rw [gk] at KD
    by_cases h1 : 0 ≤ st ∧ st < s
    · rw [decide_eq_true h1] at KA
      by_cases h2 : 0 ≤ sh ∧ sh < k + m
      · rw [show diG ⟨k, m, z, s, t, o⟩ st sh = (sh + st) % (k + m) from if_pos ⟨⟨hok, h1⟩, h2⟩] at hx
        rw [decide_eq_true h2] at KI
        obtain ⟨n, hn⟩ : ∃ n, Hid (n = k + m) := ⟨_, rfl⟩
        rw [← hn.out] at KD KI hx o3 h2
        have o1' : 1 ≤ n := by rw [hn.out]; omega
        have g2 : IntKind.i64.wrap (sh + st) = sh + st := by rw [IntKind.wrap_i64]; omega
        have nz : ¬ n = 0 := by omega
        have nz' : (n == 0) = false := beq_eq_false_iff_ne.2 nz
        have tm : (sh + st).tmod n = (sh + st) % n := Int.tmod_eq_emod_of_nonneg (by omega)
        have gm : IntKind.i64.wrap ((sh + st) % n) = (sh + st) % n := by
          have e1 := Int.emod_nonneg (sh + st) nz
          have e2 := Int.emod_lt_of_pos (sh + st) (show 0 < n by omega)
          rw [IntKind.wrap_i64]; omega
        subst hx
        go_enter Try.func20, Try.ntmps20
        go_wp2_with fail
        refine (KC _).mono ?_
        rintro _ w1 ⟨rfl, B1⟩
        obtain ⟨⟨x0, x1, x2, x3, x4, x5⟩, F1⟩ := LA _ _ B1
        simp only at x0 x1 x2 x3 x4 x5
        have C1 := B1
        clear B1 KC
        go_wp2_with fail
        refine (KA _).mono ?_
        rintro _ wq ⟨rfl, hwq⟩
        rw [hwq]
        clear hwq wq
        go_wp2_with fail
        refine (KD _).mono ?_
        rintro _ w2 ⟨rfl, B2⟩
        have C2 := C1.stepL B2 C1.size
        clear x0 x1 x2 x3 x4 x5 B2 C1
        obtain ⟨⟨x0, x1, x2, x3, x4, x5⟩, F2⟩ := LA _ _ C2
        simp only at x0 x1 x2 x3 x4 x5
        go_wp2_with fail
        refine (KI _).mono ?_
        rintro _ wq ⟨rfl, hwq⟩
        rw [hwq]
        clear hwq wq
        go_wp2_with fail
        refine (KD _).mono ?_
        rintro _ w3 ⟨rfl, B3⟩
        have C3 := C2.stepL B3 C2.size
        clear x0 x1 x2 x3 x4 x5 B3 C2
        obtain ⟨⟨x0, x1, x2, x3, x4, x5⟩, F3⟩ := LA _ _ C3
        simp only at x0 x1 x2 x3 x4 x5
        clear LA C3
        go_wp2
        go_ret
        exact ⟨rfl, F3⟩
      · rw [show diG ⟨k, m, z, s, t, o⟩ st sh = 0 from if_neg (fun h => h2 h.2)] at hx
        rw [decide_eq_false h2] at KI
        subst hx
        go_enter Try.func20, Try.ntmps20
        go_wp2_with fail
        refine (KC _).mono ?_
        rintro _ w1 ⟨rfl, B1⟩
        obtain ⟨⟨x0, x1, x2, x3, x4, x5⟩, F1⟩ := LA _ _ B1
        simp only at x0 x1 x2 x3 x4 x5
        have C1 := B1
        clear B1 KC
        go_wp2_with fail
        refine (KA _).mono ?_
        rintro _ wq ⟨rfl, hwq⟩
        rw [hwq]
        clear hwq wq
        go_wp2_with fail
        refine (KD _).mono ?_
        rintro _ w2 ⟨rfl, B2⟩
        have C2 := C1.stepL B2 C1.size
        clear x0 x1 x2 x3 x4 x5 B2 C1
        obtain ⟨⟨x0, x1, x2, x3, x4, x5⟩, F2⟩ := LA _ _ C2
        simp only at x0 x1 x2 x3 x4 x5
        go_wp2_with fail
        refine (KI _).mono ?_
        rintro _ wq ⟨rfl, hwq⟩
        rw [hwq]
        clear hwq wq
        clear LA C2
        go_wp2
        go_ret
        exact ⟨rfl, F2⟩
    · rw [show diG ⟨k, m, z, s, t, o⟩ st sh = 0 from if_neg (fun h => h1 h.1.2)] at hx
      rw [decide_eq_false h1] at KA
      subst hx
      go_enter Try.func20, Try.ntmps20
      go_wp2_with fail
      refine (KC _).mono ?_
      rintro _ w1 ⟨rfl, B1⟩
      obtain ⟨⟨x0, x1, x2, x3, x4, x5⟩, F1⟩ := LA _ _ B1
      simp only at x0 x1 x2 x3 x4 x5
      have C1 := B1
      clear B1 KC
      go_wp2_with fail
      refine (KA _).mono ?_
      rintro _ wq ⟨rfl, hwq⟩
      rw [hwq]
      clear hwq wq
      clear LA C1
      go_wp2
      go_ret
      exact ⟨rfl, F1⟩
  · rw [show chG ⟨k, m, z, s, t, o⟩ = 50 from if_neg h0] at KC
    rw [show diG ⟨k, m, z, s, t, o⟩ st sh = 0 from if_neg (fun h => h0 h.1.1)] at hx
    subst hx
    go_enter Try.func20, Try.ntmps20
    go_wp2_with fail
    refine (KC _).mono ?_
    rintro _ w1 ⟨rfl, B1⟩
    obtain ⟨⟨x0, x1, x2, x3, x4, x5⟩, F1⟩ := LA _ _ B1
    simp only at x0 x1 x2 x3 x4 x5
    clear B1 LA KC
    go_wp2
    go_ret
    exact ⟨rfl, F1⟩
set_option maxRecDepth 100000 in
set_option maxHeartbeats 1000000 in
theorem lshard_any {w : World} {g : GeoS} (hg : g.Wf) {st d : Int} (hst : (Lit.int .i64 st).wf = true) (hd : (Lit.int .i64 d).wf = true) {x : Int} (hx : shG g st d = x) : Calls Try.prog 22 #[aggG g, .int .i64 st, .int .i64 d] w fun e w' => e = .returned (.int .i64 x) ∧ Below w.heap.size w w' := by
  obtain ⟨k, m, z, s, t, o⟩ := g
  have LA := geo_laid w ⟨k, m, z, s, t, o⟩
  rw [show aggG ⟨k, m, z, s, t, o⟩ = .agg #[.int .i64 k, .int .i64 m, .int .i64 z, .int .i64 s, .int .i64 t, .int .i64 o] from rfl]
  have bk := bounds_i64 hg.k
  have bm := bounds_i64 hg.m
  simp only at bk bm
  have KC := fun W => @lcheck_any W ⟨k, m, z, s, t, o⟩ hg _ rfl
  rw [show aggG ⟨k, m, z, s, t, o⟩ = .agg #[.int .i64 k, .int .i64 m, .int .i64 z, .int .i64 s, .int .i64 t, .int .i64 o] from rfl] at KC
  have KD := fun W => @ldisks_any W ⟨k, m, z, s, t, o⟩ _ rfl
  simp only at KD
  rw [show aggG ⟨k, m, z, s, t, o⟩ = .agg #[.int .i64 k, .int .i64 m, .int .i64 z, .int .i64 s, .int .i64 t, .int .i64 o] from rfl] at KD
  have KA := fun W => @lis_any W st s _ rfl
  have KI := fun W => @lis_any W d (k + m) _ rfl
  by_cases h0 : okG ⟨k, m, z, s, t, o⟩
  · rw [show chG ⟨k, m, z, s, t, o⟩ = 0 from if_pos h0] at KC
    have hok := h0
    obtain ⟨o1, o2, o3, o4, o5, o6, o7, o8, o9, o10, o11⟩ := h0
    simp only at o1 o2 o3 o4 o5 o6 o7 o8 o9 o10 o11
    have gk : IntKind.i64.wrap (k + m) = k + m := by rw [IntKind.wrap_i64]; omega
    rw [gk] at KD
    by_cases h1 : 0 ≤ st ∧ st < s
    · rw [decide_eq_true h1] at KA
      by_cases h2 : 0 ≤ d ∧ d < k + m
      · rw [show shG ⟨k, m, z, s, t, o⟩ st d = (d - st) % (k + m) from if_pos ⟨⟨hok, h1⟩, h2⟩] at hx
        rw [decide_eq_true h2] at KI
        obtain ⟨n, hn⟩ : ∃ n, Hid (n = k + m) := ⟨_, rfl⟩
        rw [← hn.out] at KD KI hx o3 h2
        have o1' : 1 ≤ n := by rw [hn.out]; omega
        have nz : ¬ n = 0 := by omega
        have nz' : (n == 0) = false := beq_eq_false_iff_ne.2 nz
        have e1 := Int.emod_nonneg st nz
        have e2 := Int.emod_lt_of_pos st (show 0 < n by omega)
        obtain ⟨u, hu⟩ : ∃ u, Hid (u = st % n) := ⟨_, rfl⟩
        have tm : st.tmod n = u := by rw [hu.out]; exact Int.tmod_eq_emod_of_nonneg (by omega)
        rw [← hu.out] at e1 e2
        have gu : IntKind.i64.wrap u = u := by rw [IntKind.wrap_i64]; omega
        have g2 : IntKind.i64.wrap (d + n) = d + n := by rw [IntKind.wrap_i64]; omega
        have g3 : IntKind.i64.wrap (d + n - u) = d + n - u := by rw [IntKind.wrap_i64]; omega
        have tm2 : (d + n - u).tmod n = x := by
          rw [Int.tmod_eq_emod_of_nonneg (by omega), ← hx, hu.out, Int.sub_emod, Int.add_emod_right, Int.emod_emod_of_dvd _ (Int.dvd_refl n), ← Int.sub_emod]
        have gm : IntKind.i64.wrap x = x := by
          have e1 := Int.emod_nonneg (d - st) nz
          have e2 := Int.emod_lt_of_pos (d - st) (show 0 < n by omega)
          rw [hx] at e1 e2
          rw [IntKind.wrap_i64]; omega
        clear hx e1 e2
        go_enter Try.func22, Try.ntmps22
        go_wp2_with fail
        refine (KC _).mono ?_
        rintro _ w1 ⟨rfl, B1⟩
        obtain ⟨⟨x0, x1, x2, x3, x4, x5⟩, F1⟩ := LA _ _ B1
        simp only at x0 x1 x2 x3 x4 x5
        have C1 := B1
        clear B1 KC
        go_wp2_with fail
        refine (KA _).mono ?_
        rintro _ wq ⟨rfl, hwq⟩
        rw [hwq]
        clear hwq wq
        go_wp2_with fail
        refine (KD _).mono ?_
        rintro _ w2 ⟨rfl, B2⟩
        have C2 := C1.stepL B2 C1.size
        clear x0 x1 x2 x3 x4 x5 B2 C1
        obtain ⟨⟨x0, x1, x2, x3, x4, x5⟩, F2⟩ := LA _ _ C2
        simp only at x0 x1 x2 x3 x4 x5
        go_wp2_with fail
        refine (KI _).mono ?_
        rintro _ wq ⟨rfl, hwq⟩
        rw [hwq]
        clear hwq wq
        obtain ⟨W0, hW0⟩ : ∃ W0, Hid (W0 = w.alloc (.cells (cellsG ⟨k, m, z, s, t, o⟩) 24)) := ⟨_, rfl⟩
        have LB : Hid (∀ W, Below W0.heap.size W0 W → GeoAt W w.heap.size ⟨k, m, z, s, t, o⟩ ∧ Below w.heap.size w W) := fun W hW => LA 24 W (by rw [hW0.out] at hW; exact hW)
        replace C2 : Below W0.heap.size W0 w2 := by rw [hW0.out]; exact C2
        have CD : Below W0.heap.size W0 w2.drew := C2.drew
        have KE : ∀ W, Below W0.heap.size W0 W → Calls Try.prog 28 #[.agg #[.int .i64 k, .int .i64 m, .int .i64 z, .int .i64 s, .int .i64 t, .int .i64 o]] W fun e w' => e = .returned (.int .i64 n) ∧ Below W0.heap.size W0 w' := fun W hW => (KD W).mono fun e w' h => ⟨h.1, hW.stepL h.2 hW.size⟩
        have S2 := (LB.out _ C2).1
        have SD := (LB.out _ CD).1
        clear LA KD hW0 F1 F2 x0 x1 x2 x3 x4 x5 hn
        go_wp2_with fail
        go_region_held3 (fun wx => wx.cell? ⟨w.heap.size, 0, none⟩ = some (.int .i64 k) ∧ wx.cell? ⟨w.heap.size, 1, none⟩ = some (.int .i64 m) ∧ wx.cell? ⟨w.heap.size, 2, none⟩ = some (.int .i64 z) ∧ wx.cell? ⟨w.heap.size, 3, none⟩ = some (.int .i64 s) ∧ wx.cell? ⟨w.heap.size, 4, none⟩ = some (.int .i64 t) ∧ wx.cell? ⟨w.heap.size, 5, none⟩ = some (.int .i64 o)) (first | exact S2 | exact SD | exact (LB.out _ (by assumption)).1) ((go_at_call 28; go_loud (refine (KE _ (by assumption)).mono ?_); rintro _ vv ⟨rfl, hB⟩))
        have F := (LB.out _ (by assumption)).2
        go_wp2
        go_ret
        exact ⟨rfl, F⟩
      · rw [show shG ⟨k, m, z, s, t, o⟩ st d = 0 from if_neg (fun h => h2 h.2)] at hx
        rw [decide_eq_false h2] at KI
        subst hx
        go_enter Try.func22, Try.ntmps22
        go_wp2_with fail
        refine (KC _).mono ?_
        rintro _ w1 ⟨rfl, B1⟩
        obtain ⟨⟨x0, x1, x2, x3, x4, x5⟩, F1⟩ := LA _ _ B1
        simp only at x0 x1 x2 x3 x4 x5
        have C1 := B1
        clear B1 KC
        go_wp2_with fail
        refine (KA _).mono ?_
        rintro _ wq ⟨rfl, hwq⟩
        rw [hwq]
        clear hwq wq
        go_wp2_with fail
        refine (KD _).mono ?_
        rintro _ w2 ⟨rfl, B2⟩
        have C2 := C1.stepL B2 C1.size
        clear x0 x1 x2 x3 x4 x5 B2 C1
        obtain ⟨⟨x0, x1, x2, x3, x4, x5⟩, F2⟩ := LA _ _ C2
        simp only at x0 x1 x2 x3 x4 x5
        go_wp2_with fail
        refine (KI _).mono ?_
        rintro _ wq ⟨rfl, hwq⟩
        rw [hwq]
        clear hwq wq
        clear LA C2
        go_wp2
        go_ret
        exact ⟨rfl, F2⟩
    · rw [show shG ⟨k, m, z, s, t, o⟩ st d = 0 from if_neg (fun h => h1 h.1.2)] at hx
      rw [decide_eq_false h1] at KA
      subst hx
      go_enter Try.func22, Try.ntmps22
      go_wp2_with fail
      refine (KC _).mono ?_
      rintro _ w1 ⟨rfl, B1⟩
      obtain ⟨⟨x0, x1, x2, x3, x4, x5⟩, F1⟩ := LA _ _ B1
      simp only at x0 x1 x2 x3 x4 x5
      have C1 := B1
      clear B1 KC
      go_wp2_with fail
      refine (KA _).mono ?_
      rintro _ wq ⟨rfl, hwq⟩
      rw [hwq]
      clear hwq wq
      clear LA C1
      go_wp2
      go_ret
      exact ⟨rfl, F1⟩
  · rw [show chG ⟨k, m, z, s, t, o⟩ = 50 from if_neg h0] at KC
    rw [show shG ⟨k, m, z, s, t, o⟩ st d = 0 from if_neg (fun h => h0 h.1.1)] at hx
    subst hx
    go_enter Try.func22, Try.ntmps22
    go_wp2_with fail
    refine (KC _).mono ?_
    rintro _ w1 ⟨rfl, B1⟩
    obtain ⟨⟨x0, x1, x2, x3, x4, x5⟩, F1⟩ := LA _ _ B1
    simp only at x0 x1 x2 x3 x4 x5
    clear B1 LA KC
    go_wp2
    go_ret
    exact ⟨rfl, F1⟩
end Go.Proofs.Ythicjoicfckmpaa.Gf

/-
  THE STATEMENTS' HELPERS OF LAYER 14: 'awake'.
-/

namespace Go.Proofs.Ythicjoicfckmpaa.Gf
set_option linter.unusedVariables false
set_option linter.unusedSimpArgs false
open Go.RowKit

def gA : GeoS := ⟨2, 1, 4, 5, 3, 2⟩
theorem gA_wf : gA.Wf := ⟨by decide, by decide, by decide, by decide, by decide, by decide⟩
def gO : GeoS := ⟨0, 0, 0, 0, 0, 0⟩
theorem gO_wf : gO.Wf := ⟨by decide, by decide, by decide, by decide, by decide, by decide⟩
set_option maxRecDepth 100000 in
set_option maxHeartbeats 4000000 in
theorem awake_any {w : World} : Calls Try.prog 9 #[] w fun e w' => e = .returned (.bool true) ∧ Below w.heap.size w w' := by
  have LA := geo_laid w gA 24
  have KC := fun W => @lcheck_any W gA gA_wf 0 (by decide)
  have KS := fun W => @lsec_any W gA gA_wf 13 (by decide)
  have KA := fun W => @larea_any W gA gA_wf 1 0 (by decide) (by decide) 3 (by decide)
  have KT := fun W => @lslot_any W gA gA_wf 2 (by decide) 7 (by decide)
  have KR := fun W => @lstripe_any W gA gA_wf 0 (by decide) 8 (by decide)
  have KD := fun W => @ldisk_any W gA gA_wf 4 2 (by decide) (by decide) 0 (by decide)
  have KH := fun W => @lshard_any W gA gA_wf 4 0 (by decide) (by decide) 2 (by decide)
  have KN := fun W => @lneeds_any W gA gA_wf 9 (by decide) 2 (by decide)
  have KO := fun W => @lcheck_any W gO gO_wf 50 (by decide)
  rw [show aggG gA = .agg #[.int .i64 2, .int .i64 1, .int .i64 4, .int .i64 5, .int .i64 3, .int .i64 2] from rfl] at KC KS KA KT KR KD KH KN
  rw [show aggG gO = .agg #[.int .i64 0, .int .i64 0, .int .i64 0, .int .i64 0, .int .i64 0, .int .i64 0] from rfl] at KO
  go_enter Try.func9, Try.ntmps9
  go_wp2_with fail
  have LB := LA
  clear LA
  have B0 := Below.refl (w.alloc (.cells (cellsG gA) 24)).heap.size (w.alloc (.cells (cellsG gA) 24))
  obtain ⟨⟨x0, x1, x2, x3, x4, x5⟩, F0⟩ := LB _ B0
  simp only [gA] at x0 x1 x2 x3 x4 x5
  refine (KC _).mono ?_
  rintro _ v1 ⟨rfl, b1⟩
  have B1 := B0.stepL b1 B0.size
  clear b1 B0 F0 x0 x1 x2 x3 x4 x5
  obtain ⟨⟨x0, x1, x2, x3, x4, x5⟩, F1⟩ := LB _ B1
  simp only [gA] at x0 x1 x2 x3 x4 x5
  go_wp2_with fail
  refine (KS _).mono ?_
  rintro _ v2 ⟨rfl, b2⟩
  have B2 := B1.stepL b2 B1.size
  clear b2 B1 F1 x0 x1 x2 x3 x4 x5
  obtain ⟨⟨x0, x1, x2, x3, x4, x5⟩, F2⟩ := LB _ B2
  simp only [gA] at x0 x1 x2 x3 x4 x5
  go_wp2_with fail
  refine (KA _).mono ?_
  rintro _ v3 ⟨rfl, b3⟩
  have B3 := B2.stepL b3 B2.size
  clear b3 B2 F2 x0 x1 x2 x3 x4 x5
  obtain ⟨⟨x0, x1, x2, x3, x4, x5⟩, F3⟩ := LB _ B3
  simp only [gA] at x0 x1 x2 x3 x4 x5
  go_wp2_with fail
  refine (KT _).mono ?_
  rintro _ v4 ⟨rfl, b4⟩
  have B4 := B3.stepL b4 B3.size
  clear b4 B3 F3 x0 x1 x2 x3 x4 x5
  obtain ⟨⟨x0, x1, x2, x3, x4, x5⟩, F4⟩ := LB _ B4
  simp only [gA] at x0 x1 x2 x3 x4 x5
  go_wp2_with fail
  refine (KR _).mono ?_
  rintro _ v5 ⟨rfl, b5⟩
  have B5 := B4.stepL b5 B4.size
  clear b5 B4 F4 x0 x1 x2 x3 x4 x5
  obtain ⟨⟨x0, x1, x2, x3, x4, x5⟩, F5⟩ := LB _ B5
  simp only [gA] at x0 x1 x2 x3 x4 x5
  go_wp2_with fail
  refine (KD _).mono ?_
  rintro _ v6 ⟨rfl, b6⟩
  have B6 := B5.stepL b6 B5.size
  clear b6 B5 F5 x0 x1 x2 x3 x4 x5
  obtain ⟨⟨x0, x1, x2, x3, x4, x5⟩, F6⟩ := LB _ B6
  simp only [gA] at x0 x1 x2 x3 x4 x5
  go_wp2_with fail
  refine (KH _).mono ?_
  rintro _ v7 ⟨rfl, b7⟩
  have B7 := B6.stepL b7 B6.size
  clear b7 B6 F6 x0 x1 x2 x3 x4 x5
  obtain ⟨⟨x0, x1, x2, x3, x4, x5⟩, F7⟩ := LB _ B7
  simp only [gA] at x0 x1 x2 x3 x4 x5
  go_wp2_with fail
  refine (KN _).mono ?_
  rintro _ v8 ⟨rfl, b8⟩
  have B8 := B7.stepL b8 B7.size
  clear b8 B7 F7 x0 x1 x2 x3 x4 x5
  obtain ⟨⟨x0, x1, x2, x3, x4, x5⟩, F8⟩ := LB _ B8
  simp only [gA] at x0 x1 x2 x3 x4 x5
  go_wp2_with fail
  refine (KO _).mono ?_
  rintro _ v9 ⟨rfl, b9⟩
  have B9 := B8.stepL b9 B8.size
  clear b9 B8 F8 x0 x1 x2 x3 x4 x5
  obtain ⟨⟨x0, x1, x2, x3, x4, x5⟩, F9⟩ := LB _ B9
  simp only [gA] at x0 x1 x2 x3 x4 x5
  go_wp2
  go_ret
  exact ⟨rfl, F9⟩
end Go.Proofs.Ythicjoicfckmpaa.Gf

