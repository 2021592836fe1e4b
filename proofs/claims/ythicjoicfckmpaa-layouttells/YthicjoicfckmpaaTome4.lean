/- TEXTS JOINED: LyRef, LyRefD, LyRefS. -/
import Derived.Test.YthicjoicfckmpaaTome1
import Derived.Test.YthicjoicfckmpaaTome2
/-
  THE DOCUMENT's LAYOUT BY CONTRACT (package aumbryref14): Check, may, Sectors, Area, Slot, Stripe, Disk, Shard, Needs.
-/

namespace Go.Proofs.Ythicjoicfckmpaa.Gf
set_option linter.unusedVariables false
set_option linter.unusedSimpArgs false
open Go.RowKit
theorem rchk_any {w : World} {k m : Int} {x : Int} (hx : (if okK k m then 0 else 50) = x) : Calls Try.prog 29 #[.int .i64 k, .int .i64 m] w fun e w' => e = .returned (.int .i64 x) ∧ w' = w := by
  by_cases h0 : k < 1
  · rw [if_neg (by unfold okK; omega)] at hx
    subst hx
    go_enter Try.func29, Try.ntmps29
    go_wp2
    go_ret
    exact ⟨rfl, rfl⟩
  by_cases h1 : k > 256
  · rw [if_neg (by unfold okK; omega)] at hx
    subst hx
    go_enter Try.func29, Try.ntmps29
    go_wp2
    go_ret
    exact ⟨rfl, rfl⟩
  by_cases h2 : m < 0
  · rw [if_neg (by unfold okK; omega)] at hx
    subst hx
    go_enter Try.func29, Try.ntmps29
    go_wp2
    go_ret
    exact ⟨rfl, rfl⟩
  by_cases h3 : m > 256
  · rw [if_neg (by unfold okK; omega)] at hx
    subst hx
    go_enter Try.func29, Try.ntmps29
    go_wp2
    go_ret
    exact ⟨rfl, rfl⟩
  have gw : IntKind.i64.wrap (k + m) = k + m := by rw [IntKind.wrap_i64]; omega
  by_cases h4 : k + m > 256
  · rw [if_neg (by unfold okK; omega)] at hx
    subst hx
    go_enter Try.func29, Try.ntmps29
    go_wp2
    go_ret
    exact ⟨rfl, rfl⟩
  · rw [if_pos (by unfold okK; omega)] at hx
    subst hx
    go_enter Try.func29, Try.ntmps29
    go_wp2
    go_ret
    exact ⟨rfl, rfl⟩
set_option maxRecDepth 100000 in
set_option maxHeartbeats 4000000 in
theorem rcheckL_any {w : World} {g : GeoS} (hg : g.Wf) {x : Int} (hx : chG g = x) : Calls Try.prog 11 #[aggG g] w fun e w' => e = .returned (.int .i64 x) ∧ Below w.heap.size w w' := by
  obtain ⟨k, m, z, s, t, o⟩ := g
  have K := fun W => @rchk_any W k m _ rfl
  rw [show aggG ⟨k, m, z, s, t, o⟩ = .agg #[.int .i64 k, .int .i64 m, .int .i64 z, .int .i64 s, .int .i64 t, .int .i64 o] from rfl]
  have FB := fun o => belL w o
  by_cases hk : okK k m
  rotate_left
  · rw [show chG ⟨k, m, z, s, t, o⟩ = 50 from if_neg (by unfold okG; unfold okK at hk; simp only; omega)] at hx
    subst hx
    rw [if_neg hk] at K
    go_enter Try.func11, Try.ntmps11
    go_wp2_with fail
    refine (K _).mono ?_
    rintro _ wq ⟨rfl, hwq⟩
    rw [hwq]
    clear hwq wq K
    go_wp2
    go_ret
    exact ⟨rfl, FB _⟩
  rw [if_pos hk] at K
  have gw : IntKind.i64.wrap (k + m) = k + m := by unfold okK at hk; rw [IntKind.wrap_i64]; omega
  by_cases h0 : k + m > 32
  · rw [show chG ⟨k, m, z, s, t, o⟩ = 50 from if_neg (by unfold okG; simp only; omega)] at hx
    subst hx
    go_enter Try.func11, Try.ntmps11
    go_wp2_with fail
    refine (K _).mono ?_
    rintro _ wq ⟨rfl, hwq⟩
    rw [hwq]
    clear hwq wq K
    go_wp2
    go_ret
    exact ⟨rfl, FB _⟩
  by_cases h1 : z < 1
  · rw [show chG ⟨k, m, z, s, t, o⟩ = 50 from if_neg (by unfold okG; simp only; omega)] at hx
    subst hx
    go_enter Try.func11, Try.ntmps11
    go_wp2_with fail
    refine (K _).mono ?_
    rintro _ wq ⟨rfl, hwq⟩
    rw [hwq]
    clear hwq wq K
    go_wp2
    go_ret
    exact ⟨rfl, FB _⟩
  by_cases h2 : z > 4096
  · rw [show chG ⟨k, m, z, s, t, o⟩ = 50 from if_neg (by unfold okG; simp only; omega)] at hx
    subst hx
    go_enter Try.func11, Try.ntmps11
    go_wp2_with fail
    refine (K _).mono ?_
    rintro _ wq ⟨rfl, hwq⟩
    rw [hwq]
    clear hwq wq K
    go_wp2
    go_ret
    exact ⟨rfl, FB _⟩
  by_cases h3 : s < 1
  · rw [show chG ⟨k, m, z, s, t, o⟩ = 50 from if_neg (by unfold okG; simp only; omega)] at hx
    subst hx
    go_enter Try.func11, Try.ntmps11
    go_wp2_with fail
    refine (K _).mono ?_
    rintro _ wq ⟨rfl, hwq⟩
    rw [hwq]
    clear hwq wq K
    go_wp2
    go_ret
    exact ⟨rfl, FB _⟩
  by_cases h4 : s > 256
  · rw [show chG ⟨k, m, z, s, t, o⟩ = 50 from if_neg (by unfold okG; simp only; omega)] at hx
    subst hx
    go_enter Try.func11, Try.ntmps11
    go_wp2_with fail
    refine (K _).mono ?_
    rintro _ wq ⟨rfl, hwq⟩
    rw [hwq]
    clear hwq wq K
    go_wp2
    go_ret
    exact ⟨rfl, FB _⟩
  by_cases h5 : t < 1
  · rw [show chG ⟨k, m, z, s, t, o⟩ = 50 from if_neg (by unfold okG; simp only; omega)] at hx
    subst hx
    go_enter Try.func11, Try.ntmps11
    go_wp2_with fail
    refine (K _).mono ?_
    rintro _ wq ⟨rfl, hwq⟩
    rw [hwq]
    clear hwq wq K
    go_wp2
    go_ret
    exact ⟨rfl, FB _⟩
  by_cases h6 : t > 64
  · rw [show chG ⟨k, m, z, s, t, o⟩ = 50 from if_neg (by unfold okG; simp only; omega)] at hx
    subst hx
    go_enter Try.func11, Try.ntmps11
    go_wp2_with fail
    refine (K _).mono ?_
    rintro _ wq ⟨rfl, hwq⟩
    rw [hwq]
    clear hwq wq K
    go_wp2
    go_ret
    exact ⟨rfl, FB _⟩
  by_cases h7 : o < 1
  · rw [show chG ⟨k, m, z, s, t, o⟩ = 50 from if_neg (by unfold okG; simp only; omega)] at hx
    subst hx
    go_enter Try.func11, Try.ntmps11
    go_wp2_with fail
    refine (K _).mono ?_
    rintro _ wq ⟨rfl, hwq⟩
    rw [hwq]
    clear hwq wq K
    go_wp2
    go_ret
    exact ⟨rfl, FB _⟩
  by_cases h8 : o > 64
  · rw [show chG ⟨k, m, z, s, t, o⟩ = 50 from if_neg (by unfold okG; simp only; omega)] at hx
    subst hx
    go_enter Try.func11, Try.ntmps11
    go_wp2_with fail
    refine (K _).mono ?_
    rintro _ wq ⟨rfl, hwq⟩
    rw [hwq]
    clear hwq wq K
    go_wp2
    go_ret
    exact ⟨rfl, FB _⟩
  rw [show chG ⟨k, m, z, s, t, o⟩ = 0 from if_pos (by unfold okG; unfold okK at hk; simp only; omega)] at hx
  subst hx
  go_enter Try.func11, Try.ntmps11
  go_wp2_with fail
  refine (K _).mono ?_
  rintro _ wq ⟨rfl, hwq⟩
  rw [hwq]
  clear hwq wq K
  go_wp2
  go_ret
  exact ⟨rfl, FB _⟩
set_option maxRecDepth 100000 in
set_option maxHeartbeats 1000000 in
theorem rmay_any {w : World} {g : GeoS} (hg : g.Wf) {i n : Int} {x : Bool} (hx : decide (mayG g i n) = x) : Calls Try.prog 32 #[aggG g, .int .i64 i, .int .i64 n] w fun e w' => e = .returned (.bool x) ∧ Below w.heap.size w w' := by
  obtain ⟨k, m, z, s, t, o⟩ := g
  have LA := geo_laid w ⟨k, m, z, s, t, o⟩
  rw [show aggG ⟨k, m, z, s, t, o⟩ = .agg #[.int .i64 k, .int .i64 m, .int .i64 z, .int .i64 s, .int .i64 t, .int .i64 o] from rfl]
  have bk := bounds_i64 hg.k
  have bm := bounds_i64 hg.m
  simp only at bk bm
  have KC := fun W => @rcheckL_any W ⟨k, m, z, s, t, o⟩ hg _ rfl
  rw [show aggG ⟨k, m, z, s, t, o⟩ = .agg #[.int .i64 k, .int .i64 m, .int .i64 z, .int .i64 s, .int .i64 t, .int .i64 o] from rfl] at KC
  by_cases h0 : okG ⟨k, m, z, s, t, o⟩
  · rw [show chG ⟨k, m, z, s, t, o⟩ = 0 from if_pos h0] at KC
    by_cases h1 : i ≥ 0
    · by_cases h2 : i < n
      · rw [decide_eq_true ⟨h0, h1, h2⟩] at hx
        subst hx
        go_enter Try.func32, Try.ntmps32
        go_wp2_with fail
        refine (KC _).mono ?_
        rintro _ w1 ⟨rfl, B1⟩
        obtain ⟨_, F1⟩ := LA _ _ B1
        clear B1 LA KC
        go_wp2
        go_ret
        exact ⟨rfl, F1⟩
      · have q2 : decide (i < n) = false := decide_eq_false h2
        rw [decide_eq_false (fun h => h2 h.2.2)] at hx
        subst hx
        go_enter Try.func32, Try.ntmps32
        go_wp2_with fail
        refine (KC _).mono ?_
        rintro _ w1 ⟨rfl, B1⟩
        obtain ⟨_, F1⟩ := LA _ _ B1
        clear B1 LA KC
        go_wp2
        go_ret
        exact ⟨rfl, F1⟩
    · rw [decide_eq_false (fun h => h1 h.2.1)] at hx
      subst hx
      go_enter Try.func32, Try.ntmps32
      go_wp2_with fail
      refine (KC _).mono ?_
      rintro _ w1 ⟨rfl, B1⟩
      obtain ⟨_, F1⟩ := LA _ _ B1
      clear B1 LA KC
      go_wp2
      go_ret
      exact ⟨rfl, F1⟩
  · rw [show chG ⟨k, m, z, s, t, o⟩ = 50 from if_neg h0] at KC
    rw [decide_eq_false (fun h => h0 h.1)] at hx
    subst hx
    go_enter Try.func32, Try.ntmps32
    go_wp2_with fail
    refine (KC _).mono ?_
    rintro _ w1 ⟨rfl, B1⟩
    obtain ⟨_, F1⟩ := LA _ _ B1
    clear B1 LA KC
    go_wp2
    go_ret
    exact ⟨rfl, F1⟩
set_option maxRecDepth 100000 in
set_option maxHeartbeats 1000000 in
theorem rsec_any {w : World} {g : GeoS} (hg : g.Wf) {x : Int} (hx : secG g = x) : Calls Try.prog 13 #[aggG g] w fun e w' => e = .returned (.int .i64 x) ∧ Below w.heap.size w w' := by
  obtain ⟨k, m, z, s, t, o⟩ := g
  have LA := geo_laid w ⟨k, m, z, s, t, o⟩
  rw [show aggG ⟨k, m, z, s, t, o⟩ = .agg #[.int .i64 k, .int .i64 m, .int .i64 z, .int .i64 s, .int .i64 t, .int .i64 o] from rfl]
  have bk := bounds_i64 hg.k
  have bm := bounds_i64 hg.m
  simp only at bk bm
  have KC := fun W => @rcheckL_any W ⟨k, m, z, s, t, o⟩ hg _ rfl
  rw [show aggG ⟨k, m, z, s, t, o⟩ = .agg #[.int .i64 k, .int .i64 m, .int .i64 z, .int .i64 s, .int .i64 t, .int .i64 o] from rfl] at KC
  by_cases h0 : okG ⟨k, m, z, s, t, o⟩
  · rw [show chG ⟨k, m, z, s, t, o⟩ = 0 from if_pos h0] at KC
    rw [show secG ⟨k, m, z, s, t, o⟩ = 5 + t + s from if_pos h0] at hx
    obtain ⟨o1, o2, o3, o4, o5, o6, o7, o8, o9, o10, o11⟩ := h0
    simp only at o1 o2 o3 o4 o5 o6 o7 o8 o9 o10 o11
    have g1 : IntKind.i64.wrap (5 + t) = 5 + t := by rw [IntKind.wrap_i64]; omega
    have g2 : IntKind.i64.wrap (5 + t + s) = 5 + t + s := by rw [IntKind.wrap_i64]; omega
    subst hx
    go_enter Try.func13, Try.ntmps13
    go_wp2_with fail
    refine (KC _).mono ?_
    rintro _ w1 ⟨rfl, B1⟩
    obtain ⟨⟨x0, x1, x2, x3, x4, x5⟩, F1⟩ := LA _ _ B1
    simp only at x0 x1 x2 x3 x4 x5
    clear B1 LA KC
    go_wp2
    go_ret
    exact ⟨rfl, F1⟩
  · rw [show chG ⟨k, m, z, s, t, o⟩ = 50 from if_neg h0] at KC
    rw [show secG ⟨k, m, z, s, t, o⟩ = 0 from if_neg h0] at hx
    subst hx
    go_enter Try.func13, Try.ntmps13
    go_wp2_with fail
    refine (KC _).mono ?_
    rintro _ w1 ⟨rfl, B1⟩
    obtain ⟨⟨x0, x1, x2, x3, x4, x5⟩, F1⟩ := LA _ _ B1
    simp only at x0 x1 x2 x3 x4 x5
    clear B1 LA KC
    go_wp2
    go_ret
    exact ⟨rfl, F1⟩
set_option maxRecDepth 100000 in
set_option maxHeartbeats 1000000 in
theorem rslot_any {w : World} {g : GeoS} (hg : g.Wf) {i : Int} {x : Int} (hx : slG g i = x) : Calls Try.prog 17 #[aggG g, .int .i64 i] w fun e w' => e = .returned (.int .i64 x) ∧ Below w.heap.size w w' := by
  obtain ⟨k, m, z, s, t, o⟩ := g
  have LA := geo_laid w ⟨k, m, z, s, t, o⟩
  rw [show aggG ⟨k, m, z, s, t, o⟩ = .agg #[.int .i64 k, .int .i64 m, .int .i64 z, .int .i64 s, .int .i64 t, .int .i64 o] from rfl]
  have bk := bounds_i64 hg.k
  have bm := bounds_i64 hg.m
  simp only at bk bm
  have KM := fun W i n => @rmay_any W ⟨k, m, z, s, t, o⟩ hg i n _ rfl
  rw [show aggG ⟨k, m, z, s, t, o⟩ = .agg #[.int .i64 k, .int .i64 m, .int .i64 z, .int .i64 s, .int .i64 t, .int .i64 o] from rfl] at KM
  by_cases hm : mayG ⟨k, m, z, s, t, o⟩ i t
  · rw [show slG ⟨k, m, z, s, t, o⟩ i = 5 + i from if_pos hm] at hx
    have KM1 := fun W => KM W i t
    rw [decide_eq_true hm] at KM1
    obtain ⟨h0, h1, h2⟩ := hm
    obtain ⟨o1, o2, o3, o4, o5, o6, o7, o8, o9, o10, o11⟩ := h0
    simp only at o1 o2 o3 o4 o5 o6 o7 o8 o9 o10 o11
    have g1 : IntKind.i64.wrap (5 + i) = 5 + i := by rw [IntKind.wrap_i64]; omega
    subst hx
    clear KM
    go_enter Try.func17, Try.ntmps17
    go_wp2_with fail
    refine (KM1 _).mono ?_
    rintro _ w1 ⟨rfl, B1⟩
    obtain ⟨⟨x0, x1, x2, x3, x4, x5⟩, F1⟩ := LA _ _ B1
    simp only at x0 x1 x2 x3 x4 x5
    clear B1 LA KM1
    go_wp2
    go_ret
    exact ⟨rfl, F1⟩
  · rw [show slG ⟨k, m, z, s, t, o⟩ i = 0 from if_neg hm] at hx
    have KM1 := fun W => KM W i t
    rw [decide_eq_false hm] at KM1
    subst hx
    clear KM
    go_enter Try.func17, Try.ntmps17
    go_wp2_with fail
    refine (KM1 _).mono ?_
    rintro _ w1 ⟨rfl, B1⟩
    obtain ⟨⟨x0, x1, x2, x3, x4, x5⟩, F1⟩ := LA _ _ B1
    simp only at x0 x1 x2 x3 x4 x5
    clear B1 LA KM1
    go_wp2
    go_ret
    exact ⟨rfl, F1⟩
set_option maxRecDepth 100000 in
set_option maxHeartbeats 1000000 in
theorem rstripe_any {w : World} {g : GeoS} (hg : g.Wf) {i : Int} {x : Int} (hx : stG g i = x) : Calls Try.prog 19 #[aggG g, .int .i64 i] w fun e w' => e = .returned (.int .i64 x) ∧ Below w.heap.size w w' := by
  obtain ⟨k, m, z, s, t, o⟩ := g
  have LA := geo_laid w ⟨k, m, z, s, t, o⟩
  rw [show aggG ⟨k, m, z, s, t, o⟩ = .agg #[.int .i64 k, .int .i64 m, .int .i64 z, .int .i64 s, .int .i64 t, .int .i64 o] from rfl]
  have bk := bounds_i64 hg.k
  have bm := bounds_i64 hg.m
  simp only at bk bm
  have KM := fun W i n => @rmay_any W ⟨k, m, z, s, t, o⟩ hg i n _ rfl
  rw [show aggG ⟨k, m, z, s, t, o⟩ = .agg #[.int .i64 k, .int .i64 m, .int .i64 z, .int .i64 s, .int .i64 t, .int .i64 o] from rfl] at KM
  by_cases hm : mayG ⟨k, m, z, s, t, o⟩ i s
  · rw [show stG ⟨k, m, z, s, t, o⟩ i = 5 + t + i from if_pos hm] at hx
    have KM1 := fun W => KM W i s
    rw [decide_eq_true hm] at KM1
    obtain ⟨h0, h1, h2⟩ := hm
    obtain ⟨o1, o2, o3, o4, o5, o6, o7, o8, o9, o10, o11⟩ := h0
    simp only at o1 o2 o3 o4 o5 o6 o7 o8 o9 o10 o11
    have g1 : IntKind.i64.wrap (5 + t) = 5 + t := by rw [IntKind.wrap_i64]; omega
    have g2 : IntKind.i64.wrap (5 + t + i) = 5 + t + i := by rw [IntKind.wrap_i64]; omega
    subst hx
    clear KM
    go_enter Try.func19, Try.ntmps19
    go_wp2_with fail
    refine (KM1 _).mono ?_
    rintro _ w1 ⟨rfl, B1⟩
    obtain ⟨⟨x0, x1, x2, x3, x4, x5⟩, F1⟩ := LA _ _ B1
    simp only at x0 x1 x2 x3 x4 x5
    clear B1 LA KM1
    go_wp2
    go_ret
    exact ⟨rfl, F1⟩
  · rw [show stG ⟨k, m, z, s, t, o⟩ i = 0 from if_neg hm] at hx
    have KM1 := fun W => KM W i s
    rw [decide_eq_false hm] at KM1
    subst hx
    clear KM
    go_enter Try.func19, Try.ntmps19
    go_wp2_with fail
    refine (KM1 _).mono ?_
    rintro _ w1 ⟨rfl, B1⟩
    obtain ⟨⟨x0, x1, x2, x3, x4, x5⟩, F1⟩ := LA _ _ B1
    simp only at x0 x1 x2 x3 x4 x5
    clear B1 LA KM1
    go_wp2
    go_ret
    exact ⟨rfl, F1⟩
set_option maxRecDepth 100000 in
set_option maxHeartbeats 1000000 in
theorem rarea_any {w : World} {g : GeoS} (hg : g.Wf) {a i : Int} {x : Int} (hx : arG g a i = x) : Calls Try.prog 15 #[aggG g, .int .i64 a, .int .i64 i] w fun e w' => e = .returned (.int .i64 x) ∧ Below w.heap.size w w' := by
  obtain ⟨k, m, z, s, t, o⟩ := g
  have LA := geo_laid w ⟨k, m, z, s, t, o⟩
  rw [show aggG ⟨k, m, z, s, t, o⟩ = .agg #[.int .i64 k, .int .i64 m, .int .i64 z, .int .i64 s, .int .i64 t, .int .i64 o] from rfl]
  have bk := bounds_i64 hg.k
  have bm := bounds_i64 hg.m
  simp only at bk bm
  have KM := fun W i n => @rmay_any W ⟨k, m, z, s, t, o⟩ hg i n _ rfl
  rw [show aggG ⟨k, m, z, s, t, o⟩ = .agg #[.int .i64 k, .int .i64 m, .int .i64 z, .int .i64 s, .int .i64 t, .int .i64 o] from rfl] at KM
  have KA := fun W => KM W a 2
  have KI := fun W => KM W i 2
  clear KM
  by_cases hm : mayG ⟨k, m, z, s, t, o⟩ a 2
  · rw [decide_eq_true hm] at KA
    by_cases hi : mayG ⟨k, m, z, s, t, o⟩ i 2
    · rw [decide_eq_true hi] at KI
      rw [show arG ⟨k, m, z, s, t, o⟩ a i = 1 + a * 2 + i from if_pos ⟨hm, hi.2⟩] at hx
      have a1 := hm.2
      have i1 := hi.2
      have g1 : IntKind.i64.wrap (a * 2) = a * 2 := by rw [IntKind.wrap_i64]; omega
      have g2 : IntKind.i64.wrap (1 + a * 2) = 1 + a * 2 := by rw [IntKind.wrap_i64]; omega
      have g3 : IntKind.i64.wrap (1 + a * 2 + i) = 1 + a * 2 + i := by rw [IntKind.wrap_i64]; omega
      subst hx
      clear a1 i1
      go_enter Try.func15, Try.ntmps15
      go_wp2_with fail
      refine (KA _).mono ?_
      rintro _ w1 ⟨rfl, B1⟩
      obtain ⟨⟨x0, x1, x2, x3, x4, x5⟩, _⟩ := LA _ _ B1
      simp only at x0 x1 x2 x3 x4 x5
      go_wp2_with fail
      refine (KI _).mono ?_
      rintro _ w2 ⟨rfl, B2⟩
      have B2' := B1.stepL B2 B1.size
      obtain ⟨_, F2⟩ := LA _ _ B2'
      clear B1 B2 B2' LA KA KI
      go_wp2
      go_ret
      exact ⟨rfl, F2⟩
    · rw [decide_eq_false hi] at KI
      rw [show arG ⟨k, m, z, s, t, o⟩ a i = 0 from if_neg (fun h => hi ⟨h.1.1, h.2⟩)] at hx
      subst hx
      go_enter Try.func15, Try.ntmps15
      go_wp2_with fail
      refine (KA _).mono ?_
      rintro _ w1 ⟨rfl, B1⟩
      obtain ⟨⟨x0, x1, x2, x3, x4, x5⟩, _⟩ := LA _ _ B1
      simp only at x0 x1 x2 x3 x4 x5
      go_wp2_with fail
      refine (KI _).mono ?_
      rintro _ w2 ⟨rfl, B2⟩
      have B2' := B1.stepL B2 B1.size
      obtain ⟨_, F2⟩ := LA _ _ B2'
      clear B1 B2 B2' LA KA KI
      go_wp2
      go_ret
      exact ⟨rfl, F2⟩
  · rw [decide_eq_false hm] at KA
    rw [show arG ⟨k, m, z, s, t, o⟩ a i = 0 from if_neg (fun h => hm h.1)] at hx
    subst hx
    obtain ⟨q, hq⟩ : ∃ q, q = decide (mayG ⟨k, m, z, s, t, o⟩ i 2) := ⟨_, rfl⟩
    rw [← hq] at KI
    clear hq
    go_enter Try.func15, Try.ntmps15
    go_wp2_with fail
    refine (KA _).mono ?_
    rintro _ w1 ⟨rfl, B1⟩
    obtain ⟨⟨x0, x1, x2, x3, x4, x5⟩, _⟩ := LA _ _ B1
    simp only at x0 x1 x2 x3 x4 x5
    go_wp2_with fail
    refine (KI _).mono ?_
    rintro _ w2 ⟨rfl, B2⟩
    have B2' := B1.stepL B2 B1.size
    obtain ⟨_, F2⟩ := LA _ _ B2'
    clear B1 B2 B2' LA KA KI
    go_wp2
    go_ret
    exact ⟨rfl, F2⟩
end Go.Proofs.Ythicjoicfckmpaa.Gf

/-
  THE DOCUMENT's LAYOUT BY CONTRACT (package aumbryref14): Disk, Shard, Needs.
-/

namespace Go.Proofs.Ythicjoicfckmpaa.Gf
set_option linter.unusedVariables false
set_option linter.unusedSimpArgs false
open Go.RowKit
set_option maxRecDepth 100000 in
set_option maxHeartbeats 1000000 in
theorem rdisk_any {w : World} {g : GeoS} (hg : g.Wf) {st sh : Int} (hst : (Lit.int .i64 st).wf = true) (hsh : (Lit.int .i64 sh).wf = true) {x : Int} (hx : diG g st sh = x) : Calls Try.prog 21 #[aggG g, .int .i64 st, .int .i64 sh] w fun e w' => e = .returned (.int .i64 x) ∧ Below w.heap.size w w' := by
  obtain ⟨k, m, z, s, t, o⟩ := g
  have LA := geo_laid w ⟨k, m, z, s, t, o⟩
  rw [show aggG ⟨k, m, z, s, t, o⟩ = .agg #[.int .i64 k, .int .i64 m, .int .i64 z, .int .i64 s, .int .i64 t, .int .i64 o] from rfl]
  have bk := bounds_i64 hg.k
  have bm := bounds_i64 hg.m
  simp only at bk bm
  have KM := fun W i n => @rmay_any W ⟨k, m, z, s, t, o⟩ hg i n _ rfl
  rw [show aggG ⟨k, m, z, s, t, o⟩ = .agg #[.int .i64 k, .int .i64 m, .int .i64 z, .int .i64 s, .int .i64 t, .int .i64 o] from rfl] at KM
  have KM1 := fun W => KM W st s
  clear KM
  by_cases hm : mayG ⟨k, m, z, s, t, o⟩ st s
  · rw [decide_eq_true hm] at KM1
    have h0 := hm.1
    have h1 := hm.2.1
    have h2 := hm.2.2
    obtain ⟨o1, o2, o3, o4, o5, o6, o7, o8, o9, o10, o11⟩ := h0
    simp only at o1 o2 o3 o4 o5 o6 o7 o8 o9 o10 o11
    have gk : IntKind.i64.wrap (k + m) = k + m := by rw [IntKind.wrap_i64]; omega
    by_cases s1 : sh < 0
    · rw [show diG ⟨k, m, z, s, t, o⟩ st sh = 0 from if_neg (fun h => by have := h.2.1; omega)] at hx
      subst hx
      go_enter Try.func21, Try.ntmps21
      go_wp2_with fail
      refine (KM1 _).mono ?_
      rintro _ w1 ⟨rfl, B1⟩
      obtain ⟨⟨x0, x1, x2, x3, x4, x5⟩, F1⟩ := LA _ _ B1
      simp only at x0 x1 x2 x3 x4 x5
      clear B1 LA KM1
      go_wp2
      go_ret
      exact ⟨rfl, F1⟩
    by_cases s2 : sh ≥ k + m
    · rw [show diG ⟨k, m, z, s, t, o⟩ st sh = 0 from if_neg (fun h => by have h9 := h.2.2; simp only at h9; omega)] at hx
      subst hx
      go_enter Try.func21, Try.ntmps21
      go_wp2_with fail
      refine (KM1 _).mono ?_
      rintro _ w1 ⟨rfl, B1⟩
      obtain ⟨⟨x0, x1, x2, x3, x4, x5⟩, F1⟩ := LA _ _ B1
      simp only at x0 x1 x2 x3 x4 x5
      clear B1 LA KM1
      go_wp2
      go_ret
      exact ⟨rfl, F1⟩
    rw [show diG ⟨k, m, z, s, t, o⟩ st sh = (sh + st) % (k + m) from if_pos ⟨hm, by omega, by simp only; omega⟩] at hx
    have g2 : IntKind.i64.wrap (sh + st) = sh + st := by rw [IntKind.wrap_i64]; omega
    have nz : ¬ k + m = 0 := by omega
    have nz' : (k + m == 0) = false := beq_eq_false_iff_ne.2 nz
    have tm : (sh + st).tmod (k + m) = (sh + st) % (k + m) := Int.tmod_eq_emod_of_nonneg (by omega)
    have gm : IntKind.i64.wrap ((sh + st) % (k + m)) = (sh + st) % (k + m) := by
      have e1 := Int.emod_nonneg (sh + st) nz
      have e2 := Int.emod_lt_of_pos (sh + st) (show 0 < k + m by omega)
      rw [IntKind.wrap_i64]; omega
    subst hx
    go_enter Try.func21, Try.ntmps21
    go_wp2_with fail
    refine (KM1 _).mono ?_
    rintro _ w1 ⟨rfl, B1⟩
    obtain ⟨⟨x0, x1, x2, x3, x4, x5⟩, F1⟩ := LA _ _ B1
    simp only at x0 x1 x2 x3 x4 x5
    clear B1 LA KM1
    go_wp2
    go_ret
    exact ⟨rfl, F1⟩
  · rw [decide_eq_false hm] at KM1
    rw [show diG ⟨k, m, z, s, t, o⟩ st sh = 0 from if_neg (fun h => hm h.1)] at hx
    subst hx
    go_enter Try.func21, Try.ntmps21
    go_wp2_with fail
    refine (KM1 _).mono ?_
    rintro _ w1 ⟨rfl, B1⟩
    obtain ⟨⟨x0, x1, x2, x3, x4, x5⟩, F1⟩ := LA _ _ B1
    simp only at x0 x1 x2 x3 x4 x5
    clear B1 LA KM1
    go_wp2
    go_ret
    exact ⟨rfl, F1⟩
set_option maxRecDepth 100000 in
set_option maxHeartbeats 1000000 in
theorem rneeds_any {w : World} {g : GeoS} (hg : g.Wf) {b : Int} (hb : (Lit.int .i64 b).wf = true) {x : Int} (hx : neG g b = x) : Calls Try.prog 25 #[aggG g, .int .i64 b] w fun e w' => e = .returned (.int .i64 x) ∧ Below w.heap.size w w' := by
  obtain ⟨k, m, z, s, t, o⟩ := g
  have LA := geo_laid w ⟨k, m, z, s, t, o⟩
  rw [show aggG ⟨k, m, z, s, t, o⟩ = .agg #[.int .i64 k, .int .i64 m, .int .i64 z, .int .i64 s, .int .i64 t, .int .i64 o] from rfl]
  have bk := bounds_i64 hg.k
  have bm := bounds_i64 hg.m
  simp only at bk bm
  have KC := fun W => @rcheckL_any W ⟨k, m, z, s, t, o⟩ hg _ rfl
  rw [show aggG ⟨k, m, z, s, t, o⟩ = .agg #[.int .i64 k, .int .i64 m, .int .i64 z, .int .i64 s, .int .i64 t, .int .i64 o] from rfl] at KC
  have bb := bounds_i64 hb
  by_cases h0 : okG ⟨k, m, z, s, t, o⟩
  · rw [show chG ⟨k, m, z, s, t, o⟩ = 0 from if_pos h0] at KC
    have op := one_pos h0
    by_cases b1 : b < 1
    · rw [show neG ⟨k, m, z, s, t, o⟩ b = 0 from if_neg (fun h => by have := h.2; omega)] at hx
      subst hx
      go_enter Try.func25, Try.ntmps25
      go_wp2_with fail
      refine (KC _).mono ?_
      rintro _ w1 ⟨rfl, B1⟩
      obtain ⟨⟨x0, x1, x2, x3, x4, x5⟩, F1⟩ := LA _ _ B1
      simp only at x0 x1 x2 x3 x4 x5
      clear B1 LA KC
      go_wp2
      go_ret
      exact ⟨rfl, F1⟩
    rw [show neG ⟨k, m, z, s, t, o⟩ b = (b - 1) / (k * z) + 1 from if_pos ⟨h0, by omega⟩] at hx
    simp only at op
    obtain ⟨c, hc⟩ : ∃ c, Hid (c = k * z) := ⟨_, rfl⟩
    rw [← hc.out] at op hx
    have gk : IntKind.i64.wrap (k * z) = c := by rw [← hc.out, IntKind.wrap_i64]; omega
    have nz : ¬ c = 0 := by omega
    have nz' : (c == 0) = false := beq_eq_false_iff_ne.2 nz
    have td : b.tdiv c = b / c := Int.tdiv_eq_ediv_of_nonneg (by omega)
    have tm : b.tmod c = b % c := Int.tmod_eq_emod_of_nonneg (by omega)
    have e1 := Int.emod_add_mul_ediv b c
    have e2 := Int.emod_nonneg b nz
    have e3 := Int.emod_lt_of_pos b (show 0 < c by omega)
    have e4 := Int.ediv_nonneg (show 0 ≤ b by omega) (show 0 ≤ c by omega)
    have e5 : b / c ≤ b := Int.ediv_le_self _ (by omega)
    have gd : IntKind.i64.wrap (b / c) = b / c := by rw [IntKind.wrap_i64]; omega
    have gm : IntKind.i64.wrap (b % c) = b % c := by rw [IntKind.wrap_i64]; omega
    by_cases r1 : b % c > 0
    · have DU := div_up (show 0 < c by omega) r1
      have EQ : Hid ((b - 1) / c + 1 = b / c + 1) := DU.1
      have e6 := DU.2 (by omega)
      have g5 : IntKind.i64.wrap (b / c + 1) = b / c + 1 := by rw [IntKind.wrap_i64]; omega
      rw [EQ.out] at hx
      subst hx
      go_enter Try.func25, Try.ntmps25
      go_wp2_with fail
      refine (KC _).mono ?_
      rintro _ w1 ⟨rfl, B1⟩
      obtain ⟨⟨x0, x1, x2, x3, x4, x5⟩, F1⟩ := LA _ _ B1
      simp only at x0 x1 x2 x3 x4 x5
      clear B1 LA KC e1 e2 e3 e4 e5 DU e6
      go_wp2
      go_ret
      exact ⟨rfl, F1⟩
    · have EQ : Hid ((b - 1) / c + 1 = b / c) := div_even (show 0 < c by omega) r1
      rw [EQ.out] at hx
      subst hx
      go_enter Try.func25, Try.ntmps25
      go_wp2_with fail
      refine (KC _).mono ?_
      rintro _ w1 ⟨rfl, B1⟩
      obtain ⟨⟨x0, x1, x2, x3, x4, x5⟩, F1⟩ := LA _ _ B1
      simp only at x0 x1 x2 x3 x4 x5
      clear B1 LA KC e1 e2 e3 e4 e5
      go_wp2
      go_ret
      exact ⟨rfl, F1⟩
  · rw [show chG ⟨k, m, z, s, t, o⟩ = 50 from if_neg h0] at KC
    rw [show neG ⟨k, m, z, s, t, o⟩ b = 0 from if_neg (fun h => h0 h.1)] at hx
    subst hx
    go_enter Try.func25, Try.ntmps25
    go_wp2_with fail
    refine (KC _).mono ?_
    rintro _ w1 ⟨rfl, B1⟩
    obtain ⟨⟨x0, x1, x2, x3, x4, x5⟩, F1⟩ := LA _ _ B1
    simp only at x0 x1 x2 x3 x4 x5
    clear B1 LA KC
    go_wp2
    go_ret
    exact ⟨rfl, F1⟩
end Go.Proofs.Ythicjoicfckmpaa.Gf

/-
  THE DOCUMENT's LAYOUT BY CONTRACT (package aumbryref14): Shard.
-/

namespace Go.Proofs.Ythicjoicfckmpaa.Gf
set_option linter.unusedVariables false
set_option linter.unusedSimpArgs false
open Go.RowKit
set_option maxRecDepth 100000 in
set_option maxHeartbeats 1000000 in
theorem rshard_any {w : World} {g : GeoS} (hg : g.Wf) {st d : Int} (hst : (Lit.int .i64 st).wf = true) (hd : (Lit.int .i64 d).wf = true) {x : Int} (hx : shG g st d = x) : Calls Try.prog 23 #[aggG g, .int .i64 st, .int .i64 d] w fun e w' => e = .returned (.int .i64 x) ∧ Below w.heap.size w w' := by
  obtain ⟨k, m, z, s, t, o⟩ := g
  have LA := geo_laid w ⟨k, m, z, s, t, o⟩
  rw [show aggG ⟨k, m, z, s, t, o⟩ = .agg #[.int .i64 k, .int .i64 m, .int .i64 z, .int .i64 s, .int .i64 t, .int .i64 o] from rfl]
  have bk := bounds_i64 hg.k
  have bm := bounds_i64 hg.m
  simp only at bk bm
  have KM := fun W i n => @rmay_any W ⟨k, m, z, s, t, o⟩ hg i n _ rfl
  rw [show aggG ⟨k, m, z, s, t, o⟩ = .agg #[.int .i64 k, .int .i64 m, .int .i64 z, .int .i64 s, .int .i64 t, .int .i64 o] from rfl] at KM
  have KM1 := fun W => KM W st s
  clear KM
  by_cases hm : mayG ⟨k, m, z, s, t, o⟩ st s
  · rw [decide_eq_true hm] at KM1
    have h0 := hm.1
    have h1 := hm.2.1
    have h2 := hm.2.2
    have hok := hm.1
    obtain ⟨o1, o2, o3, o4, o5, o6, o7, o8, o9, o10, o11⟩ := h0
    simp only at o1 o2 o3 o4 o5 o6 o7 o8 o9 o10 o11
    have gk : IntKind.i64.wrap (k + m) = k + m := by rw [IntKind.wrap_i64]; omega
    have KD := fun W (i : Int) (hi : (Lit.int .i64 i).wf = true) => @rdisk_any W ⟨k, m, z, s, t, o⟩ hg st i hst hi _ rfl
    rw [show aggG ⟨k, m, z, s, t, o⟩ = .agg #[.int .i64 k, .int .i64 m, .int .i64 z, .int .i64 s, .int .i64 t, .int .i64 o] from rfl] at KD
    obtain ⟨n, hn⟩ : ∃ n : Nat, k + m = (n : Int) := ⟨(k + m).toNat, by omega⟩
    go_enter Try.func23, Try.ntmps23
    go_wp2_with fail
    refine (KM1 _).mono ?_
    rintro _ w1 ⟨rfl, B1⟩
    obtain ⟨W0, hW0⟩ : ∃ W0, Hid (W0 = w.alloc (.cells (cellsG ⟨k, m, z, s, t, o⟩) 24)) := ⟨_, rfl⟩
    have LB : Hid (∀ W, Below W0.heap.size W0 W → GeoAt W w.heap.size ⟨k, m, z, s, t, o⟩ ∧ Below w.heap.size w W) := fun W hW => LA 24 W (by rw [hW0.out] at hW; exact hW)
    have START : Hid (Below W0.heap.size W0 w1) := by rw [hW0.out]; exact B1
    have x03 := (LB.out _ START.out).1
    obtain ⟨x0, x1, x2, x3, x4, x5⟩ := x03
    simp only at x0 x1 x2 x3 x4 x5
    clear B1 LA KM1
    go_wp2
    go_loopw [8] (fun i wr => ∃ q : Nat, q ≤ n ∧ i = .int .i64 (q : Int) ∧ Below W0.heap.size W0 wr ∧ ∀ j : Nat, j < q → diG ⟨k, m, z, s, t, o⟩ st (j : Int) ≠ d) (fun i _ => n - (intOf i).toNat)
    case atStart => exact ⟨0, Nat.zero_le _, rfl, START.out, fun j hj => absurd hj (Nat.not_lt_zero _)⟩
    case round =>
      clear START x0 x1 x2 x3 x4 x5
      obtain ⟨q, hq, rfl, hB, hj⟩ := hrel
      obtain ⟨⟨x0, x1, x2, x3, x4, x5⟩, F0⟩ := LB.out _ hB
      simp only at x0 x1 x2 x3 x4 x5
      by_cases hlt : q < n
      · have hlt' : (q : Int) < k + m := by omega
        have g1 : IntKind.i64.wrap ((q : Int) + 1) = ((q + 1 : Nat) : Int) := by rw [IntKind.wrap_i64]; omega
        have wq : (Lit.int .i64 (q : Int)).wf = true := by simp [Lit.wf, IntKind.min, IntKind.max, IntKind.signed, IntKind.bits]; omega
        have KQ := KD wr (q : Int) wq
        obtain ⟨y, hy⟩ : ∃ y, Hid (y = diG ⟨k, m, z, s, t, o⟩ st (q : Int)) := ⟨_, rfl⟩
        rw [← hy.out] at KQ
        by_cases e : y = d
        · have EX : Hid ((q : Int) = x) := by
            show _ = _
            rw [← hx, ← e, hy.out]
            exact (sh_di hok h1 h2 (by omega) (by simp only; omega)).2.2.symm
          subst e
          clear hj
          go_wp2_with fail
          refine KQ.mono ?_
          rintro _ w5 ⟨rfl, B5⟩
          have F5 := F0.stepL B5 F0.size
          clear B5 hB KQ
          go_wp2
          go_ret
          exact ⟨by rw [← EX.out]; rfl, F5⟩
        · have ne : (y == d) = false := beq_eq_false_iff_ne.2 e
          have E2 : Hid (∀ j : Nat, j < q + 1 → diG ⟨k, m, z, s, t, o⟩ st (j : Int) ≠ d) := fun j hj2 => by
            by_cases e2 : j = q
            · rw [e2, ← hy.out]; exact e
            · exact hj j (by omega)
          clear hj
          go_wp2_with fail
          refine KQ.mono ?_
          rintro _ w5 ⟨rfl, B5⟩
          have H5 : Hid (Below W0.heap.size W0 w5) := hB.stepL B5 hB.size
          clear B5 hB KQ x0 x1 x2 x3 x4 x5
          go_wp2
          go_roundw
          case rel => exact ⟨q + 1, by omega, by go_num, H5.out, E2.out⟩
          case measure => simp [intOf]; omega
      · have hlt' : ¬ (q : Int) < k + m := by omega
        have EX : Hid (0 = x) := by
          show _ = _
          rw [← hx]
          by_cases hr : 0 ≤ d ∧ d < k + m
          · obtain ⟨a1, a2, a3⟩ := di_sh hok h1 h2 hr.1 (by simp only; exact hr.2)
            simp only at a2
            have h9 := hj (shG ⟨k, m, z, s, t, o⟩ st d).toNat (by omega)
            rw [show (((shG ⟨k, m, z, s, t, o⟩ st d).toNat : Nat) : Int) = shG ⟨k, m, z, s, t, o⟩ st d by omega] at h9
            exact absurd a3 h9
          · exact (if_neg (fun h => hr h.2)).symm
        clear hj hB
        go_wp2
        go_ret
        exact ⟨by rw [← EX.out]; rfl, F0⟩
  · rw [decide_eq_false hm] at KM1
    rw [show shG ⟨k, m, z, s, t, o⟩ st d = 0 from if_neg (fun h => hm h.1)] at hx
    subst hx
    go_enter Try.func23, Try.ntmps23
    go_wp2_with fail
    refine (KM1 _).mono ?_
    rintro _ w1 ⟨rfl, B1⟩
    obtain ⟨⟨x0, x1, x2, x3, x4, x5⟩, F1⟩ := LA _ _ B1
    simp only at x0 x1 x2 x3 x4 x5
    clear LA KM1 B1
    have F1' : Hid _ := F1
    go_wp2
    go_loopw [8] (fun i wr => i = .int .i64 0 ∧ wr = w1) (fun _ _ => 0)
    case atStart => exact ⟨rfl, rfl⟩
    case round =>
      obtain ⟨rfl, rfl⟩ := hrel
      go_wp2
      go_ret
      exact ⟨rfl, F1'.out⟩
end Go.Proofs.Ythicjoicfckmpaa.Gf

