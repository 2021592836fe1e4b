/- TEXTS JOINED: LySl, LySm. -/
import Derived.Test.YtclieefpnbdbjaaGreatRome16
namespace Go.Proofs.YtclieefpnbdbjaaGreat.Gf
set_option linter.unusedVariables false
set_option linter.unusedSimpArgs false
open Go.RowKit
/-- three numbers, two numbers laid in a row -/
theorem beh3 {w : World} {a b c : Int} (e : Nat) (ha : 0 ≤ a ∧ a ≤ 1000000) (hb : 0 ≤ b ∧ b ≤ 1000000) (hc : 0 ≤ c ∧ c ≤ 1000000) {x : Int} (hx : a + b + c = x) : Calls Tryz.prog 107 #[.slice (some ⟨w.heap.size, 0, none⟩) 3 3] (w.alloc (.cells #[.int .i64 a, .int .i64 b, .int .i64 c] e)) fun e w' => e = .returned (.int .i64 x) ∧ Below w.heap.size w w' := by
  have cc : ∀ j, (w.alloc (.cells #[.int .i64 a, .int .i64 b, .int .i64 c] e)).cell? ⟨w.heap.size, j, none⟩ = (#[.int .i64 a, .int .i64 b, .int .i64 c] : Array Value)[j]? := fun j => World.cell?_alloc_new _ _ _ _
  refine (lbeh_any (x := x) (f := fun i => if i = 0 then a else if i = 1 then b else c) (by decide) ?_ ?_ ?_).mono ?_
  · intro i hi
    show 0 ≤ (if i = 0 then a else if i = 1 then b else c) ∧ (if i = 0 then a else if i = 1 then b else c) ≤ 1000000
    split
    · exact ha
    · split
      · exact hb
      · exact hc
  · intro i hi
    rw [cc]
    rcases i with _ | _ | _ | i
    · rfl
    · rfl
    · rfl
    · omega
  · rw [← hx]
    simp [sumZ]
  · rintro _ _ ⟨rfl, rfl⟩
    exact ⟨rfl, belL _ _⟩
theorem beh2 {w : World} {a b : Int} (e : Nat) (ha : 0 ≤ a ∧ a ≤ 1000000) (hb : 0 ≤ b ∧ b ≤ 1000000) {x : Int} (hx : a + b = x) : Calls Tryz.prog 107 #[.slice (some ⟨w.heap.size, 0, none⟩) 2 2] (w.alloc (.cells #[.int .i64 a, .int .i64 b] e)) fun e w' => e = .returned (.int .i64 x) ∧ Below w.heap.size w w' := by
  have cc : ∀ j, (w.alloc (.cells #[.int .i64 a, .int .i64 b] e)).cell? ⟨w.heap.size, j, none⟩ = (#[.int .i64 a, .int .i64 b] : Array Value)[j]? := fun j => World.cell?_alloc_new _ _ _ _
  refine (lbeh_any (x := x) (f := fun i => if i = 0 then a else b) (by decide) ?_ ?_ ?_).mono ?_
  · intro i hi
    show 0 ≤ (if i = 0 then a else b) ∧ (if i = 0 then a else b) ≤ 1000000
    split
    · exact ha
    · exact hb
  · intro i hi
    rw [cc]
    rcases i with _ | _ | i
    · rfl
    · rfl
    · omega
  · rw [← hx]
    simp [sumZ]
  · rintro _ _ ⟨rfl, rfl⟩
    exact ⟨rfl, belL _ _⟩
set_option maxRecDepth 100000 in
set_option maxHeartbeats 1000000 in
theorem lsec_any {w : World} {g : GeoS} (hg : g.Wf) {x : Int} (hx : secG g = x) : Calls Tryz.prog 54 #[aggG g] w fun e w' => e = .returned (.int .i64 x) ∧ Below w.heap.size w w' := by
  obtain ⟨k, m, z, s, t, o⟩ := g
  have LA := geo_laid w ⟨k, m, z, s, t, o⟩
  rw [aggE]
  have bk := bounds_i64 hg.k
  have bm := bounds_i64 hg.m
  simp only at bk bm
  have KC := fun W => @lcheck_any W ⟨k, m, z, s, t, o⟩ hg _ rfl
  rw [aggE] at KC
  by_cases h0 : okG ⟨k, m, z, s, t, o⟩
  · rw [show chG ⟨k, m, z, s, t, o⟩ = 0 from if_pos h0] at KC
    rw [show secG ⟨k, m, z, s, t, o⟩ = 5 + t + s from if_pos h0] at hx
    obtain ⟨o1, o2, o3, o4, o5, o6, o7, o8, o9, o10, o11⟩ := h0
    simp only at o1 o2 o3 o4 o5 o6 o7 o8 o9 o10 o11
    subst hx
    go_enter Tryz.func54, Tryz.ntmps54
    go_wp2_with fail
    refine (KC _).mono ?_
    rintro _ w1 ⟨rfl, B1⟩
    obtain ⟨⟨x0, x1, x2, x3, x4, x5⟩, F1⟩ := LA _ _ B1
    simp only at x0 x1 x2 x3 x4 x5
    clear B1 LA KC
    go_wp2_with fail
    refine (beh3 _ (by omega) (by omega) (by omega) rfl).mono ?_
    rintro _ w2 ⟨rfl, B2⟩
    have F2 := F1.stepL B2 F1.size
    clear B2 F1 x0 x1 x2 x3 x4 x5
    go_wp2
    go_ret
    exact ⟨rfl, F2⟩
  · rw [show chG ⟨k, m, z, s, t, o⟩ = 50 from if_neg h0] at KC
    rw [show secG ⟨k, m, z, s, t, o⟩ = 0 from if_neg h0] at hx
    subst hx
    go_enter Tryz.func54, Tryz.ntmps54
    go_wp2_with fail
    refine (KC _).mono ?_
    rintro _ w1 ⟨rfl, B1⟩
    obtain ⟨⟨x0, x1, x2, x3, x4, x5⟩, F1⟩ := LA _ _ B1
    simp only at x0 x1 x2 x3 x4 x5
    clear B1 LA KC
    go_wp2
    go_ret
    exact ⟨rfl, F1⟩
set_option maxRecDepth 100000 in
set_option maxHeartbeats 1000000 in
theorem lslot_any {w : World} {g : GeoS} (hg : g.Wf) {i : Int} (hi : (Lit.int .i64 i).wf = true) {x : Int} (hx : slG g i = x) : Calls Tryz.prog 70 #[aggG g, .int .i64 i] w fun e w' => e = .returned (.int .i64 x) ∧ Below w.heap.size w w' := by
  obtain ⟨k, m, z, s, t, o⟩ := g
  have LA := geo_laid w ⟨k, m, z, s, t, o⟩
  rw [aggE]
  have bk := bounds_i64 hg.k
  have bm := bounds_i64 hg.m
  simp only at bk bm
  have KC := fun W => @lcheck_any W ⟨k, m, z, s, t, o⟩ hg _ rfl
  rw [aggE] at KC
  have KI := fun W => @lis_any W i t _ rfl
  by_cases h0 : okG ⟨k, m, z, s, t, o⟩
  · rw [show chG ⟨k, m, z, s, t, o⟩ = 0 from if_pos h0] at KC
    by_cases h1 : 0 ≤ i ∧ i < t
    · rw [show slG ⟨k, m, z, s, t, o⟩ i = 5 + i from if_pos ⟨h0, h1⟩] at hx
      rw [decide_eq_true h1] at KI
      obtain ⟨o1, o2, o3, o4, o5, o6, o7, o8, o9, o10, o11⟩ := h0
      simp only at o1 o2 o3 o4 o5 o6 o7 o8 o9 o10 o11
      subst hx
      go_enter Tryz.func70, Tryz.ntmps70
      go_wp2_with fail
      refine (KC _).mono ?_
      rintro _ w1 ⟨rfl, B1⟩
      obtain ⟨⟨x0, x1, x2, x3, x4, x5⟩, F1⟩ := LA _ _ B1
      simp only at x0 x1 x2 x3 x4 x5
      clear B1 LA KC
      go_wp2_with fail
      refine (KI _).mono ?_
      rintro _ wq ⟨rfl, hwq⟩
      rw [hwq]
      clear hwq wq
      go_wp2_with fail
      refine (beh2 _ (by omega) (by omega) rfl).mono ?_
      rintro _ w2 ⟨rfl, B2⟩
      have F2 := F1.stepL B2 F1.size
      clear B2 F1 x0 x1 x2 x3 x4 x5
      go_wp2
      go_ret
      exact ⟨rfl, F2⟩
    · rw [show slG ⟨k, m, z, s, t, o⟩ i = 0 from if_neg (fun h => h1 h.2)] at hx
      rw [decide_eq_false h1] at KI
      subst hx
      go_enter Tryz.func70, Tryz.ntmps70
      go_wp2_with fail
      refine (KC _).mono ?_
      rintro _ w1 ⟨rfl, B1⟩
      obtain ⟨⟨x0, x1, x2, x3, x4, x5⟩, F1⟩ := LA _ _ B1
      simp only at x0 x1 x2 x3 x4 x5
      clear B1 LA KC
      go_wp2_with fail
      refine (KI _).mono ?_
      rintro _ wq ⟨rfl, hwq⟩
      rw [hwq]
      clear hwq wq
      go_wp2
      go_ret
      exact ⟨rfl, F1⟩
  · rw [show chG ⟨k, m, z, s, t, o⟩ = 50 from if_neg h0] at KC
    rw [show slG ⟨k, m, z, s, t, o⟩ i = 0 from if_neg (fun h => h0 h.1)] at hx
    subst hx
    go_enter Tryz.func70, Tryz.ntmps70
    go_wp2_with fail
    refine (KC _).mono ?_
    rintro _ w1 ⟨rfl, B1⟩
    obtain ⟨⟨x0, x1, x2, x3, x4, x5⟩, F1⟩ := LA _ _ B1
    simp only at x0 x1 x2 x3 x4 x5
    clear B1 LA KC
    go_wp2
    go_ret
    exact ⟨rfl, F1⟩
set_option maxRecDepth 100000 in
set_option maxHeartbeats 1000000 in
theorem larea_any {w : World} {g : GeoS} (hg : g.Wf) {a i : Int} (ha : (Lit.int .i64 a).wf = true) (hi : (Lit.int .i64 i).wf = true) {x : Int} (hx : arG g a i = x) : Calls Tryz.prog 78 #[aggG g, .int .i64 a, .int .i64 i] w fun e w' => e = .returned (.int .i64 x) ∧ Below w.heap.size w w' := by
  obtain ⟨k, m, z, s, t, o⟩ := g
  have LA := geo_laid w ⟨k, m, z, s, t, o⟩
  rw [aggE]
  have bk := bounds_i64 hg.k
  have bm := bounds_i64 hg.m
  simp only at bk bm
  have KC := fun W => @lcheck_any W ⟨k, m, z, s, t, o⟩ hg _ rfl
  rw [aggE] at KC
  have KA := fun W => @lis_any W a 2 _ rfl
  have KI := fun W => @lis_any W i 2 _ rfl
  by_cases h0 : okG ⟨k, m, z, s, t, o⟩
  · rw [show chG ⟨k, m, z, s, t, o⟩ = 0 from if_pos h0] at KC
    by_cases h1 : 0 ≤ a ∧ a < 2
    · rw [decide_eq_true h1] at KA
      by_cases h2 : 0 ≤ i ∧ i < 2
      · rw [show arG ⟨k, m, z, s, t, o⟩ a i = 1 + a * 2 + i from if_pos ⟨⟨h0, h1⟩, h2⟩] at hx
        rw [decide_eq_true h2] at KI
        have g1 : IntKind.i64.wrap (a * 2) = a * 2 := by rw [IntKind.wrap_i64]; omega
        subst hx
        go_enter Tryz.func78, Tryz.ntmps78
        go_wp2_with fail
        refine (KC _).mono ?_
        rintro _ w1 ⟨rfl, B1⟩
        obtain ⟨⟨x0, x1, x2, x3, x4, x5⟩, F1⟩ := LA _ _ B1
        simp only at x0 x1 x2 x3 x4 x5
        clear B1 LA KC
        go_wp2_with fail
        refine (KA _).mono ?_
        rintro _ wq ⟨rfl, hwq⟩
        rw [hwq]
        clear hwq wq
        go_wp2_with fail
        refine (KI _).mono ?_
        rintro _ wq ⟨rfl, hwq⟩
        rw [hwq]
        clear hwq wq
        go_wp2_with fail
        refine (beh3 _ (by omega) (by omega) (by omega) rfl).mono ?_
        rintro _ w2 ⟨rfl, B2⟩
        have F2 := F1.stepL B2 F1.size
        clear B2 F1 x0 x1 x2 x3 x4 x5
        go_wp2
        go_ret
        exact ⟨rfl, F2⟩
      · rw [show arG ⟨k, m, z, s, t, o⟩ a i = 0 from if_neg (fun h => h2 h.2)] at hx
        rw [decide_eq_false h2] at KI
        subst hx
        go_enter Tryz.func78, Tryz.ntmps78
        go_wp2_with fail
        refine (KC _).mono ?_
        rintro _ w1 ⟨rfl, B1⟩
        obtain ⟨⟨x0, x1, x2, x3, x4, x5⟩, F1⟩ := LA _ _ B1
        simp only at x0 x1 x2 x3 x4 x5
        clear B1 LA KC
        go_wp2_with fail
        refine (KA _).mono ?_
        rintro _ wq ⟨rfl, hwq⟩
        rw [hwq]
        clear hwq wq
        go_wp2_with fail
        refine (KI _).mono ?_
        rintro _ wq ⟨rfl, hwq⟩
        rw [hwq]
        clear hwq wq
        go_wp2
        go_ret
        exact ⟨rfl, F1⟩
    · rw [show arG ⟨k, m, z, s, t, o⟩ a i = 0 from if_neg (fun h => h1 h.1.2)] at hx
      rw [decide_eq_false h1] at KA
      subst hx
      go_enter Tryz.func78, Tryz.ntmps78
      go_wp2_with fail
      refine (KC _).mono ?_
      rintro _ w1 ⟨rfl, B1⟩
      obtain ⟨⟨x0, x1, x2, x3, x4, x5⟩, F1⟩ := LA _ _ B1
      simp only at x0 x1 x2 x3 x4 x5
      clear B1 LA KC
      go_wp2_with fail
      refine (KA _).mono ?_
      rintro _ wq ⟨rfl, hwq⟩
      rw [hwq]
      clear hwq wq
      go_wp2
      go_ret
      exact ⟨rfl, F1⟩
  · rw [show chG ⟨k, m, z, s, t, o⟩ = 50 from if_neg h0] at KC
    rw [show arG ⟨k, m, z, s, t, o⟩ a i = 0 from if_neg (fun h => h0 h.1.1)] at hx
    subst hx
    go_enter Tryz.func78, Tryz.ntmps78
    go_wp2_with fail
    refine (KC _).mono ?_
    rintro _ w1 ⟨rfl, B1⟩
    obtain ⟨⟨x0, x1, x2, x3, x4, x5⟩, F1⟩ := LA _ _ B1
    simp only at x0 x1 x2 x3 x4 x5
    clear B1 LA KC
    go_wp2
    go_ret
    exact ⟨rfl, F1⟩
end Go.Proofs.YtclieefpnbdbjaaGreat.Gf

namespace Go.Proofs.YtclieefpnbdbjaaGreat.Gf
set_option linter.unusedVariables false
set_option linter.unusedSimpArgs false
open Go.RowKit
/-- at most seven disks, eight bytes a shard, twenty stripes, or none at all -/
def smG (g : GeoS) : Prop := ¬ okG g ∨ (g.k + g.m ≤ 7 ∧ g.z ≤ 8 ∧ g.s ≤ 20)
instance (g : GeoS) : Decidable (smG g) := inferInstanceAs (Decidable (_ ∨ _))
set_option maxRecDepth 100000 in
set_option maxHeartbeats 1000000 in
theorem small15_any {w : World} {g : GeoS} (hg : g.Wf) {x : Bool} (hx : decide (smG g) = x) : Calls Tryz.prog 8 #[aggG g] w fun e w' => e = .returned (.bool x) ∧ Below w.heap.size w w' := by
  have KC := fun W => @lcheck_any W g hg _ rfl
  by_cases ok : okG g
  rotate_left
  · rw [show chG g = 50 from if_neg ok] at KC
    rw [decide_eq_true (p := smG g) (Or.inl ok)] at hx
    subst hx
    clear ok
    obtain ⟨k, m, z, s, t, o⟩ := g
    have LA := geo_laid w ⟨k, m, z, s, t, o⟩
    rw [aggE] at KC ⊢
    go_enter Tryz.func8, Tryz.ntmps8
    go_wp2_with fail
    refine (KC _).mono ?_
    rintro _ w1 ⟨rfl, B1⟩
    obtain ⟨⟨x0, x1, x2, x3, x4, x5⟩, F1⟩ := LA _ _ B1
    simp only at x0 x1 x2 x3 x4 x5
    clear B1 LA KC
    go_wp2
    go_ret
    exact ⟨rfl, F1⟩
  rw [show chG g = 0 from if_pos ok] at KC
  have bs : 0 ≤ g.k + g.m ∧ g.k + g.m ≤ 32 := ⟨by have := ok.1; have := ok.2.1; omega, ok.2.2.1⟩
  obtain ⟨k, m, z, s, t, o⟩ := g
  simp only at bs
  obtain ⟨n, hn⟩ : ∃ n, Hid (n = k + m) := ⟨_, rfl⟩
  rw [← hn.out] at bs
  have gw : IntKind.i64.wrap (k + m) = n := by rw [← hn.out, IntKind.wrap_i64]; omega
  have LA := geo_laid w ⟨k, m, z, s, t, o⟩
  rw [aggE] at KC ⊢
  have e : decide (smG ⟨k, m, z, s, t, o⟩) = decide (n ≤ 7 ∧ z ≤ 8 ∧ s ≤ 20) := by
    refine decide_eq_decide.2 ⟨fun q => ?_, fun q => Or.inr ?_⟩
    · have := q.resolve_left (fun q => q ok)
      rw [hn.out]; exact this
    · rw [hn.out] at q; exact q
  rw [e] at hx
  clear e ok
  by_cases h1 : n ≤ 7
  · by_cases h2 : z ≤ 8
    · by_cases h3 : s ≤ 20
      · rw [decide_eq_true ⟨h1, h2, h3⟩] at hx
        subst hx
        go_enter Tryz.func8, Tryz.ntmps8
        go_wp2_with fail
        refine (KC _).mono ?_
        rintro _ w1 ⟨rfl, B1⟩
        obtain ⟨⟨x0, x1, x2, x3, x4, x5⟩, F1⟩ := LA _ _ B1
        simp only at x0 x1 x2 x3 x4 x5
        clear B1 LA KC
        go_wp2
        go_ret
        exact ⟨rfl, F1⟩
      · rw [decide_eq_false (fun q => h3 q.2.2)] at hx
        subst hx
        have d3 : decide (s ≤ 20) = false := decide_eq_false h3
        go_enter Tryz.func8, Tryz.ntmps8
        go_wp2_with fail
        refine (KC _).mono ?_
        rintro _ w1 ⟨rfl, B1⟩
        obtain ⟨⟨x0, x1, x2, x3, x4, x5⟩, F1⟩ := LA _ _ B1
        simp only at x0 x1 x2 x3 x4 x5
        clear B1 LA KC
        go_wp2
        go_ret
        exact ⟨rfl, F1⟩
    · rw [decide_eq_false (fun q => h2 q.2.1)] at hx
      subst hx
      have d2 : decide (z ≤ 8) = false := decide_eq_false h2
      go_enter Tryz.func8, Tryz.ntmps8
      go_wp2_with fail
      refine (KC _).mono ?_
      rintro _ w1 ⟨rfl, B1⟩
      obtain ⟨⟨x0, x1, x2, x3, x4, x5⟩, F1⟩ := LA _ _ B1
      simp only at x0 x1 x2 x3 x4 x5
      clear B1 LA KC
      go_wp2
      go_ret
      exact ⟨rfl, F1⟩
  · rw [decide_eq_false (fun q => h1 q.1)] at hx
    subst hx
    have d1 : decide (n ≤ 7) = false := decide_eq_false h1
    go_enter Tryz.func8, Tryz.ntmps8
    go_wp2_with fail
    refine (KC _).mono ?_
    rintro _ w1 ⟨rfl, B1⟩
    obtain ⟨⟨x0, x1, x2, x3, x4, x5⟩, F1⟩ := LA _ _ B1
    simp only at x0 x1 x2 x3 x4 x5
    clear B1 LA KC
    go_wp2
    go_ret
    exact ⟨rfl, F1⟩
end Go.Proofs.YtclieefpnbdbjaaGreat.Gf
