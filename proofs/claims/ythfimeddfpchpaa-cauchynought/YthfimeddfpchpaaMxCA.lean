/-
  THE PROGRAM's 'isSide', 'noughts', 'row', 'Check' BY CONTRACT.
-/
import Derived.Test.YthfimeddfpchpaaMxOwn
namespace Go.Proofs.Ythfimeddfpchpaa.Gf
set_option linter.unusedVariables false
set_option linter.unusedSimpArgs false
open Go.RowKit

set_option maxRecDepth 100000 in
set_option maxHeartbeats 1000000 in
theorem side_ok {n : Int} (w : World) (h1 : 0 ≤ n) (h2 : n ≤ 256) : Calls Try.prog 40 #[.int .i64 n] w fun e w' => e = .returned (.bool true) ∧ w' = w := by
  have k1 : decide (n ≥ 0) = true := decide_eq_true h1
  have k2 : decide (n ≤ 256) = true := decide_eq_true h2
  go_enter Try.func40, Try.ntmps40
  go_wp2
  go_ret
  exact ⟨rfl, rfl⟩

set_option maxRecDepth 100000 in
set_option maxHeartbeats 1000000 in
theorem side_bad {n : Int} (w : World) (h : ¬ (0 ≤ n ∧ n ≤ 256)) : Calls Try.prog 40 #[.int .i64 n] w fun e w' => e = .returned (.bool false) ∧ w' = w := by
  by_cases h1 : 0 ≤ n
  · have k1 : decide (n ≥ 0) = true := decide_eq_true h1
    have k2 : decide (n ≤ 256) = false := decide_eq_false fun h2 => h ⟨h1, h2⟩
    clear h h1
    go_enter Try.func40, Try.ntmps40
    go_wp2
    go_ret
    exact ⟨rfl, rfl⟩
  · have k1 : decide (n ≥ 0) = false := decide_eq_false h1
    clear h h1
    go_enter Try.func40, Try.ntmps40
    go_wp2
    go_ret
    exact ⟨rfl, rfl⟩

theorem nought_facts {w w1 : World} {m u t : Nat} (hown : w1.ownsRow w.heap.size u 1 (.slice (some ⟨(w.alloc (Obj.cells #[.int .i64 0, .int .i64 0, .slice none 0 0] t)).heap.size, 0, none⟩) m m) m (madeCells (Value.cells (.int .u8 0)) (m * 1)).toList)
    (hgrow : (w.alloc (Obj.cells #[.int .i64 0, .int .i64 0, .slice none 0 0] t)).grownBy w1 none) :
    RowF w1 w.heap.size u (w.heap.size + 1) m m (fun _ => 0) ∧ Below w.heap.size w w1 ∧ w1.cell? ⟨w.heap.size, 0, none⟩ = some (.int .i64 0) ∧ w1.cell? ⟨w.heap.size, 1, none⟩ = some (.int .i64 0) ∧ w1.cell? ⟨w.heap.size, 2, none⟩ = some (.slice none 0 0) ∧
    w1.frozen? ⟨w.heap.size, 0, none⟩ = false ∧ w1.frozen? ⟨w.heap.size, 1, none⟩ = false ∧ w1.frozen? ⟨w.heap.size, 2, none⟩ = false := by
  simp only [World.size_alloc] at hown
  have R1 := RowF.made hown
  have B1 : Below (w.heap.size + 1) (w.alloc (Obj.cells #[.int .i64 0, .int .i64 0, .slice none 0 0] t)) w1 := (Below.refl _ _).grown hgrow (by simp) (fun k h => by cases h)
  have B0 : Below w.heap.size w w1 := (below_lit (Below.refl _ _) _).trans (B1.mono (by omega))
  have X0 : Box w1 w.heap.size 0 0 (.slice none 0 0) := Box.below (B := w.heap.size + 1) ⟨by simp, by simp, by simp⟩ (by omega) B1
  have F0 : Free w1 w.heap.size := Free.below (B := w.heap.size + 1) ⟨by simp, by simp, by simp⟩ (by omega) B1
  exact ⟨R1, B0, X0.c0, X0.c1, X0.c2, F0.f0, F0.f1, F0.f2⟩

set_option maxRecDepth 100000 in
set_option maxHeartbeats 1000000 in
theorem nought_any (r c : Nat) (w : World) (hr : r ≤ 256) (hc : c ≤ 512) {x y : Int} (hx : x = (r : Int)) (hy : y = (c : Int)) :
    Calls Try.prog 37 #[.int .i64 x, .int .i64 y] w fun e w' => ∃ g m, Hid (m = r * c) ∧ e = .returned (.agg #[.int .i64 (r : Int), .int .i64 (c : Int), .slice (some ⟨g, 0, none⟩) m m]) ∧ w.heap.size ≤ g ∧ RowF w' w.heap.size 5 g m m (fun _ => 0) ∧ Below w.heap.size w w' := by
  subst hx hy
  obtain ⟨i0, hi, hz0, hz1, hz2⟩ := info_parts info_u8
  have hmm : r * c ≤ 256 * 512 := Nat.mul_le_mul hr hc
  obtain ⟨m, hm⟩ : ∃ m, Hid (m = r * c) := ⟨_, rfl⟩
  rw [← hm.out] at hmm
  have g0 : (r : Int) * (c : Int) = (m : Int) := by rw [hm.out]; exact_mod_cast rfl
  go_enter Try.func37, Try.ntmps37
  go_wp2_with (at_make; go_loud (refine wpList_make_full _ rfl (.tmp 9) (.tmp 9) 28 rfl w.heap.size 5 i0 (.int .u8 0) 1 Try.underlying28 hi hz0 hz1 _ _ _ _ m rfl rfl (by omega) (by omega) (by rw [hz2]; omega) (by unfold maxLen; omega) (by simp) ?_); intro w1 hown1 hgrow1; obtain ⟨R1, B0, x0, x1, x2, z0, z1, z2⟩ := nought_facts hown1 hgrow1; clear hown1 hgrow1)
  have O1 : Only w.heap.size w1 (((w1.setCell ⟨w.heap.size, 0, none⟩ (.int .i64 (r : Int))).setCell ⟨w.heap.size, 1, none⟩ (.int .i64 (c : Int))).setCell ⟨w.heap.size, 2, none⟩ (.slice (some ⟨w.heap.size + 1, 0, none⟩) m m)) :=
    (((Only.refl _ _).setCell 0 _).setCell 1 _).setCell 2 _
  refine bodyPost_ret (v := .agg #[.int .i64 (r : Int), .int .i64 (c : Int), .slice (some ⟨w.heap.size + 1, 0, none⟩) m m]) (by simp [results, Try.results37, go_sem, x0, x1, x2, z0, z1, z2]) rfl ⟨w.heap.size + 1, m, hm, rfl, by omega, R1.only (by omega) O1, B0.trans (O1.below (Nat.le_refl _))⟩

set_option maxRecDepth 100000 in
set_option maxHeartbeats 1000000 in
theorem row_some {w : World} {b off n cap r c i : Nat} {x : Int} (hx : x = (i : Int)) (hi : i < r) (hc : 0 < c) (hn : n = r * c) (hnc : n ≤ cap) (hm : cap ≤ maxLen) (hr : r ≤ 256) (hc2 : c ≤ 512) :
    Calls Try.prog 38 #[.agg #[.int .i64 (r : Int), .int .i64 (c : Int), .slice (some ⟨b, off, none⟩) n cap], .int .i64 x] w fun e w' => e = .returned (.slice (some ⟨b, off + i * c, none⟩) c (cap - i * c)) ∧ Below w.heap.size w w' := by
  subst hx
  have p1 : i * c + c ≤ n := by rw [hn, ← Nat.succ_mul]; exact Nat.mul_le_mul_right c hi
  have p2 : i * c ≤ 256 * 512 := Nat.mul_le_mul (by omega) hc2
  obtain ⟨lo, hlo⟩ : ∃ lo, Hid (lo = i * c) := ⟨_, rfl⟩
  have g1 : (i : Int) * (c : Int) = (lo : Int) := by rw [hlo.out]; exact_mod_cast rfl
  have g2 : ((i : Int) + 1) * (c : Int) = (lo : Int) + (c : Int) := by rw [Int.add_mul, Int.one_mul, g1]
  rw [← hlo.out] at p1 p2 ⊢
  unfold maxLen at hm
  have w1 : IntKind.i64.wrap (lo : Int) = (lo : Int) := by rw [IntKind.wrap_i64]; omega
  have w2 : IntKind.i64.wrap ((lo : Int) + (c : Int)) = (lo : Int) + (c : Int) := by rw [IntKind.wrap_i64]; omega
  have hlt : lo < cap := by omega
  have hne : ¬ cap = lo := by omega
  clear hn
  go_enter Try.func38, Try.ntmps38
  go_wp2
  go_ret
  refine ⟨?_, below_lit (Below.refl _ _) _⟩
  show Ending.returned (.slice (some ⟨b, off + lo, none⟩) (lo + c - lo) (cap - lo)) = _
  rw [Nat.add_sub_cancel_left]

set_option maxRecDepth 100000 in
set_option maxHeartbeats 1000000 in
theorem row_none {w : World} {ao : Option Addr} {cap r i : Nat} {x : Int} (hx : x = (i : Int)) (hi : i < r) (hm : cap ≤ maxLen) (hr : r ≤ 256) (ha : ao = none → cap = 0) :
    Calls Try.prog 38 #[.agg #[.int .i64 (r : Int), .int .i64 0, .slice ao 0 cap], .int .i64 x] w fun e w' => e = .returned (.slice ao 0 cap) ∧ Below w.heap.size w w' := by
  subst hx
  unfold maxLen at hm
  rcases ao with _ | ⟨b, off, sp⟩
  · have := ha rfl
    subst this
    clear ha
    go_enter Try.func38, Try.ntmps38
    go_wp2
    go_ret
    exact ⟨rfl, below_lit (Below.refl _ _) _⟩
  · clear ha
    by_cases h0 : cap = 0
    · subst h0
      go_enter Try.func38, Try.ntmps38
      go_wp2
      go_ret
      exact ⟨rfl, below_lit (Below.refl _ _) _⟩
    · have h1 : 0 < cap := by omega
      go_enter Try.func38, Try.ntmps38
      go_wp2
      go_ret
      exact ⟨rfl, below_lit (Below.refl _ _) _⟩

/-- a row of a matrix of the call's own -/
theorem row_own {w : World} {g m r c i : Nat} {x : Int} (hx : x = (i : Int)) (hi : i < r) (hn : Hid (m = r * c)) (hr : r ≤ 256) (hc2 : c ≤ 512) :
    Calls Try.prog 38 #[.agg #[.int .i64 (r : Int), .int .i64 (c : Int), .slice (some ⟨g, 0, none⟩) m m], .int .i64 x] w fun e w' => e = .returned (.slice (some ⟨g, i * c, none⟩) c (m - i * c)) ∧ Below w.heap.size w w' := by
  have hmm : r * c ≤ 256 * 512 := Nat.mul_le_mul hr hc2
  have hm := hn.out
  by_cases h0 : c = 0
  · subst h0
    rw [Nat.mul_zero] at hm
    subst hm
    exact row_none hx hi (by unfold maxLen; omega) hr (fun h => by cases h)
  · refine (row_some (w := w) (b := g) (off := 0) (cap := m) hx hi (by omega) hm (Nat.le_refl _) (by unfold maxLen; omega) hr hc2).mono ?_
    rintro e w' ⟨rfl, hb⟩
    rw [Nat.zero_add]
    exact ⟨rfl, hb⟩
/-- .. of one that came in -/
theorem row_rd {w : World} {vs : Value} {r c i : Nat} {A : List UInt8} {x : Int} (hx : x = (i : Int)) (h : Rd w vs A) (hok : OkM r c A) (hi : i < r) :
    Calls Try.prog 38 #[.agg #[.int .i64 (r : Int), .int .i64 (c : Int), vs], .int .i64 x] w fun e w' => ∃ a cap, e = .returned (.slice a c cap) ∧ Rd w' (.slice a c cap) (upto (fun j => en c A i j) c) ∧ (∀ g, Apart g vs → Apart g (.slice a c cap)) ∧ Below w.heap.size w w' := by
  obtain ⟨_, h2, _, h4, h5⟩ := hok
  have hl : A.length = r * c := by exact_mod_cast h5
  have hL := h.len
  by_cases h0 : c = 0
  · subst h0
    rw [Nat.mul_zero] at hl
    rcases h with ⟨ao, cap, hA, rfl, hcap, hao⟩ | ⟨b, off, cap, hA, _⟩
    · refine (row_none hx hi hcap (by omega) hao).mono ?_
      rintro e w' ⟨rfl, hb⟩
      exact ⟨ao, cap, rfl, Or.inl ⟨ao, cap, rfl, rfl, hcap, hao⟩, fun g _ x n c' e => by simp at e; exact Or.inl e.2.1.symm, hb⟩
    · exact absurd (List.length_eq_zero_iff.1 hl) hA
  · have hp := place_lt (c := c) hi (show 0 < c by omega)
    have hp2 : i * c + c ≤ A.length := by rw [hl, ← Nat.succ_mul]; exact Nat.mul_le_mul_right c hi
    have h' := h
    rcases h with ⟨ao, cap, hA, rfl, hcap, hao⟩ | ⟨b, off, cap, hA, rfl, h6, h7, h8, h9⟩
    · subst hA; simp at hl; omega
    · refine (row_some (w := w) (b := b) (off := off) (cap := cap) hx hi (by omega) hl h6 h7 (by omega) (by omega)).mono ?_
      rintro e w' ⟨rfl, hb⟩
      refine ⟨_, _, rfl, (h'.sub (i * c) c (by omega) hp2).below hb, fun g hg x n c' e => ?_, hb⟩
      simp at e
      obtain ⟨rfl, rfl, _⟩ := e
      rcases hg _ _ _ rfl with e | e
      · exact absurd (List.length_eq_zero_iff.1 e) hA
      · exact Or.inr e

set_option maxRecDepth 100000 in
set_option maxHeartbeats 1000000 in
theorem mcheck_ok {v : Value} {r c : Int} {A : List UInt8} {w : World} (h : RdM w v r c A) (hok : OkM r c A) :
    Calls Try.prog 36 #[v] w fun e w' => e = .returned (.int .i64 0) ∧ Below w.heap.size w w' := by
  obtain ⟨vs, rfl, hr⟩ := h
  obtain ⟨a, cap, rfl⟩ := hr.form
  obtain ⟨h1, h2, h3, h4, h5⟩ := hok
  generalize A.length = n at *
  have gw : IntKind.i64.wrap (r * c) = (n : Int) := by
    rw [← h5, IntKind.wrap_i64]
    have : r * c ≤ 256 * 256 := Int.mul_le_mul h2 h4 h3 (by decide)
    omega
  clear hr h5
  go_enter Try.func36, Try.ntmps36
  go_wp2_with fail
  refine (side_ok _ h1 h2).mono ?_
  rintro e w2 ⟨rfl, rfl⟩
  go_wp2_with fail
  refine (side_ok _ h3 h4).mono ?_
  rintro e w2 ⟨rfl, rfl⟩
  go_wp2
  go_ret
  exact ⟨rfl, by repeat (first | exact Below.refl _ _ | apply below_lit)⟩

set_option maxRecDepth 100000 in
set_option maxHeartbeats 1000000 in
theorem mcheck_bad {v : Value} {r c : Int} {A : List UInt8} {w : World} (h : RdM w v r c A) (hok : ¬ OkM r c A) :
    Calls Try.prog 36 #[v] w fun e w' => e = .returned (.int .i64 30) ∧ Below w.heap.size w w' := by
  obtain ⟨vs, rfl, hr⟩ := h
  obtain ⟨a, cap, rfl⟩ := hr.form
  have hl := hr.len
  clear hr
  by_cases h1 : 0 ≤ r ∧ r ≤ 256
  · by_cases h2 : 0 ≤ c ∧ c ≤ 256
    · have h5 : ¬ (A.length : Int) = r * c := fun h5 => hok ⟨h1.1, h1.2, h2.1, h2.2, h5⟩
      clear hok
      generalize A.length = n at *
      obtain ⟨m, hm⟩ : ∃ m, m = r * c := ⟨_, rfl⟩
      have gw : IntKind.i64.wrap (r * c) = m := by
        rw [hm, IntKind.wrap_i64]
        have : r * c ≤ 256 * 256 := Int.mul_le_mul (by omega) (by omega) (by omega) (by decide)
        have : 0 ≤ r * c := Int.mul_nonneg (by omega) (by omega)
        omega
      rw [← hm] at h5
      clear hm
      have k5 : ((n : Int) != m) = true := by simpa using h5
      go_enter Try.func36, Try.ntmps36
      go_wp2_with fail
      refine (side_ok _ h1.1 h1.2).mono ?_
      rintro e w2 ⟨rfl, rfl⟩
      go_wp2_with fail
      refine (side_ok _ h2.1 h2.2).mono ?_
      rintro e w2 ⟨rfl, rfl⟩
      go_wp2
      go_ret
      exact ⟨rfl, by repeat (first | exact Below.refl _ _ | apply below_lit)⟩
    · clear hok
      go_enter Try.func36, Try.ntmps36
      go_wp2_with fail
      refine (side_ok _ h1.1 h1.2).mono ?_
      rintro e w2 ⟨rfl, rfl⟩
      go_wp2_with fail
      refine (side_bad _ h2).mono ?_
      rintro e w2 ⟨rfl, rfl⟩
      go_wp2
      go_ret
      exact ⟨rfl, by repeat (first | exact Below.refl _ _ | apply below_lit)⟩
  · clear hok
    go_enter Try.func36, Try.ntmps36
    go_wp2_with fail
    refine (side_bad _ h1).mono ?_
    rintro e w2 ⟨rfl, rfl⟩
    go_wp2
    go_ret
    exact ⟨rfl, by repeat (first | exact Below.refl _ _ | apply below_lit)⟩

end Go.Proofs.Ythfimeddfpchpaa.Gf
