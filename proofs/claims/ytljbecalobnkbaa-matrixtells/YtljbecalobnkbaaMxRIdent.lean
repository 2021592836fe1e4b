/-
  THE DOCUMENT's ANSWER FOR LAYER 3 (package aumbryref03) BY CONTRACT: 'Identity'.
-/
import Derived.Test.YtljbecalobnkbaaMxRd
import Derived.Test.YtljbecalobnkbaaPoInfo
namespace Go.Proofs.Ytljbecalobnkbaa.Gf
set_option linter.unusedVariables false
set_option linter.unusedSimpArgs false
open Go.RowKit

/-- the first k ones of the identity, as they stand in a row -/
def idk (n k t : Nat) : UInt8 := if t / n = t % n ∧ t / n < k then 1 else 0
theorem idk_zero (n t : Nat) : idk n 0 t = 0 := if_neg (by omega)
theorem idk_step {n k : Nat} (hk : k < n) (t : Nat) : idk n (k + 1) t = if t = k * n + k then 1 else idk n k t := by
  unfold idk
  by_cases e : t = k * n + k
  · subst e
    rw [if_pos rfl, place_div hk, place_mod hk, if_pos ⟨rfl, by omega⟩]
  · rw [if_neg e]
    by_cases h : t / n = t % n
    · have h2 : t / n ≠ k := fun h2 => e (by
        have := Nat.div_add_mod t n
        rw [← h, h2, Nat.mul_comm] at this
        exact this.symm)
      by_cases h3 : t / n < k
      · rw [if_pos ⟨h, by omega⟩, if_pos ⟨h, h3⟩]
      · rw [if_neg (by omega), if_neg (by omega)]
    · rw [if_neg (by omega), if_neg (by omega)]
theorem idk_all {n t : Nat} (ht : t < n * n) : idk n n t = one (t / n) (t % n) := by
  have hn : 0 < n := by
    rcases Nat.eq_zero_or_pos n with e | e
    · subst e; omega
    · exact e
  have h1 : t / n < n := (Nat.div_lt_iff_lt_mul hn).2 ht
  unfold idk one
  by_cases h : t / n = t % n
  · rw [if_pos ⟨h, h1⟩, if_pos h]
  · rw [if_neg (fun e => h e.1), if_neg h]

set_option maxRecDepth 100000 in
set_option maxHeartbeats 1000000 in
theorem rident_any (n : Nat) (w : World) (hn : n ≤ 256) {x : Int} (hx : x = (n : Int)) :
    Calls Try.prog 19 #[.int .i64 x] w (MakesM w n n one) := by
  subst hx
  obtain ⟨i0, hi, hz0, hz1, hz2⟩ := info_parts info_u8
  have hmm := mul_small hn hn
  obtain ⟨m, hm⟩ : ∃ m, Hid (m = n * n) := ⟨_, rfl⟩
  rw [← hm.out] at hmm
  have g0 : (n : Int) * (n : Int) = (m : Int) := by rw [hm.out]; exact_mod_cast rfl
  go_enter Try.func19, Try.ntmps19
  go_wp2_with (at_make; go_loud (refine wpList_make_full _ rfl (.tmp 17) (.tmp 17) 23 rfl w.heap.size 5 i0 (.int .u8 0) 1 Try.underlying23 hi hz0 hz1 _ _ _ _ m rfl rfl (by omega) (by omega) (by rw [hz2]; omega) (by unfold maxLen; omega) (by simp) ?_); intro w1 hown1 hgrow1)
  simp only [World.size_alloc] at hown1
  have R1 := RowF.made hown1
  have B1 : Below (w.heap.size + 1) (w.alloc (Obj.cells #[.int .i64 0, .int .i64 0, .slice none 0 0] 25)) w1 := (Below.refl _ _).grown hgrow1 (by simp) (fun k h => by cases h)
  have hs1 : w.heap.size + 1 ≤ w1.heap.size := by have := B1.size; simpa using this
  obtain ⟨gs, hgs⟩ : ∃ gs, Hid (gs = w.heap.size + 1) := ⟨_, rfl⟩
  obtain ⟨ms, hms⟩ : ∃ ms, Hid (ms = w1.heap.size) := ⟨_, rfl⟩
  obtain ⟨rs, hrs⟩ : ∃ rs, Hid (rs = w.heap.size) := ⟨_, rfl⟩
  have hlt := R1.lt
  have B0 : Below w.heap.size w w1 := (below_lit (Below.refl _ _) _).trans (B1.mono (by omega))
  have X0 : Box w1 w.heap.size 0 0 (.slice none 0 0) := Box.below (B := w.heap.size + 1) ⟨by simp, by simp, by simp⟩ (by omega) B1
  have F0 : Free w1 w.heap.size := Free.below (B := w.heap.size + 1) ⟨by simp, by simp, by simp⟩ (by omega) B1
  have hne1 : w1.heap.size ≠ w.heap.size + 1 := by omega
  have hA : Below w1.heap.size w1 (w1.alloc (Obj.cells #[.int .i64 (n : Int), .int .i64 (n : Int), .slice (some ⟨w.heap.size + 1, 0, none⟩) m m] 25)) := (Below.refl _ _).alloc (Nat.le_refl _) _
  have Y0 : Box (w1.alloc (Obj.cells #[.int .i64 (n : Int), .int .i64 (n : Int), .slice (some ⟨w.heap.size + 1, 0, none⟩) m m] 25)) w1.heap.size (n : Int) (n : Int) (.slice (some ⟨w.heap.size + 1, 0, none⟩) m m) := ⟨by simp, by simp, by simp⟩
  replace R1 := R1.later hA
  replace X0 := X0.below (by omega) hA
  replace F0 := F0.below (by omega) hA
  replace B0 := Below.next B0 hA
  clear hown1 hgrow1 hA B1
  obtain ⟨gs, hgs⟩ : ∃ gs, gs = w.heap.size + 1 := ⟨_, rfl⟩
  obtain ⟨ms, hms⟩ : ∃ ms, ms = w1.heap.size := ⟨_, rfl⟩
  obtain ⟨rs, hrs⟩ : ∃ rs, Hid (rs = w.heap.size) := ⟨_, rfl⟩
  go_loopw [5] (fun i wr => ∃ k : Nat, k ≤ n ∧ i = .int .i64 k ∧ RowF wr w.heap.size 5 (w.heap.size + 1) m m (idk n k) ∧ Box wr w1.heap.size (n : Int) (n : Int) (.slice (some ⟨w.heap.size + 1, 0, none⟩) m m) ∧ Box wr w.heap.size 0 0 (.slice none 0 0) ∧ Free wr w.heap.size ∧ Below w.heap.size w wr) (fun i _ => n - (intOf i).toNat)
  case atStart => exact ⟨0, by omega, rfl, R1.congr (fun t _ => (idk_zero _ t).symm), Y0, X0, F0, B0⟩
  case round =>
    obtain ⟨k, hk, rfl, hR, hY, hX, hF, hB⟩ := hrel
    clear R1 Y0 X0 F0 B0
    by_cases hlt2 : k < n
    · obtain ⟨l, hl⟩ : ∃ l, l = k * n := ⟨_, rfl⟩
      have g1 : (k : Int) * (n : Int) = (l : Int) := by rw [hl]; exact_mod_cast rfl
      obtain ⟨t, ht⟩ : ∃ t, Hid (t = k * n + k) := ⟨_, rfl⟩
      have ht' := ht.out
      have htm : t < m := by rw [hm.out, ht']; exact place_lt hlt2 hlt2
      have g2 : (l : Int) + (k : Int) = (t : Int) := by omega
      have c1 := hR.cell htm
      have f1 := hR.unfrozen t
      have N1 : Hid _ := hR.store htm 1 (by rw [ht']; exact idk_step hlt2)
      have O1 : Only (w.heap.size + 1) wr (wr.setCell ⟨w.heap.size + 1, t, none⟩ (.int .u8 1)) := (Only.refl _ _).setCell t _
      have N2 : Hid _ := hY.only hne1 O1
      have N3 : Hid _ := hX.only (by omega) O1
      have N4 : Hid _ := hF.only (by omega) O1
      have N5 : Hid _ := hB.trans (O1.below (by omega))
      have y2 := hY.c2
      clear hl ht' hR hX hF hB O1
      go_wp2
      go_roundw
      case rel => exact ⟨k + 1, by omega, by go_num, N1.out, N2.out, N3.out, N4.out, N5.out⟩
      case measure => simp [intOf]; omega
    · have e : k = n := by omega
      subst e
      have hRd := hR.rd
      have HF : Hid (upto (idk k k) m = flat k k one) := by show _ = _; unfold flat; rw [← hm.out]; exact upto_congr fun t ht => idk_all (by rw [← hm.out]; exact ht)
      rw [HF.out] at hRd
      have y0 := hY.c0
      have y1 := hY.c1
      have y2 := hY.c2
      have x0 := hX.c0
      have x1 := hX.c1
      have x2 := hX.c2
      have z0 := hF.f0
      have z1 := hF.f1
      have z2 := hF.f2
      clear hR hY hX hF
      go_wp2
      have O1 : Only w.heap.size wr (((wr.setCell ⟨w.heap.size, 0, none⟩ (.int .i64 (k : Int))).setCell ⟨w.heap.size, 1, none⟩ (.int .i64 (k : Int))).setCell ⟨w.heap.size, 2, none⟩ (.slice (some ⟨w.heap.size + 1, 0, none⟩) m m)) :=
        (((Only.refl _ _).setCell 0 _).setCell 1 _).setCell 2 _
      refine bodyPost_ret (v := .tuple #[.agg #[.int .i64 (k : Int), .int .i64 (k : Int), .slice (some ⟨w.heap.size + 1, 0, none⟩) m m], .int .i64 0]) (by simp [results, Try.results19, go_sem, x0, x1, x2, z0, z1, z2]) rfl ⟨_, rfl, hRd.only (apart_block (by omega)) O1, hB.trans (O1.below (Nat.le_refl _))⟩

set_option maxRecDepth 100000 in
set_option maxHeartbeats 1000000 in
theorem rident_bad (n : Int) (w : World) (hn : ¬ (0 ≤ n ∧ n ≤ 256)) :
    Calls Try.prog 19 #[.int .i64 n] w (MakesErr w 30) := by
  by_cases h1 : n < 0
  · clear hn
    go_enter Try.func19, Try.ntmps19
    go_wp2
    refine bodyPost_ret (v := .tuple #[.agg #[.int .i64 0, .int .i64 0, .slice none 0 0], .int .i64 30]) (by simp [results, Try.results19, go_sem]) rfl ⟨_, rfl, rd_none, by repeat (first | exact Below.refl _ _ | apply below_lit | refine Below.setCell ?_ (Nat.le_refl _) _)⟩
  · have h2 : n > 256 := by omega
    clear hn
    go_enter Try.func19, Try.ntmps19
    go_wp2
    refine bodyPost_ret (v := .tuple #[.agg #[.int .i64 0, .int .i64 0, .slice none 0 0], .int .i64 30]) (by simp [results, Try.results19, go_sem]) rfl ⟨_, rfl, rd_none, by repeat (first | exact Below.refl _ _ | apply below_lit | refine Below.setCell ?_ (Nat.le_refl _) _)⟩

end Go.Proofs.Ytljbecalobnkbaa.Gf
