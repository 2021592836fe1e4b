/-
  THE PROGRAM's 'made' BY CONTRACT: a matrix whose rows are filled by a function value, whichever it is.
-/
import Derived.Test.YtehphjapahdalaaCaCA
import Derived.Test.YtehphjapahdalaaMxNf
namespace Go.Proofs.Ytehphjapahdalaa.Gf
set_option linter.unusedVariables false
set_option linter.unusedSimpArgs false
open Go.RowKit

/-- the first r rows of a matrix, noughts behind them -/
def upR (G : Mx) (r : Nat) : Mx := fun i j => if i < r then G i j else 0
theorem upR_zero (G : Mx) (c t : Nat) : pl c (upR G 0) t = 0 := by
  show upR G 0 (t / c) (t % c) = 0
  unfold upR
  rw [if_neg (Nat.not_lt_zero _)]
theorem upR_all (G : Mx) {r c : Nat} : ∀ t, t < r * c → pl c (upR G r) t = pl c G t := pl_congr fun i j hi _ => if_pos hi

set_option maxRecDepth 100000 in
set_option maxHeartbeats 2000000 in
theorem made_any {F : Nat} {p q : Value} (r c : Nat) (w : World) (hr : r ≤ 256) (hc : c ≤ 256) (hc0 : 0 < c) (G : Mx) (eg : Hid (∀ (args : Array Value) (w : World), Sem.run Try.prog (callFunc F args) w = .ok (.enter F args) w))
    (hfill : Hid (∀ (g m i o : Nat) (W : World), i < r → Hid (m = r * c) → Hid (o = i * c) → w.heap.size ≤ g → Below w.heap.size w W → RowF W w.heap.size 5 g m m (pl c (upR G i)) →
      Calls Try.prog F #[.int .i64 (i : Int), .slice (some ⟨g, o, none⟩) c (m - o), p, q] W fun e w' => e = .returned (.tuple #[]) ∧ Turn g W w' ∧ RowF w' w.heap.size 5 g m m (pl c (upR G (i + 1)))))
    {x y : Int} (hx : x = (r : Int)) (hy : y = (c : Int)) :
    Calls Try.prog 42 #[.int .i64 x, .int .i64 y, .func (.func F) #[] #[p, q]] w fun e w' => ∃ g m, e = .returned (.agg #[.int .i64 (r : Int), .int .i64 (c : Int), .slice (some ⟨g, 0, none⟩) m m]) ∧ w.heap.size ≤ g ∧ Rd w' (.slice (some ⟨g, 0, none⟩) m m) (flat r c G) ∧ Below w.heap.size w w' := by
  subst hx hy
  obtain ⟨i0, hi, hz0, hz1, hz2⟩ := info_parts info_u8
  have hmm : r * c ≤ 256 * 256 := Nat.mul_le_mul hr hc
  obtain ⟨m, hm⟩ : ∃ m, Hid (m = r * c) := ⟨_, rfl⟩
  rw [← hm.out] at hmm
  have g0 : (r : Int) * (c : Int) = (m : Int) := by rw [hm.out]; exact_mod_cast rfl
  go_enter Try.func42, Try.ntmps42
  go_wp2_with (at_make; go_loud (refine wpList_make_full _ rfl (.tmp 13) (.tmp 13) 35 rfl w.heap.size 5 i0 (.int .u8 0) 1 Try.underlying35 hi hz0 hz1 _ _ _ _ m rfl rfl (by omega) (by omega) (by rw [hz2]; omega) (by unfold maxLen; omega) (by simp) ?_); intro w1 hown1 hgrow1; obtain ⟨R1, B0, x0, x1, x2, z0, z1, z2⟩ := nought_facts hown1 hgrow1; clear hown1 hgrow1)
  have hg0 : w.heap.size < w.heap.size + 1 := by omega
  generalize hgg : w.heap.size + 1 = g at *
  have X3 : Box w1 w.heap.size 0 0 (.slice none 0 0) := ⟨x0, x1, x2⟩
  have F3 : Free w1 w.heap.size := ⟨z0, z1, z2⟩
  have hA : Below w1.heap.size w1 (w1.alloc (.cells #[.int .i64 (r : Int), .int .i64 (c : Int), .slice (some ⟨g, 0, none⟩) m m] 52)) := (Below.refl _ _).alloc (Nat.le_refl _) _
  have P1 := Box.new w1 (r : Int) (c : Int) (.slice (some ⟨g, 0, none⟩) m m) 52
  have hlt := R1.lt
  replace R1 := R1.later hA
  replace X3 := X3.below (by omega) hA
  replace F3 := F3.below (by omega) hA
  replace B0 := Below.next B0 hA
  have hms : w1.heap.size < (w1.alloc (.cells #[.int .i64 (r : Int), .int .i64 (c : Int), .slice (some ⟨g, 0, none⟩) m m] 52)).heap.size := by simp
  have hmg : w1.heap.size ≠ g := by omega
  clear hA x0 x1 x2 z0 z1 z2
  generalize w1.alloc (.cells #[.int .i64 (r : Int), .int .i64 (c : Int), .slice (some ⟨g, 0, none⟩) m m] 52) = w2 at *
  go_loopw [17] (fun i wr => ∃ k : Nat, k ≤ r ∧ i = .int .i64 k ∧ Turn g w2 wr ∧ RowF wr w.heap.size 5 g m m (pl c (upR G k))) (fun i _ => r - (intOf i).toNat)
  case atStart => exact ⟨0, by omega, rfl, Turn.refl _ _, R1.congr (fun t _ => (upR_zero _ _ t).symm)⟩
  case round =>
    obtain ⟨k, hk, rfl, hT, hRk⟩ := hrel
    clear R1
    replace P1 := P1.turn hms hmg hT
    have hs2 := hT.size
    by_cases hlt2 : k < r
    · have hlt2' : (k : Int) < (r : Int) := by omega
      obtain ⟨o, ho⟩ : ∃ o, Hid (o = k * c) := ⟨_, rfl⟩
      have hom : o + c ≤ m := by rw [ho.out, hm.out, ← Nat.succ_mul]; exact Nat.mul_le_mul_right c hlt2
      have g1 : (k : Int) * (c : Int) = (o : Int) := by rw [ho.out]; exact_mod_cast rfl
      have g2 : ((k : Int) + 1) * (c : Int) = (o : Int) + (c : Int) := by rw [Int.add_mul, Int.one_mul, g1]
      have v1 : IntKind.i64.wrap (o : Int) = (o : Int) := by rw [IntKind.wrap_i64]; omega
      have v2 : IntKind.i64.wrap ((o : Int) + (c : Int)) = (o : Int) + (c : Int) := by rw [IntKind.wrap_i64]; omega
      have v3 : IntKind.i64.wrap ((k : Int) + 1) = (k : Int) + 1 := by rw [IntKind.wrap_i64]; omega
      have hlt3 : o < m := by omega
      have hne : ¬ m = o := by omega
      have hsub : o + c - o = c := by omega
      have y2 := P1.c2
      have HB : Hid (Below w.heap.size w wr) := B0.trans (hT.below (by omega) (by omega))
      have HC := hfill.out g m k o wr hlt2 hm ho (by omega) HB.out hRk
      clear hfill hRk
      go_wp2_with fail
      rw [eg.out, Oper.upon_enter]
      refine HC.mono ?_
      rintro e v4 ⟨rfl, hT4, hR4⟩
      have HT : Hid (Turn g w2 v4) := hT.trans hT4
      have HN : Hid (RowF v4 w.heap.size 5 g m m (pl c (upR G (k + 1)))) := hR4
      clear hT hT4 hR4 y2 P1 HC HB
      go_wp2
      go_roundw
      case rel => exact ⟨k + 1, by omega, by go_num, HT.out, HN.out⟩
      case measure => simp [intOf]; omega
    · have e : k = r := by omega
      subst e
      have R4 : Rd wr (.slice (some ⟨g, 0, none⟩) m m) (flat k c G) := by
        have := (hRk.congr (f' := pl c G) (by rw [hm.out]; exact upR_all G)).rd
        rw [← pl_flat, ← hm.out]
        exact this
      have X4 := X3.turn (by omega) (by omega) hT
      have F4 := F3.turn (by omega) (by omega) hT
      have x30 := X4.c0
      have x31 := X4.c1
      have x32 := X4.c2
      have f30 := F4.f0
      have f31 := F4.f1
      have f32 := F4.f2
      have y0 := P1.c0
      have y1 := P1.c1
      have y2 := P1.c2
      clear hRk hfill
      go_wp2
      have O1 : Only w.heap.size wr (((wr.setCell ⟨w.heap.size, 0, none⟩ (.int .i64 (k : Int))).setCell ⟨w.heap.size, 1, none⟩ (.int .i64 (c : Int))).setCell ⟨w.heap.size, 2, none⟩ (.slice (some ⟨g, 0, none⟩) m m)) :=
        (((Only.refl _ _).setCell 0 _).setCell 1 _).setCell 2 _
      refine bodyPost_ret (v := .agg #[.int .i64 (k : Int), .int .i64 (c : Int), .slice (some ⟨g, 0, none⟩) m m]) (by simp [results, Try.results42, go_sem, x30, x31, x32, f30, f31, f32]) rfl ⟨g, m, rfl, by omega, R4.only (apart_block (by omega)) O1, (B0.trans (hT.below (by omega) (by omega))).trans (O1.below (by omega))⟩

end Go.Proofs.Ytehphjapahdalaa.Gf
