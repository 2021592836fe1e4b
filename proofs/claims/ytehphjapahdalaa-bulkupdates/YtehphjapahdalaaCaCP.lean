/-
  THE PROGRAM's 'Parity' BY CONTRACT.
-/
import Derived.Test.YtehphjapahdalaaCaCB
import Derived.Shelf.Abstract
import Derived.Laws.EntriesVeiled
namespace Go.Proofs.Ytehphjapahdalaa.Gf
set_option linter.unusedVariables false
set_option linter.unusedSimpArgs false
open Go.RowKit

/-- one row more -/
theorem upR_row {G : Mx} {r c i : Nat} {f : Nat → UInt8} (h1 : ∀ t, t < r * c → t / c ≠ i → f t = pl c (upR G i) t) (h2 : ∀ j, j < c → f (i * c + j) = G i j) : ∀ t, t < r * c → f t = pl c (upR G (i + 1)) t := by
  intro t ht
  have hc : 0 < c := by
    rcases Nat.eq_zero_or_pos c with e | e
    · rw [e, Nat.mul_zero] at ht; omega
    · exact e
  by_cases e : t / c = i
  · have h3 := Nat.div_add_mod t c
    rw [e, Nat.mul_comm] at h3
    show f t = upR G (i + 1) (t / c) (t % c)
    unfold upR
    rw [if_pos (by omega), e, ← h2 _ (Nat.mod_lt _ hc), h3]
  · rw [h1 t ht e]
    show upR G i (t / c) (t % c) = upR G (i + 1) (t / c) (t % c)
    unfold upR
    by_cases h : t / c < i
    · rw [if_pos h, if_pos (by omega)]
    · rw [if_neg h, if_neg (by omega)]
theorem in_row {c i j : Nat} (hj : j < c) : (i * c + j) / c = i := place_div hj
theorem not_in_row {c i t o : Nat} (ho : o = i * c) (hc : 0 < c) (h : t / c ≠ i) {n : Nat} (hn : n ≤ c) : t < o ∨ o + n ≤ t := by
  by_cases h1 : i * c ≤ t ∧ t < i * c + c
  · exact absurd ((row_iff hc).1 h1) h
  · omega
theorem upR_at {G : Mx} {c i j : Nat} (hj : j < c) : pl c (upR G i) (i * c + j) = 0 := by
  rw [pl_at _ hj]; exact if_neg (by omega)

/-- What fills a parity shard's row: its captured variables. -/
structure Fills (w : World) (b k kb fb : Nat) : Prop where
  ck : w.cell? ⟨kb, 0, none⟩ = some (.int .i64 (k : Int))
  cf : w.cell? ⟨fb, 0, none⟩ = some (.pointer (some ⟨b, 0, none⟩))
  lk : kb < w.heap.size
  lf : fb < w.heap.size
theorem Fills.below {w w' : World} {b k kb fb : Nat} (h : Fills w b k kb fb) (o : Below w.heap.size w w') : Fills w' b k kb fb :=
  ⟨(o.cell (p := ⟨kb, 0, none⟩) h.lk).trans h.ck, (o.cell (p := ⟨fb, 0, none⟩) h.lf).trans h.cf, Nat.lt_of_lt_of_le h.lk o.size, Nat.lt_of_lt_of_le h.lf o.size⟩

theorem enters_prow1 : Hid (∀ (args : Array Value) (w : World), Sem.run Try.prog (callFunc 46 args) w = .ok (.enter 46 args) w) := enters_of Try.func46 (by kernel_rfl) rfl

set_option maxRecDepth 100000 in
set_option maxHeartbeats 1000000 in
theorem prow_make {b : Nat} (k : Nat) (w : World) {x : Int} (hx : x = (k : Int)) : Calls Try.prog 43 #[.pointer (some ⟨b, 0, none⟩), .int .i64 x] w fun e w' => ∃ kb fb, e = .returned (.func (.func 46) #[] #[.pointer (some ⟨kb, 0, none⟩), .pointer (some ⟨fb, 0, none⟩)]) ∧ Fills w' b k kb fb ∧ Below w.heap.size w w' := by
  subst hx
  go_enter Try.func43, Try.ntmps43
  go_wp2
  go_ret
  refine ⟨_, _, rfl, ⟨by simp, by simp, by simp <;> omega, by simp <;> omega⟩, by repeat (first | exact Below.refl _ _ | apply below_lit)⟩

set_option maxRecDepth 100000 in
set_option maxHeartbeats 1000000 in
theorem cpar_bad {b : Nat} {k m : Int} {w : World} (hF : FieldAt w b) (h : ¬ OkC k m) : Calls Try.prog 36 #[.pointer (some ⟨b, 0, none⟩), .int .i64 k, .int .i64 m] w (MakesErr w 50) := by
  go_enter Try.func36, Try.ntmps36
  go_wp2_with fail
  refine (ccf_bad _ h).mono ?_
  rintro e w2 ⟨rfl, rfl⟩
  clear h
  go_wp2
  refine bodyPost_ret (v := .tuple #[.agg #[.int .i64 0, .int .i64 0, .slice none 0 0], .int .i64 50]) (by simp [results, Try.results36, go_sem]) rfl ⟨_, rfl, rd_none, by repeat (first | exact Below.refl _ _ | apply below_lit | refine Below.setCell ?_ (Nat.le_refl _) _)⟩

set_option maxRecDepth 100000 in
set_option maxHeartbeats 2000000 in
theorem cpar_at {b : Nat} {w : World} (k m : Nat) (hF : FieldAt w b) (h1 : 1 ≤ k) (h2 : k + m ≤ 256) {x y : Int} (hx : x = (k : Int)) (hy : y = (m : Int)) :
    Calls Try.prog 36 #[.pointer (some ⟨b, 0, none⟩), .int .i64 x, .int .i64 y] w (fun e w' => ∃ g M, e = .returned (.tuple #[.agg #[.int .i64 (m : Int), .int .i64 (k : Int), .slice (some ⟨g, 0, none⟩) M M], .int .i64 0]) ∧ w.heap.size ≤ g ∧ Rd w' (.slice (some ⟨g, 0, none⟩) M M) (flat m k (parF k)) ∧ Below w.heap.size w w') := by
  subst hx hy
  go_enter Try.func36, Try.ntmps36
  go_wp2_with fail
  refine (ccf_ok _ (okC_mk h1 h2)).mono ?_
  rintro e w2 ⟨rfl, rfl⟩
  go_wp2_with fail
  refine (prow_make k _ rfl).mono ?_
  rintro e w1 ⟨kb, fb, rfl, hfl, b1⟩
  have X3 : Box w1 w.heap.size 0 0 (.slice none 0 0) := Below.box b1 (by simp <;> omega) (Box.new w 0 0 (.slice none 0 0) 52)
  have F3 : Free w1 w.heap.size := Below.free b1 (by simp <;> omega) (Free.new w #[.int .i64 0, .int .i64 0, .slice none 0 0] 52)
  have B1 : Below w.heap.size w w1 := Below.next (by repeat (first | exact Below.refl _ _ | apply below_lit)) b1
  have hF1 := hF.below B1
  have hs1 : w.heap.size < w1.heap.size := by have := b1.size; simp at this; omega
  clear b1
  go_wp2_with fail
  refine (made_any m k w1 (by omega) (by omega) h1 (parF k) enters_prow1 ?_ rfl rfl).mono ?_
  · intro g M i o W hi hM ho hg hB R
    have hf2 := hfl.below hB
    refine (prow_fill (i := i) (n := k) (hF1.below hB) (by have := hF1.lt; omega) hf2.ck (by have := hfl.lk; omega) hf2.cf (by have := hfl.lf; omega) (by omega) (Nat.le_refl _) (by omega) (by rw [ho.out, hM.out, ← Nat.succ_mul]; exact Nat.mul_le_mul_right k hi) R rfl).mono ?_
    rintro e w' ⟨rfl, hO, hR⟩
    refine ⟨rfl, hO.turn, hR.congr ?_⟩
    rw [hM.out]
    refine upR_row (fun t ht hne => putAt_out (not_in_row ho.out (by omega) hne (Nat.le_refl _))) (fun j hj => ?_)
    rw [ho.out]; exact putAt_in hj
  · rintro e w4 ⟨g, M, rfl, hg, hR, b4⟩
    have X4 := X3.below hs1 b4
    have F4 := F3.below hs1 b4
    have B4 : Below w.heap.size w w4 := Below.next B1 b4
    have x30 := X4.c0
    have x31 := X4.c1
    have x32 := X4.c2
    have f30 := F4.f0
    have f31 := F4.f1
    have f32 := F4.f2
    go_wp2
    have O1 : Only w.heap.size w4 (((w4.setCell ⟨w.heap.size, 0, none⟩ (.int .i64 (m : Int))).setCell ⟨w.heap.size, 1, none⟩ (.int .i64 (k : Int))).setCell ⟨w.heap.size, 2, none⟩ (.slice (some ⟨g, 0, none⟩) M M)) :=
      (((Only.refl _ _).setCell 0 _).setCell 1 _).setCell 2 _
    refine bodyPost_ret (v := .tuple #[.agg #[.int .i64 (m : Int), .int .i64 (k : Int), .slice (some ⟨g, 0, none⟩) M M], .int .i64 0]) (by simp [results, Try.results36, go_sem, x30, x31, x32, f30, f31, f32]) rfl ⟨g, M, rfl, by omega, hR.only (apart_block (by omega)) O1, B4.trans (O1.below (by omega))⟩
theorem cpar_ok {b : Nat} {w : World} (k m : Nat) (hF : FieldAt w b) (h1 : 1 ≤ k) (h2 : k + m ≤ 256) {x y : Int} (hx : x = (k : Int)) (hy : y = (m : Int)) :
    Calls Try.prog 36 #[.pointer (some ⟨b, 0, none⟩), .int .i64 x, .int .i64 y] w (MakesM w m k (parF k)) :=
  (cpar_at k m hF h1 h2 hx hy).mono fun e w' ⟨g, M, h, _, hr, hb⟩ => ⟨_, h, hr, hb⟩

end Go.Proofs.Ytehphjapahdalaa.Gf
