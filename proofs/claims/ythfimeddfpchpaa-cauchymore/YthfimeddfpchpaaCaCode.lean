/-
  THE PROGRAM's 'Parity', 'Generator', 'Checks' BY CONTRACT.
-/
import Derived.Test.YthfimeddfpchpaaCaCB
import Derived.Shelf.Abstract
import Derived.Laws.EntriesVeiled
namespace Go.Proofs.Ythfimeddfpchpaa.Gf
set_option linter.unusedVariables false
set_option linter.unusedSimpArgs false
open Go.RowKit

/-- one row more -/
theorem upR_row {G : Mx} {r c i : Nat} {f : Nat → UInt8} (h1 : ∀ t, t < r * c → t / c ≠ i → f t = pl c (upR G i) t) (h2 : ∀ j, j < c → f (i * c + j) = G i j) : ∀ t, t < r * c → f t = pl c (upR G (i + 1)) t := by
  intro t ht
  have hc : 0 < c := by
    rcases Nat.eq_zero_or_pos c with e | e
    · rw [e, Nat.mul_zero] at ht; omega
    · exact e
  by_cases e : t / c = i
  · have h3 := Nat.div_add_mod t c
    rw [e, Nat.mul_comm] at h3
    show f t = upR G (i + 1) (t / c) (t % c)
    unfold upR
    rw [if_pos (by omega), e, ← h2 _ (Nat.mod_lt _ hc), h3]
  · rw [h1 t ht e]
    show upR G i (t / c) (t % c) = upR G (i + 1) (t / c) (t % c)
    unfold upR
    by_cases h : t / c < i
    · rw [if_pos h, if_pos (by omega)]
    · rw [if_neg h, if_neg (by omega)]
theorem in_row {c i j : Nat} (hj : j < c) : (i * c + j) / c = i := place_div hj
theorem not_in_row {c i t o : Nat} (ho : o = i * c) (hc : 0 < c) (h : t / c ≠ i) {n : Nat} (hn : n ≤ c) : t < o ∨ o + n ≤ t := by
  by_cases h1 : i * c ≤ t ∧ t < i * c + c
  · exact absurd ((row_iff hc).1 h1) h
  · omega
theorem upR_at {G : Mx} {c i j : Nat} (hj : j < c) : pl c (upR G i) (i * c + j) = 0 := by
  rw [pl_at _ hj]; exact if_neg (by omega)

/-- What fills a parity shard's row: its captured variables. -/
structure Fills (w : World) (b k kb fb : Nat) : Prop where
  ck : w.cell? ⟨kb, 0, none⟩ = some (.int .i64 (k : Int))
  cf : w.cell? ⟨fb, 0, none⟩ = some (.pointer (some ⟨b, 0, none⟩))
  lk : kb < w.heap.size
  lf : fb < w.heap.size
theorem Fills.below {w w' : World} {b k kb fb : Nat} (h : Fills w b k kb fb) (o : Below w.heap.size w w') : Fills w' b k kb fb :=
  ⟨(o.cell (p := ⟨kb, 0, none⟩) h.lk).trans h.ck, (o.cell (p := ⟨fb, 0, none⟩) h.lf).trans h.cf, Nat.lt_of_lt_of_le h.lk o.size, Nat.lt_of_lt_of_le h.lf o.size⟩

theorem enters_prow1 : Hid (∀ (args : Array Value) (w : World), Sem.run Try.prog (callFunc 46 args) w = .ok (.enter 46 args) w) := enters_of Try.func46 (by kernel_rfl) rfl
theorem enters_gen1 : Hid (∀ (args : Array Value) (w : World), Sem.run Try.prog (callFunc 32 args) w = .ok (.enter 32 args) w) := enters_of Try.func32 (by kernel_rfl) rfl
theorem enters_chk1 : Hid (∀ (args : Array Value) (w : World), Sem.run Try.prog (callFunc 34 args) w = .ok (.enter 34 args) w) := enters_of Try.func34 (by kernel_rfl) rfl

set_option maxRecDepth 100000 in
set_option maxHeartbeats 1000000 in
theorem prow_make {b : Nat} (k : Nat) (w : World) {x : Int} (hx : x = (k : Int)) : Calls Try.prog 30 #[.pointer (some ⟨b, 0, none⟩), .int .i64 x] w fun e w' => ∃ kb fb, e = .returned (.func (.func 46) #[] #[.pointer (some ⟨kb, 0, none⟩), .pointer (some ⟨fb, 0, none⟩)]) ∧ Fills w' b k kb fb ∧ Below w.heap.size w w' := by
  subst hx
  go_enter Try.func30, Try.ntmps30
  go_wp2
  go_ret
  refine ⟨_, _, rfl, ⟨by simp, by simp, by simp <;> omega, by simp <;> omega⟩, by repeat (first | exact Below.refl _ _ | apply below_lit)⟩

set_option maxRecDepth 100000 in
set_option maxHeartbeats 1000000 in
theorem cpar_bad {b : Nat} {k m : Int} {w : World} (hF : FieldAt w b) (h : ¬ OkC k m) : Calls Try.prog 14 #[.pointer (some ⟨b, 0, none⟩), .int .i64 k, .int .i64 m] w (MakesErr w 50) := by
  go_enter Try.func14, Try.ntmps14
  go_wp2_with fail
  refine (ccf_bad _ h).mono ?_
  rintro e w2 ⟨rfl, rfl⟩
  clear h
  go_wp2
  refine bodyPost_ret (v := .tuple #[.agg #[.int .i64 0, .int .i64 0, .slice none 0 0], .int .i64 50]) (by simp [results, Try.results14, go_sem]) rfl ⟨_, rfl, rd_none, by repeat (first | exact Below.refl _ _ | apply below_lit | refine Below.setCell ?_ (Nat.le_refl _) _)⟩

set_option maxRecDepth 100000 in
set_option maxHeartbeats 1000000 in
theorem cgen_bad {b : Nat} {k m : Int} {w : World} (hF : FieldAt w b) (h : ¬ OkC k m) : Calls Try.prog 16 #[.pointer (some ⟨b, 0, none⟩), .int .i64 k, .int .i64 m] w (MakesErr w 50) := by
  go_enter Try.func16, Try.ntmps16
  go_wp2_with fail
  refine (ccf_bad _ h).mono ?_
  rintro e w2 ⟨rfl, rfl⟩
  clear h
  go_wp2
  refine bodyPost_ret (v := .tuple #[.agg #[.int .i64 0, .int .i64 0, .slice none 0 0], .int .i64 50]) (by simp [results, Try.results16, go_sem]) rfl ⟨_, rfl, rd_none, ((Below.refl _ _).alloc (Nat.le_refl _) _).alloc (by simp) _⟩

set_option maxRecDepth 100000 in
set_option maxHeartbeats 1000000 in
theorem cchk_bad {b : Nat} {k m : Int} {w : World} (hF : FieldAt w b) (h : ¬ OkC k m) : Calls Try.prog 18 #[.pointer (some ⟨b, 0, none⟩), .int .i64 k, .int .i64 m] w (MakesErr w 50) := by
  go_enter Try.func18, Try.ntmps18
  go_wp2_with fail
  refine (ccf_bad _ h).mono ?_
  rintro e w2 ⟨rfl, rfl⟩
  clear h
  go_wp2
  refine bodyPost_ret (v := .tuple #[.agg #[.int .i64 0, .int .i64 0, .slice none 0 0], .int .i64 50]) (by simp [results, Try.results18, go_sem]) rfl ⟨_, rfl, rd_none, ((Below.refl _ _).alloc (Nat.le_refl _) _).alloc (by simp) _⟩

set_option maxRecDepth 100000 in
set_option maxHeartbeats 2000000 in
theorem cpar_ok {b : Nat} {w : World} (k m : Nat) (hF : FieldAt w b) (h1 : 1 ≤ k) (h2 : k + m ≤ 256) {x y : Int} (hx : x = (k : Int)) (hy : y = (m : Int)) :
    Calls Try.prog 14 #[.pointer (some ⟨b, 0, none⟩), .int .i64 x, .int .i64 y] w (MakesM w m k (parF k)) := by
  subst hx hy
  go_enter Try.func14, Try.ntmps14
  go_wp2_with fail
  refine (ccf_ok _ (okC_mk h1 h2)).mono ?_
  rintro e w2 ⟨rfl, rfl⟩
  go_wp2_with fail
  refine (prow_make k _ rfl).mono ?_
  rintro e w1 ⟨kb, fb, rfl, hfl, b1⟩
  have X3 : Box w1 w.heap.size 0 0 (.slice none 0 0) := Below.box b1 (by simp <;> omega) (Box.new w 0 0 (.slice none 0 0) 30)
  have F3 : Free w1 w.heap.size := Below.free b1 (by simp <;> omega) (Free.new w #[.int .i64 0, .int .i64 0, .slice none 0 0] 30)
  have B1 : Below w.heap.size w w1 := Below.next (by repeat (first | exact Below.refl _ _ | apply below_lit)) b1
  have hF1 := hF.below B1
  have hs1 : w.heap.size < w1.heap.size := by have := b1.size; simp at this; omega
  clear b1
  go_wp2_with fail
  refine (made_any m k w1 (by omega) (by omega) h1 (parF k) enters_prow1 ?_ rfl rfl).mono ?_
  · intro g M i o W hi hM ho hg hB R
    have hf2 := hfl.below hB
    refine (prow_fill (i := i) (n := k) (hF1.below hB) (by have := hF1.lt; omega) hf2.ck (by have := hfl.lk; omega) hf2.cf (by have := hfl.lf; omega) (by omega) (Nat.le_refl _) (by omega) (by rw [ho.out, hM.out, ← Nat.succ_mul]; exact Nat.mul_le_mul_right k hi) R rfl).mono ?_
    rintro e w' ⟨rfl, hO, hR⟩
    refine ⟨rfl, hO.turn, hR.congr ?_⟩
    rw [hM.out]
    refine upR_row (fun t ht hne => putAt_out (not_in_row ho.out (by omega) hne (Nat.le_refl _))) (fun j hj => ?_)
    rw [ho.out]; exact putAt_in hj
  · rintro e w4 ⟨g, M, rfl, hg, hR, b4⟩
    have X4 := X3.below hs1 b4
    have F4 := F3.below hs1 b4
    have B4 : Below w.heap.size w w4 := Below.next B1 b4
    have x30 := X4.c0
    have x31 := X4.c1
    have x32 := X4.c2
    have f30 := F4.f0
    have f31 := F4.f1
    have f32 := F4.f2
    go_wp2
    have O1 : Only w.heap.size w4 (((w4.setCell ⟨w.heap.size, 0, none⟩ (.int .i64 (m : Int))).setCell ⟨w.heap.size, 1, none⟩ (.int .i64 (k : Int))).setCell ⟨w.heap.size, 2, none⟩ (.slice (some ⟨g, 0, none⟩) M M)) :=
      (((Only.refl _ _).setCell 0 _).setCell 1 _).setCell 2 _
    refine bodyPost_ret (v := .tuple #[.agg #[.int .i64 (m : Int), .int .i64 (k : Int), .slice (some ⟨g, 0, none⟩) M M], .int .i64 0]) (by simp [results, Try.results14, go_sem, x30, x31, x32, f30, f31, f32]) rfl ⟨_, rfl, hR.only (apart_block (by omega)) O1, B4.trans (O1.below (by omega))⟩

set_option maxRecDepth 100000 in
set_option maxHeartbeats 1000000 in
/-- Generator's closure fills a row. -/
theorem gen_fill {w : World} {b kb fb kb2 pb k i o cap g m base : Nat} {f : Nat → UInt8} (hF : FieldAt w b) (hb : b ≠ g) (hl : Fills w b k kb fb) (hk : kb ≠ g) (hf : fb ≠ g)
    (c2 : w.cell? ⟨kb2, 0, none⟩ = some (.int .i64 (k : Int))) (cp : w.cell? ⟨pb, 0, none⟩ = some (.func (.func 46) #[] #[.pointer (some ⟨kb, 0, none⟩), .pointer (some ⟨fb, 0, none⟩)]))
    (hi : i < 256) (hn : k ≤ 256) (hom : o + k ≤ m) (R : RowF w base 5 g m m f) {x : Int} (hx : x = (i : Int)) :
    Calls Try.prog 32 #[.int .i64 x, .slice (some ⟨g, o, none⟩) k cap, .pointer (some ⟨kb2, 0, none⟩), .pointer (some ⟨pb, 0, none⟩)] w fun e w' => e = .returned (.tuple #[]) ∧ Only g w w' ∧
      RowF w' base 5 g m m (if i < k then fun t => if t = o + i then 1 else f t else putAt f o k (fun j => parF k (i - k) j)) := by
  subst hx
  by_cases hik : i < k
  · have hik' : (i : Int) < (k : Int) := by omega
    rw [if_pos hik]
    have c4 := R.cell (show o + i < m by omega)
    have f4 := R.unfrozen (o + i)
    have HN : Hid (RowF (w.setCell ⟨g, o + i, none⟩ (.int .u8 1)) base 5 g m m (fun t => if t = o + i then 1 else f t)) := R.store (show o + i < m by omega) 1 (fun _ => rfl)
    have HT : Hid (Only g w (w.setCell ⟨g, o + i, none⟩ (.int .u8 1))) := (Only.refl _ _).setCell _ _
    clear R hF
    go_enter Try.func32, Try.ntmps32
    go_wp2
    exact bodyPost_ret (v := .tuple #[]) (by simp [results, Try.results32, go_sem]) rfl ⟨rfl, HT.out, HN.out⟩
  · have hik' : ¬ (i : Int) < (k : Int) := by omega
    rw [if_neg hik]
    obtain ⟨d, hd⟩ : ∃ d, Hid (d = i - k) := ⟨_, rfl⟩
    have g1 : (i : Int) - (k : Int) = (d : Int) := by have := hd.out; omega
    rw [← hd.out]
    go_enter Try.func32, Try.ntmps32
    go_wp2_with fail
    refine (prow_fill (i := d) (n := k) (base := base) hF hb hl.ck hk hl.cf hf (by have := hd.out; omega) (Nat.le_refl _) hn hom R rfl).mono ?_
    rintro e w' ⟨rfl, hO, hR⟩
    go_wp2
    go_end0
    exact ⟨rfl, hO, hR⟩

set_option maxRecDepth 100000 in
set_option maxHeartbeats 1000000 in
/-- Checks' closure fills a row. -/
theorem chk_fill {w : World} {b kb fb kb2 pb k i o n cap g m base : Nat} {f : Nat → UInt8} (hF : FieldAt w b) (hb : b ≠ g) (hl : Fills w b k kb fb) (hk : kb ≠ g) (hf : fb ≠ g)
    (c2 : w.cell? ⟨kb2, 0, none⟩ = some (.int .i64 (k : Int))) (hk2 : kb2 ≠ g) (cp : w.cell? ⟨pb, 0, none⟩ = some (.func (.func 46) #[] #[.pointer (some ⟨kb, 0, none⟩), .pointer (some ⟨fb, 0, none⟩)]))
    (hki : k + i < n) (hn : n ≤ 256) (hom : o + n ≤ m) (R : RowF w base 5 g m m f) {x : Int} (hx : x = (i : Int)) :
    Calls Try.prog 34 #[.int .i64 x, .slice (some ⟨g, o, none⟩) n cap, .pointer (some ⟨pb, 0, none⟩), .pointer (some ⟨kb2, 0, none⟩)] w fun e w' => e = .returned (.tuple #[]) ∧ Only g w w' ∧
      RowF w' base 5 g m m (fun t => if t = o + (k + i) then 1 else putAt f o k (fun j => parF k i j) t) := by
  subst hx
  obtain ⟨d, hd⟩ : ∃ d, Hid (d = k + i) := ⟨_, rfl⟩
  have g1 : (k : Int) + (i : Int) = (d : Int) := by have := hd.out; omega
  have hdn : d < n := by rw [hd.out]; exact hki
  have w1 : IntKind.i64.wrap (d : Int) = (d : Int) := by rw [IntKind.wrap_i64]; omega
  rw [← hd.out]
  go_enter Try.func34, Try.ntmps34
  go_wp2_with fail
  refine (prow_fill (i := i) (n := n) (base := base) hF hb hl.ck hk hl.cf hf (by omega) (by omega) hn hom R rfl).mono ?_
  rintro e w' ⟨rfl, hO, hR⟩
  have c3 := (hO.cell (p := ⟨kb2, 0, none⟩) hk2).trans c2
  have c4 := hR.cell (show o + d < m by omega)
  have f4 := hR.unfrozen (o + d)
  have HN : Hid (RowF (w'.setCell ⟨g, o + d, none⟩ (.int .u8 1)) base 5 g m m (fun t => if t = o + d then 1 else putAt f o k (fun j => parF k i j) t)) := hR.store (show o + d < m by omega) 1 (fun _ => rfl)
  have HT : Hid (Only g w (w'.setCell ⟨g, o + d, none⟩ (.int .u8 1))) := hO.setCell _ _
  clear hF hl c2 cp R hO hR
  go_wp2
  go_end0
  exact ⟨rfl, HT.out, HN.out⟩

set_option maxRecDepth 100000 in
set_option maxHeartbeats 2000000 in
theorem cgen_ok {b : Nat} {w : World} (k m : Nat) (hF : FieldAt w b) (h1 : 1 ≤ k) (h2 : k + m ≤ 256) {x y : Int} (hx : x = (k : Int)) (hy : y = (m : Int)) :
    Calls Try.prog 16 #[.pointer (some ⟨b, 0, none⟩), .int .i64 x, .int .i64 y] w (MakesM w (k + m) k (genF k)) := by
  subst hx hy
  obtain ⟨s, hs⟩ : ∃ s, Hid (s = k + m) := ⟨_, rfl⟩
  have g1 : (k : Int) + (m : Int) = (s : Int) := by have := hs.out; omega
  have hs2 : s ≤ 256 := by rw [hs.out]; exact h2
  have w0 : IntKind.i64.wrap (s : Int) = (s : Int) := by rw [IntKind.wrap_i64]; omega
  rw [← hs.out]
  go_enter Try.func16, Try.ntmps16
  go_wp2_with fail
  refine (ccf_ok _ (okC_mk h1 h2)).mono ?_
  rintro e w2 ⟨rfl, rfl⟩
  go_wp2_with fail
  refine (prow_make k _ rfl).mono ?_
  rintro e w1 ⟨kb, fb, rfl, hfl, b1⟩
  have C0 : w1.cell? ⟨w.heap.size, 0, none⟩ = some (.int .i64 (k : Int)) := (b1.cell (p := ⟨w.heap.size, 0, none⟩) (by simp <;> omega)).trans (by simp)
  have X3 : Box w1 (w.heap.size + 1) 0 0 (.slice none 0 0) := Below.box b1 (by simp <;> omega) ⟨by simp, by simp, by simp⟩
  have F3 : Free w1 (w.heap.size + 1) := Below.free b1 (by simp <;> omega) ⟨by simp, by simp, by simp⟩
  have B1 : Below w.heap.size w w1 := Below.next (((Below.refl _ _).alloc (Nat.le_refl _) _).alloc (by simp) _) b1
  have hF1 := hF.below B1
  have hs1 : w.heap.size + 1 < w1.heap.size := by have := b1.size; simp at this; omega
  clear b1
  have hA : Below w1.heap.size w1 (w1.alloc (.cells #[.func (.func 46) #[] #[.pointer (some ⟨kb, 0, none⟩), .pointer (some ⟨fb, 0, none⟩)]] 51)) := (Below.refl _ _).alloc (Nat.le_refl _) _
  have CP : (w1.alloc (.cells #[.func (.func 46) #[] #[.pointer (some ⟨kb, 0, none⟩), .pointer (some ⟨fb, 0, none⟩)]] 51)).cell? ⟨w1.heap.size, 0, none⟩ = some (.func (.func 46) #[] #[.pointer (some ⟨kb, 0, none⟩), .pointer (some ⟨fb, 0, none⟩)]) := by simp
  have hpl : w1.heap.size < (w1.alloc (.cells #[.func (.func 46) #[] #[.pointer (some ⟨kb, 0, none⟩), .pointer (some ⟨fb, 0, none⟩)]] 51)).heap.size := by simp
  have C0w := C0
  replace C0 := (hA.cell (p := ⟨w.heap.size, 0, none⟩) (by show w.heap.size < _; omega)).trans C0
  replace X3 := X3.below (by omega) hA
  replace F3 := F3.below (by omega) hA
  replace B1 := Below.next B1 hA
  replace hF1 := hF1.below hA
  replace hfl := hfl.below hA
  clear hA
  go_wp2_with fail
  generalize w1.alloc (.cells #[.func (.func 46) #[] #[.pointer (some ⟨kb, 0, none⟩), .pointer (some ⟨fb, 0, none⟩)]] 51) = w5 at *
  refine (made_any s k w5 hs2 (by omega) h1 (genF k) enters_gen1 ?_ rfl rfl).mono ?_
  · intro g M i o W hi hM ho hg hB R
    have hf2 := hfl.below hB
    refine (gen_fill (i := i) (hF1.below hB) (by have := hF1.lt; omega) hf2 (by have := hfl.lk; omega) (by have := hfl.lf; omega) ((hB.cell (p := ⟨w.heap.size, 0, none⟩) (by show w.heap.size < _; omega)).trans C0) ((hB.cell (p := ⟨w1.heap.size, 0, none⟩) hpl).trans CP) (by omega) (by omega) (by rw [ho.out, hM.out, ← Nat.succ_mul]; exact Nat.mul_le_mul_right k hi) R rfl).mono ?_
    rintro e w' ⟨rfl, hO, hR⟩
    refine ⟨rfl, hO.turn, hR.congr ?_⟩
    rw [hM.out]
    by_cases hik : i < k
    · rw [if_pos hik]
      refine upR_row (fun t ht hne => if_neg fun e => hne ?_) (fun j hj => ?_)
      · rw [e, ho.out]; exact place_div hik
      · show (if i * k + j = o + i then (1 : UInt8) else pl k (upR (genF k) i) (i * k + j)) = genF k i j
        rw [upR_at hj, ho.out]
        unfold genF
        rw [if_pos hik]
        by_cases e : j = i
        · subst e; rw [if_pos rfl, one_self]
        · rw [if_neg (by omega), one_ne (fun h => e h.symm)]
    · rw [if_neg hik]
      refine upR_row (fun t ht hne => putAt_out (not_in_row ho.out (by omega) hne (Nat.le_refl _))) (fun j hj => ?_)
      rw [ho.out, putAt_in hj]
      unfold genF
      rw [if_neg hik]
  · rintro e w4 ⟨g, M, rfl, hg, hR, b4⟩
    have X4 := X3.below (by omega) b4
    have F4 := F3.below (by omega) b4
    have B4 : Below w.heap.size w w4 := Below.next B1 b4
    have x30 := X4.c0
    have x31 := X4.c1
    have x32 := X4.c2
    have f30 := F4.f0
    have f31 := F4.f1
    have f32 := F4.f2
    go_wp2
    have O1 : Only (w.heap.size + 1) w4 (((w4.setCell ⟨w.heap.size + 1, 0, none⟩ (.int .i64 (s : Int))).setCell ⟨w.heap.size + 1, 1, none⟩ (.int .i64 (k : Int))).setCell ⟨w.heap.size + 1, 2, none⟩ (.slice (some ⟨g, 0, none⟩) M M)) :=
      (((Only.refl _ _).setCell 0 _).setCell 1 _).setCell 2 _
    refine bodyPost_ret (v := .tuple #[.agg #[.int .i64 (s : Int), .int .i64 (k : Int), .slice (some ⟨g, 0, none⟩) M M], .int .i64 0]) (by simp [results, Try.results16, go_sem, x30, x31, x32, f30, f31, f32]) rfl ⟨_, rfl, hR.only (apart_block (by omega)) O1, B4.trans (O1.below (by omega))⟩

set_option maxRecDepth 100000 in
set_option maxHeartbeats 2000000 in
theorem cchk_ok {b : Nat} {w : World} (k m : Nat) (hF : FieldAt w b) (h1 : 1 ≤ k) (h2 : k + m ≤ 256) {x y : Int} (hx : x = (k : Int)) (hy : y = (m : Int)) :
    Calls Try.prog 18 #[.pointer (some ⟨b, 0, none⟩), .int .i64 x, .int .i64 y] w (MakesM w m (k + m) (chkF k)) := by
  subst hx hy
  obtain ⟨s, hs⟩ : ∃ s, Hid (s = k + m) := ⟨_, rfl⟩
  have g1 : (k : Int) + (m : Int) = (s : Int) := by have := hs.out; omega
  have hs2 : s ≤ 256 := by rw [hs.out]; exact h2
  have w0 : IntKind.i64.wrap (s : Int) = (s : Int) := by rw [IntKind.wrap_i64]; omega
  rw [← hs.out]
  go_enter Try.func18, Try.ntmps18
  go_wp2_with fail
  refine (ccf_ok _ (okC_mk h1 h2)).mono ?_
  rintro e w2 ⟨rfl, rfl⟩
  go_wp2_with fail
  refine (prow_make k _ rfl).mono ?_
  rintro e w1 ⟨kb, fb, rfl, hfl, b1⟩
  have C0 : w1.cell? ⟨w.heap.size, 0, none⟩ = some (.int .i64 (k : Int)) := (b1.cell (p := ⟨w.heap.size, 0, none⟩) (by simp <;> omega)).trans (by simp)
  have X3 : Box w1 (w.heap.size + 1) 0 0 (.slice none 0 0) := Below.box b1 (by simp <;> omega) ⟨by simp, by simp, by simp⟩
  have F3 : Free w1 (w.heap.size + 1) := Below.free b1 (by simp <;> omega) ⟨by simp, by simp, by simp⟩
  have B1 : Below w.heap.size w w1 := Below.next (((Below.refl _ _).alloc (Nat.le_refl _) _).alloc (by simp) _) b1
  have hF1 := hF.below B1
  have hs1 : w.heap.size + 1 < w1.heap.size := by have := b1.size; simp at this; omega
  clear b1
  have hA : Below w1.heap.size w1 (w1.alloc (.cells #[.func (.func 46) #[] #[.pointer (some ⟨kb, 0, none⟩), .pointer (some ⟨fb, 0, none⟩)]] 51)) := (Below.refl _ _).alloc (Nat.le_refl _) _
  have CP : (w1.alloc (.cells #[.func (.func 46) #[] #[.pointer (some ⟨kb, 0, none⟩), .pointer (some ⟨fb, 0, none⟩)]] 51)).cell? ⟨w1.heap.size, 0, none⟩ = some (.func (.func 46) #[] #[.pointer (some ⟨kb, 0, none⟩), .pointer (some ⟨fb, 0, none⟩)]) := by simp
  have hpl : w1.heap.size < (w1.alloc (.cells #[.func (.func 46) #[] #[.pointer (some ⟨kb, 0, none⟩), .pointer (some ⟨fb, 0, none⟩)]] 51)).heap.size := by simp
  have C0w := C0
  replace C0 := (hA.cell (p := ⟨w.heap.size, 0, none⟩) (by show w.heap.size < _; omega)).trans C0
  replace X3 := X3.below (by omega) hA
  replace F3 := F3.below (by omega) hA
  replace B1 := Below.next B1 hA
  replace hF1 := hF1.below hA
  replace hfl := hfl.below hA
  clear hA
  go_wp2_with fail
  generalize w1.alloc (.cells #[.func (.func 46) #[] #[.pointer (some ⟨kb, 0, none⟩), .pointer (some ⟨fb, 0, none⟩)]] 51) = w5 at *
  refine (made_any m s w5 (by omega) hs2 (by have := hs.out; omega) (chkF k) enters_chk1 ?_ rfl rfl).mono ?_
  · intro g M i o W hi hM ho hg hB R
    have hf2 := hfl.below hB
    have hso := hs.out
    refine (chk_fill (i := i) (n := s) (hF1.below hB) (by have := hF1.lt; omega) hf2 (by have := hfl.lk; omega) (by have := hfl.lf; omega) ((hB.cell (p := ⟨w.heap.size, 0, none⟩) (by show w.heap.size < _; omega)).trans C0) (by omega) ((hB.cell (p := ⟨w1.heap.size, 0, none⟩) hpl).trans CP) (by omega) hs2 (by rw [ho.out, hM.out, ← Nat.succ_mul]; exact Nat.mul_le_mul_right s hi) R rfl).mono ?_
    rintro e w' ⟨rfl, hO, hR⟩
    refine ⟨rfl, hO.turn, hR.congr ?_⟩
    rw [hM.out]
    have hs0 : 0 < s := by omega
    refine upR_row (fun t ht hne => ?_) (fun j hj => ?_)
    · show (if t = o + (k + i) then (1 : UInt8) else putAt (pl s (upR (chkF k) i)) o k (fun j => parF k i j) t) = _
      rw [if_neg fun e => hne (by rw [e, ho.out]; exact place_div (by omega)), putAt_out (not_in_row ho.out hs0 hne (by omega))]
    · show (if i * s + j = o + (k + i) then (1 : UInt8) else putAt (pl s (upR (chkF k) i)) o k (fun j => parF k i j) (i * s + j)) = chkF k i j
      rw [ho.out]
      unfold chkF
      by_cases hjk : j < k
      · rw [if_neg (by omega), putAt_in hjk, if_pos hjk]
      · rw [if_neg hjk]
        by_cases e : j = k + i
        · subst e; rw [if_pos rfl, Nat.add_sub_cancel_left, one_self]
        · rw [if_neg (by omega), putAt_out (by omega), upR_at hj, one_ne (by omega)]
  · rintro e w4 ⟨g, M, rfl, hg, hR, b4⟩
    have X4 := X3.below (by omega) b4
    have F4 := F3.below (by omega) b4
    have B4 : Below w.heap.size w w4 := Below.next B1 b4
    have x30 := X4.c0
    have x31 := X4.c1
    have x32 := X4.c2
    have f30 := F4.f0
    have f31 := F4.f1
    have f32 := F4.f2
    go_wp2
    have O1 : Only (w.heap.size + 1) w4 (((w4.setCell ⟨w.heap.size + 1, 0, none⟩ (.int .i64 (m : Int))).setCell ⟨w.heap.size + 1, 1, none⟩ (.int .i64 (s : Int))).setCell ⟨w.heap.size + 1, 2, none⟩ (.slice (some ⟨g, 0, none⟩) M M)) :=
      (((Only.refl _ _).setCell 0 _).setCell 1 _).setCell 2 _
    refine bodyPost_ret (v := .tuple #[.agg #[.int .i64 (m : Int), .int .i64 (s : Int), .slice (some ⟨g, 0, none⟩) M M], .int .i64 0]) (by simp [results, Try.results18, go_sem, x30, x31, x32, f30, f31, f32]) rfl ⟨_, rfl, hR.only (apart_block (by omega)) O1, B4.trans (O1.below (by omega))⟩

end Go.Proofs.Ythfimeddfpchpaa.Gf
