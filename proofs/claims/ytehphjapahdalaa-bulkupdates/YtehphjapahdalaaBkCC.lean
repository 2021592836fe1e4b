/-
  THE PROGRAM's 'checked' BY CONTRACT.
-/
import Derived.Test.YtehphjapahdalaaBkCB
import Derived.Test.YtehphjapahdalaaBkOne
import Derived.Test.YtehphjapahdalaaBkEq
namespace Go.Proofs.Ytehphjapahdalaa.Gf
set_option linter.unusedVariables false
set_option linter.unusedSimpArgs false
open Go.RowKit

set_option maxRecDepth 100000 in
set_option maxHeartbeats 1000000 in
theorem chkd_bad {b : Nat} {k m many : Int} {v vo : Value} {w : World} (hF : FieldAt w b) (h : ¬ OkC k m) : Calls Try.prog 24 #[.pointer (some ⟨b, 0, none⟩), .int .i64 k, .int .i64 m, .int .i64 many, v, vo] w (MakesErr w 50) := by
  go_enter Try.func24, Try.ntmps24
  have A0 : Below w.heap.size w (w.alloc (.cells #[.int .i64 0, .int .i64 0, .slice none 0 0] 52)) := (Below.refl _ _).alloc (Nat.le_refl _) _
  go_wp2_with fail
  refine (cpar_bad (hF.below A0) h).mono ?_
  rintro e w2 ⟨vs, rfl, hR, b2⟩
  have X3 : Box w2 w.heap.size 0 0 (.slice none 0 0) := Below.box b2 (by simp <;> omega) (Box.new w 0 0 (.slice none 0 0) 52)
  have F3 : Free w2 w.heap.size := Below.free b2 (by simp <;> omega) (Free.new w #[.int .i64 0, .int .i64 0, .slice none 0 0] 52)
  have hs2 : w.heap.size < w2.heap.size := by have := b2.size; simp at this; omega
  have B2 : Below w.heap.size w w2 := Below.next A0 b2
  obtain ⟨va, vc, rfl⟩ := hR.form
  clear h hF A0 b2 hR
  have x30 := X3.c0
  have x31 := X3.c1
  have x32 := X3.c2
  have f30 := F3.f0
  have f31 := F3.f1
  have f32 := F3.f2
  go_wp2
  refine bodyPost_ret (v := .tuple #[.agg #[.int .i64 0, .int .i64 0, .slice none 0 0], .int .i64 50]) (by simp [results, Try.results24, go_sem, x30, x31, x32, f30, f31, f32, hs2]) rfl ⟨_, rfl, rd_none, by repeat (first | exact B2 | exact Below.refl _ _ | apply below_lit | refine Below.setCell ?_ (by first | omega | exact Nat.le_refl _) _)⟩

/-- the shards are as many as there should be, and of one length -/
def OkS (A B : List (List UInt8)) (many : Int) : Prop := (A.length : Int) = many ∧ Even (A ++ B)

set_option maxRecDepth 100000 in
set_option maxHeartbeats 1000000 in
theorem chkd_shard {b : Nat} {k m : Nat} {many : Int} {v vo : Value} {A B : List (List UInt8)} {w : World} (hF : FieldAt w b) (h1 : 1 ≤ k) (h2 : k + m ≤ 256) (hA : Rs w v A) (hB : Rs w vo B) (h : ¬ OkS A B many) {x y : Int} (hx : x = (k : Int)) (hy : y = (m : Int)) :
    Calls Try.prog 24 #[.pointer (some ⟨b, 0, none⟩), .int .i64 x, .int .i64 y, .int .i64 many, v, vo] w (MakesErr w 60) := by
  subst hx hy
  obtain ⟨a1, c1, rfl⟩ := hA.form
  obtain ⟨a2, c2, rfl⟩ := hB.form
  go_enter Try.func24, Try.ntmps24
  have A0 : Below w.heap.size w (w.alloc (.cells #[.int .i64 0, .int .i64 0, .slice none 0 0] 52)) := (Below.refl _ _).alloc (Nat.le_refl _) _
  go_wp2_with fail
  refine (cpar_ok k m (hF.below A0) h1 h2 rfl rfl).mono ?_
  rintro e w2 ⟨vs, rfl, hR, b2⟩
  have X3 : Box w2 w.heap.size 0 0 (.slice none 0 0) := Below.box b2 (by simp <;> omega) (Box.new w 0 0 (.slice none 0 0) 52)
  have F3 : Free w2 w.heap.size := Below.free b2 (by simp <;> omega) (Free.new w #[.int .i64 0, .int .i64 0, .slice none 0 0] 52)
  have hs2 : w.heap.size < w2.heap.size := by have := b2.size; simp at this; omega
  have B2 : Below w.heap.size w w2 := Below.next A0 b2
  have hA2 := hA.below B2
  have hB2 := hB.below B2
  obtain ⟨va, vc, rfl⟩ := hR.form
  clear hF A0 b2 hR hA hB
  have x30 := X3.c0
  have x31 := X3.c1
  have x32 := X3.c2
  have f30 := F3.f0
  have f31 := F3.f1
  have f32 := F3.f2
  by_cases hm : (A.length : Int) = many
  · have hE : Hid (decide (Even (A ++ B)) = false) := decide_eq_false fun he => h ⟨hm, he⟩
    have hb : ((A.length : Int) != many) = false := by simp [hm]
    have hm' : Hid _ := hm
    clear h hm
    go_wp2_with fail
    refine (one_any (A := A) (B := B) (hA2.below (by repeat (first | exact Below.refl _ _ | apply below_lit))) (hB2.below (by repeat (first | exact Below.refl _ _ | apply below_lit))) (by simp) (by simp)).mono ?_
    rintro e w3 ⟨rfl, rfl⟩
    rw [hE.out]
    clear hA2 hB2
    go_wp2
    refine bodyPost_ret (v := .tuple #[.agg #[.int .i64 0, .int .i64 0, .slice none 0 0], .int .i64 60]) (by simp [results, Try.results24, go_sem, x30, x31, x32, f30, f31, f32, hs2]) rfl ⟨_, rfl, rd_none, by repeat (first | exact B2 | exact Below.refl _ _ | apply below_lit | refine Below.setCell ?_ (by first | omega | exact Nat.le_refl _) _)⟩
  · have hb : ((A.length : Int) != many) = true := by simp [hm]
    clear h hm hA2 hB2
    go_wp2
    refine bodyPost_ret (v := .tuple #[.agg #[.int .i64 0, .int .i64 0, .slice none 0 0], .int .i64 60]) (by simp [results, Try.results24, go_sem, x30, x31, x32, f30, f31, f32, hs2]) rfl ⟨_, rfl, rd_none, by repeat (first | exact B2 | exact Below.refl _ _ | apply below_lit | refine Below.setCell ?_ (by first | omega | exact Nat.le_refl _) _)⟩

set_option maxRecDepth 100000 in
set_option maxHeartbeats 1000000 in
theorem chkd_ok {b : Nat} {k m : Nat} {many : Int} {v vo : Value} {A B : List (List UInt8)} {w : World} (hF : FieldAt w b) (h1 : 1 ≤ k) (h2 : k + m ≤ 256) (hA : Rs w v A) (hB : Rs w vo B) (h : OkS A B many) {x y : Int} (hx : x = (k : Int)) (hy : y = (m : Int)) :
    Calls Try.prog 24 #[.pointer (some ⟨b, 0, none⟩), .int .i64 x, .int .i64 y, .int .i64 many, v, vo] w (MakesM w m k (parF k)) := by
  subst hx hy
  obtain ⟨a1, c1, rfl⟩ := hA.form
  obtain ⟨a2, c2, rfl⟩ := hB.form
  go_enter Try.func24, Try.ntmps24
  have A0 : Below w.heap.size w (w.alloc (.cells #[.int .i64 0, .int .i64 0, .slice none 0 0] 52)) := (Below.refl _ _).alloc (Nat.le_refl _) _
  go_wp2_with fail
  refine (cpar_at k m (hF.below A0) h1 h2 rfl rfl).mono ?_
  rintro e w2 ⟨g, M, rfl, hg, hR, b2⟩
  simp at hg
  have X3 : Box w2 w.heap.size 0 0 (.slice none 0 0) := Below.box b2 (by simp <;> omega) (Box.new w 0 0 (.slice none 0 0) 52)
  have F3 : Free w2 w.heap.size := Below.free b2 (by simp <;> omega) (Free.new w #[.int .i64 0, .int .i64 0, .slice none 0 0] 52)
  have hs2 : w.heap.size < w2.heap.size := by have := b2.size; simp at this; omega
  have B2 : Below w.heap.size w w2 := Below.next A0 b2
  have hA2 := hA.below B2
  have hB2 := hB.below B2
  clear hF A0 b2 hA hB
  have x30 := X3.c0
  have x31 := X3.c1
  have x32 := X3.c2
  have f30 := F3.f0
  have f31 := F3.f1
  have f32 := F3.f2
  have hE : Hid (decide (Even (A ++ B)) = true) := decide_eq_true h.2
  have hb : ((A.length : Int) != many) = false := by simp [h.1]
  clear h
  go_wp2_with fail
  refine (one_any (A := A) (B := B) (hA2.below (by repeat (first | exact Below.refl _ _ | apply below_lit))) (hB2.below (by repeat (first | exact Below.refl _ _ | apply below_lit))) (by simp) (by simp)).mono ?_
  rintro e w3 ⟨rfl, rfl⟩
  rw [hE.out]
  clear hA2 hB2
  go_wp2
  have O1 : Only w.heap.size w2 (((w2.setCell ⟨w.heap.size, 0, none⟩ (.int .i64 (m : Int))).setCell ⟨w.heap.size, 1, none⟩ (.int .i64 (k : Int))).setCell ⟨w.heap.size, 2, none⟩ (.slice (some ⟨g, 0, none⟩) M M)) :=
    (((Only.refl _ _).setCell 0 _).setCell 1 _).setCell 2 _
  have R2 := hR.only (apart_block (g := w.heap.size) (by omega)) O1
  have B3 := B2.trans (O1.below (Nat.le_refl _))
  have s3 := O1.size
  refine bodyPost_ret (v := .tuple #[.agg #[.int .i64 (m : Int), .int .i64 (k : Int), .slice (some ⟨g, 0, none⟩) M M], .int .i64 0]) (by simp [results, Try.results24, go_sem, x30, x31, x32, f30, f31, f32, hs2]) rfl ⟨_, rfl, R2.below (by repeat (first | exact Below.refl _ _ | apply below_lit)), by repeat (first | exact B3 | apply below_lit)⟩

end Go.Proofs.Ytehphjapahdalaa.Gf
