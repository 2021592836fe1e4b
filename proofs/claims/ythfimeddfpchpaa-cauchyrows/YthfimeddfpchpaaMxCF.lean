/-
  THE PROGRAM's 'Mul' BY CONTRACT.
-/
import Derived.Test.YthfimeddfpchpaaMxCB
import Derived.Test.YthfimeddfpchpaaMxCE
namespace Go.Proofs.Ythfimeddfpchpaa.Gf
set_option linter.unusedVariables false
set_option linter.unusedSimpArgs false
open Go.RowKit

theorem Free.new2 (w : World) (o o' : Obj) (cs : Array Value) (t : TypeId) : Free (((w.alloc o).alloc o').alloc (.cells cs t)) (w.heap.size + 1 + 1) := by
  have h := Free.new ((w.alloc o).alloc o') cs t
  rwa [World.size_alloc, World.size_alloc] at h

set_option maxRecDepth 100000 in
set_option maxHeartbeats 2000000 in
theorem mmul_nil {va vb : Value} {r c r' c' : Int} {A B : List UInt8} {w : World} (ha : RdM w va r c A) (hb : RdM w vb r' c' B) :
    Calls Try.prog 21 #[.pointer none, va, vb] w (MakesErr w 1) := by
  obtain ⟨vs, rfl, h1⟩ := ha
  obtain ⟨vs', rfl, h2⟩ := hb
  clear h1 h2
  go_enter Try.func21, Try.ntmps21
  go_wp2
  refine bodyPost_ret (v := .tuple #[.agg #[.int .i64 0, .int .i64 0, .slice none 0 0], .int .i64 1]) (by simp [results, Try.results21, go_sem]) rfl ⟨_, rfl, rd_none, ?_⟩
  repeat (first | exact Below.refl _ _ | apply below_lit | refine Below.setCell ?_ (by simp <;> omega) _)

set_option maxRecDepth 100000 in
set_option maxHeartbeats 2000000 in
theorem mmul_bad {b : Nat} {va vb : Value} {r c r' c' : Int} {A B : List UInt8} {w : World} (hF : FieldAt w b) (ha : RdM w va r c A) (hb : RdM w vb r' c' B) (hbad : ¬ (OkM r c A ∧ OkM r' c' B ∧ c = r')) :
    Calls Try.prog 21 #[.pointer (some ⟨b, 0, none⟩), va, vb] w (MakesErr w 30) := by
  obtain ⟨vs, rfl, h1⟩ := ha
  obtain ⟨vs', rfl, h2⟩ := hb
  clear hF
  by_cases k1 : OkM r c A
  · by_cases k2 : OkM r' c' B
    · have k3 : (c != r') = true := by simp; intro e; exact hbad ⟨k1, k2, e⟩
      clear hbad
      go_enter Try.func21, Try.ntmps21
      go_wp2_with fail
      refine (mcheck_ok ⟨vs, rfl, h1.below (by repeat (first | exact Below.refl _ _ | apply below_lit))⟩ k1).mono ?_
      rintro e w2 ⟨rfl, b2⟩
      have X1 : Box w2 w.heap.size r c vs := Below.box b2 (by simp <;> omega) (((Box.new w r c vs _).alloc (by simp) _).alloc (by simp <;> omega) _)
      have X2 : Box w2 (w.heap.size + 1) r' c' vs' := Below.box b2 (by simp <;> omega) ((Box.new1 w _ r' c' vs' 30).alloc (by simp) _)
      have X3 : Box w2 (w.heap.size + 1 + 1) 0 0 (.slice none 0 0) := Below.box b2 (by simp <;> omega) (Box.new2 w _ _ 0 0 (.slice none 0 0) 30)
      have F3 : Free w2 (w.heap.size + 1 + 1) := Below.free b2 (by simp <;> omega) (Free.new2 w _ _ _ 30)
      have B2 : Below w.heap.size w w2 := Below.next (by repeat (first | exact Below.refl _ _ | apply below_lit)) b2
      have s2 : w.heap.size + 1 + 1 < w2.heap.size := by have := b2.size; simp at this; omega
      clear b2
      have x10 := X1.c0
      have x11 := X1.c1
      have x12 := X1.c2
      have x20 := X2.c0
      have x21 := X2.c1
      have x22 := X2.c2
      have x30 := X3.c0
      have x31 := X3.c1
      have x32 := X3.c2
      have f30 := F3.f0
      have f31 := F3.f1
      have f32 := F3.f2
      replace h2 := h2.below B2
      go_wp2_with fail
      refine (mcheck_ok ⟨vs', rfl, h2⟩ k2).mono ?_
      rintro e w3 ⟨rfl, b3⟩
      replace X1 := X1.below (by omega) b3
      replace X2 := X2.below (by omega) b3
      replace X3 := X3.below (by omega) b3
      replace F3 := F3.below (by omega) b3
      replace B2 := Below.next B2 b3
      have s3 := b3.size
      clear b3 x10 x11 x12 x20 x21 x22 x30 x31 x32 f30 f31 f32
      have x10 := X1.c0
      have x11 := X1.c1
      have x12 := X1.c2
      have x20 := X2.c0
      have x21 := X2.c1
      have x22 := X2.c2
      have x30 := X3.c0
      have x31 := X3.c1
      have x32 := X3.c2
      have f30 := F3.f0
      have f31 := F3.f1
      have f32 := F3.f2
      go_wp2
      refine bodyPost_ret (v := .tuple #[.agg #[.int .i64 0, .int .i64 0, .slice none 0 0], .int .i64 30]) (by simp [results, Try.results21, go_sem, X3.c0, X3.c1, X3.c2, F3.f0, F3.f1, F3.f2]) rfl ⟨_, rfl, rd_none, ?_⟩
      exact B2.trans ((((Only.refl _ _).setCell 0 _).setCell 1 _).setCell 2 _ |>.below (by omega))
    · clear hbad
      go_enter Try.func21, Try.ntmps21
      go_wp2_with fail
      refine (mcheck_ok ⟨vs, rfl, h1.below (by repeat (first | exact Below.refl _ _ | apply below_lit))⟩ k1).mono ?_
      rintro e w2 ⟨rfl, b2⟩
      have X1 : Box w2 w.heap.size r c vs := Below.box b2 (by simp <;> omega) (((Box.new w r c vs _).alloc (by simp) _).alloc (by simp <;> omega) _)
      have X2 : Box w2 (w.heap.size + 1) r' c' vs' := Below.box b2 (by simp <;> omega) ((Box.new1 w _ r' c' vs' 30).alloc (by simp) _)
      have X3 : Box w2 (w.heap.size + 1 + 1) 0 0 (.slice none 0 0) := Below.box b2 (by simp <;> omega) (Box.new2 w _ _ 0 0 (.slice none 0 0) 30)
      have F3 : Free w2 (w.heap.size + 1 + 1) := Below.free b2 (by simp <;> omega) (Free.new2 w _ _ _ 30)
      have B2 : Below w.heap.size w w2 := Below.next (by repeat (first | exact Below.refl _ _ | apply below_lit)) b2
      have s2 : w.heap.size + 1 + 1 < w2.heap.size := by have := b2.size; simp at this; omega
      clear b2
      have x10 := X1.c0
      have x11 := X1.c1
      have x12 := X1.c2
      have x20 := X2.c0
      have x21 := X2.c1
      have x22 := X2.c2
      have x30 := X3.c0
      have x31 := X3.c1
      have x32 := X3.c2
      have f30 := F3.f0
      have f31 := F3.f1
      have f32 := F3.f2
      replace h2 := h2.below B2
      go_wp2_with fail
      refine (mcheck_bad ⟨vs', rfl, h2⟩ k2).mono ?_
      rintro e w3 ⟨rfl, b3⟩
      replace X1 := X1.below (by omega) b3
      replace X2 := X2.below (by omega) b3
      replace X3 := X3.below (by omega) b3
      replace F3 := F3.below (by omega) b3
      replace B2 := Below.next B2 b3
      have s3 := b3.size
      clear b3 x10 x11 x12 x20 x21 x22 x30 x31 x32 f30 f31 f32
      have x10 := X1.c0
      have x11 := X1.c1
      have x12 := X1.c2
      have x20 := X2.c0
      have x21 := X2.c1
      have x22 := X2.c2
      have x30 := X3.c0
      have x31 := X3.c1
      have x32 := X3.c2
      have f30 := F3.f0
      have f31 := F3.f1
      have f32 := F3.f2
      go_wp2
      refine bodyPost_ret (v := .tuple #[.agg #[.int .i64 0, .int .i64 0, .slice none 0 0], .int .i64 30]) (by simp [results, Try.results21, go_sem, X3.c0, X3.c1, X3.c2, F3.f0, F3.f1, F3.f2]) rfl ⟨_, rfl, rd_none, ?_⟩
      exact B2.trans ((((Only.refl _ _).setCell 0 _).setCell 1 _).setCell 2 _ |>.below (by omega))
  · clear hbad
    go_enter Try.func21, Try.ntmps21
    go_wp2_with fail
    refine (mcheck_bad ⟨vs, rfl, h1.below (by repeat (first | exact Below.refl _ _ | apply below_lit))⟩ k1).mono ?_
    rintro e w2 ⟨rfl, b2⟩
    have X1 : Box w2 w.heap.size r c vs := Below.box b2 (by simp <;> omega) (((Box.new w r c vs _).alloc (by simp) _).alloc (by simp <;> omega) _)
    have X2 : Box w2 (w.heap.size + 1) r' c' vs' := Below.box b2 (by simp <;> omega) ((Box.new1 w _ r' c' vs' 30).alloc (by simp) _)
    have X3 : Box w2 (w.heap.size + 1 + 1) 0 0 (.slice none 0 0) := Below.box b2 (by simp <;> omega) (Box.new2 w _ _ 0 0 (.slice none 0 0) 30)
    have F3 : Free w2 (w.heap.size + 1 + 1) := Below.free b2 (by simp <;> omega) (Free.new2 w _ _ _ 30)
    have B2 : Below w.heap.size w w2 := Below.next (by repeat (first | exact Below.refl _ _ | apply below_lit)) b2
    have s2 : w.heap.size + 1 + 1 < w2.heap.size := by have := b2.size; simp at this; omega
    clear b2
    have x10 := X1.c0
    have x11 := X1.c1
    have x12 := X1.c2
    have x20 := X2.c0
    have x21 := X2.c1
    have x22 := X2.c2
    have x30 := X3.c0
    have x31 := X3.c1
    have x32 := X3.c2
    have f30 := F3.f0
    have f31 := F3.f1
    have f32 := F3.f2
    go_wp2
    refine bodyPost_ret (v := .tuple #[.agg #[.int .i64 0, .int .i64 0, .slice none 0 0], .int .i64 30]) (by simp [results, Try.results21, go_sem, X3.c0, X3.c1, X3.c2, F3.f0, F3.f1, F3.f2]) rfl ⟨_, rfl, rd_none, ?_⟩
    exact B2.trans ((((Only.refl _ _).setCell 0 _).setCell 1 _).setCell 2 _ |>.below (by omega))

/-- the first k rows of a product, and of the next one the sums of the first l products -/
def prodK (c : Nat) (A B : Mx) (k l : Nat) : Mx := fun i j => if i = k then S l (fun x => mu (A k x) (B x j)) else rowsK (mm c A B) k i j
theorem prodK_zero (c : Nat) (A B : Mx) (k : Nat) : prodK c A B k 0 = rowsK (mm c A B) k := by
  funext i j
  unfold prodK
  by_cases e : i = k
  · subst e; rw [if_pos rfl]; unfold rowsK; rw [if_neg (by omega)]; rfl
  · rw [if_neg e]
theorem prodK_all (c : Nat) (A B : Mx) (k : Nat) : prodK c A B k c = rowsK (mm c A B) (k + 1) := by
  funext i j
  unfold prodK rowsK
  by_cases e : i = k
  · subst e; rw [if_pos rfl, if_pos (by omega)]; rfl
  · rw [if_neg e]
    by_cases h : i < k
    · rw [if_pos h, if_pos (by omega)]
    · rw [if_neg h, if_neg (by omega)]
theorem prodK_step {r c c' k l : Nat} {A B : Mx} {q : Nat → UInt8} (hq : ∀ j, j < c' → q j = B l j) : ∀ t, t < r * c' → putAt (pl c' (prodK c A B k l)) (k * c') c' (plus (pl c' (prodK c A B k l)) (k * c') q (A k l)) t = pl c' (prodK c A B k (l + 1)) t := by
  intro t ht
  rw [pl_put _ _ t ht]
  refine pl_congr (r := r) (fun i j _ hj => ?_) t ht
  show (if i = k then plus (pl c' (prodK c A B k l)) (k * c') q (A k l) j else prodK c A B k l i j) = prodK c A B k (l + 1) i j
  by_cases e : i = k
  · subst e
    rw [if_pos rfl]
    unfold plus
    rw [pl_at _ hj, hq j hj]
    unfold prodK
    rw [if_pos rfl, if_pos rfl, mu_comm]
    rfl
  · rw [if_neg e]
    unfold prodK
    rw [if_neg e, if_neg e]

set_option maxRecDepth 100000 in
set_option maxHeartbeats 4000000 in
theorem mmul_ok {b : Nat} {va vb : Value} {r c c' : Nat} {A B : List UInt8} {w : World} (hF : FieldAt w b) (ha : RdM w va r c A) (hb : RdM w vb c c' B) (k1 : OkM r c A) (k2 : OkM c c' B) :
    Calls Try.prog 21 #[.pointer (some ⟨b, 0, none⟩), va, vb] w (MakesM w r c' (mm c (en c A) (en c' B))) := by
  obtain ⟨vs, rfl, h1⟩ := ha
  obtain ⟨vs', rfl, h2⟩ := hb
  have h2' := h2
  have hr2 : r ≤ 256 := by have := k1.2.1; omega
  have hc2 : c ≤ 256 := by have := k1.2.2.2.1; omega
  have hd2 : c' ≤ 256 := by have := k2.2.2.2.1; omega
  go_enter Try.func21, Try.ntmps21
  go_wp2_with fail
  refine (mcheck_ok ⟨vs, rfl, h1.below (by repeat (first | exact Below.refl _ _ | apply below_lit))⟩ k1).mono ?_
  rintro e w2 ⟨rfl, b2⟩
  have X1 : Box w2 w.heap.size r c vs := Below.box b2 (by simp <;> omega) (((Box.new w r c vs _).alloc (by simp) _).alloc (by simp <;> omega) _)
  have X2 : Box w2 (w.heap.size + 1) c c' vs' := Below.box b2 (by simp <;> omega) ((Box.new1 w _ c c' vs' 30).alloc (by simp) _)
  have X3 : Box w2 (w.heap.size + 1 + 1) 0 0 (.slice none 0 0) := Below.box b2 (by simp <;> omega) (Box.new2 w _ _ 0 0 (.slice none 0 0) 30)
  have F3 : Free w2 (w.heap.size + 1 + 1) := Below.free b2 (by simp <;> omega) (Free.new2 w _ _ _ 30)
  have B2 : Below w.heap.size w w2 := Below.next (by repeat (first | exact Below.refl _ _ | apply below_lit)) b2
  have s2 : w.heap.size + 1 + 1 < w2.heap.size := by have := b2.size; simp at this; omega
  clear b2
  have x10 := X1.c0
  have x11 := X1.c1
  have x12 := X1.c2
  have x20 := X2.c0
  have x21 := X2.c1
  have x22 := X2.c2
  have x30 := X3.c0
  have x31 := X3.c1
  have x32 := X3.c2
  have f30 := F3.f0
  have f31 := F3.f1
  have f32 := F3.f2
  replace h2 := h2.below B2
  go_wp2_with fail
  refine (mcheck_ok ⟨vs', rfl, h2⟩ k2).mono ?_
  rintro e w3 ⟨rfl, b3⟩
  replace X1 := X1.below (by omega) b3
  replace X2 := X2.below (by omega) b3
  replace X3 := X3.below (by omega) b3
  replace F3 := F3.below (by omega) b3
  replace B2 := Below.next B2 b3
  have s3 := b3.size
  clear b3 x10 x11 x12 x20 x21 x22 x30 x31 x32 f30 f31 f32
  have x10 := X1.c0
  have x11 := X1.c1
  have x20 := X2.c0
  have x21 := X2.c1
  go_wp2_with fail
  refine (nought_any r c' _ hr2 (by omega) rfl rfl).mono ?_
  rintro e w1 ⟨g, m, hm, rfl, hg, R1, b1⟩
  have hlt := R1.lt
  have hap : Apart g vs := h1.apart (by omega)
  have hap' : Apart g vs' := h2'.apart (by omega)
  have hbg : b ≠ g := by have := hF.lt; omega
  replace X1 := X1.below (by omega) b1
  replace X2 := X2.below (by omega) b1
  replace X3 := X3.below (by omega) b1
  replace F3 := F3.below (by omega) b1
  replace B2 := Below.next B2 b1
  have hA : Below w1.heap.size w1 (w1.alloc (.cells #[.int .i64 (r : Int), .int .i64 (c' : Int), .slice (some ⟨g, 0, none⟩) m m] 30)) := (Below.refl _ _).alloc (Nat.le_refl _) _
  have P1 := Box.new w1 (r : Int) (c' : Int) (.slice (some ⟨g, 0, none⟩) m m) 30
  have hs1 : w3.heap.size ≤ w1.heap.size := b1.size
  replace R1 := (R1.base (show w.heap.size ≤ w3.heap.size by omega)).later hA
  replace X1 := X1.below (by omega) hA
  replace X2 := X2.below (by omega) hA
  replace X3 := X3.below (by omega) hA
  replace F3 := F3.below (by omega) hA
  replace B2 := Below.next B2 hA
  have hms : w1.heap.size < (w1.alloc (.cells #[.int .i64 (r : Int), .int .i64 (c' : Int), .slice (some ⟨g, 0, none⟩) m m] 30)).heap.size := by simp
  have hmg : w1.heap.size ≠ g := by omega
  clear hA b1 x10 x11 x20 x21
  have x10 := X1.c0
  go_wp2
  generalize w1.alloc (.cells #[.int .i64 (r : Int), .int .i64 (c' : Int), .slice (some ⟨g, 0, none⟩) m m] 30) = w4 at *
  have hmm : m ≤ 256 * 256 := by rw [hm.out]; exact Nat.mul_le_mul hr2 hd2
  have hA4 := h1.below B2
  have hB4 := h2'.below B2
  have hF4 := hF.below B2
  clear h1 h2 h2' hF x10
  go_loopw [38] (fun i wr => ∃ k : Nat, k ≤ r ∧ i = .int .i64 k ∧ Turn g w4 wr ∧ RowF wr w.heap.size 5 g m m (pl c' (rowsK (mm c (en c A) (en c' B)) k))) (fun i _ => r - (intOf i).toNat)
  case atStart => exact ⟨0, by omega, rfl, Turn.refl _ _, R1.congr (fun t _ => (rowsK_zero _ _ t).symm)⟩
  case round =>
    obtain ⟨k, hk, rfl, hT, hRk⟩ := hrel
    clear R1
    have hs4 := hT.size
    by_cases hlt2 : k < r
    · have hlt2' : (k : Int) < (r : Int) := by omega
      have Y1 := X1.turn (by omega) (by omega) hT
      have y10 := Y1.c0
      have y11 := Y1.c1
      have y12 := Y1.c2
      go_wp2_with fail
      refine (row_rd rfl (hA4.turn hap hT) k1 hlt2).mono ?_
      rintro e v1 ⟨av, cv, rfl, hrv, hapv, bv1⟩
      replace hapv := hapv g hap
      have T1 : Turn g w4 v1 := hT.trans (Below.turn bv1 g)
      have R1 : RowF v1 w.heap.size 5 g m m (pl c' (prodK c (en c A) (en c' B) k 0)) := by rw [prodK_zero]; exact hRk.later bv1
      clear hT hRk bv1 y10 y11 y12 Y1
      go_wp2
      go_loopw [45] (fun i w5 => ∃ l : Nat, l ≤ c ∧ i = .int .i64 l ∧ Turn g v1 w5 ∧ RowF w5 w.heap.size 5 g m m (pl c' (prodK c (en c A) (en c' B) k l))) (fun i _ => c - (intOf i).toNat)
      case atStart => exact ⟨0, by omega, rfl, Turn.refl _ _, R1⟩
      case round =>
        obtain ⟨l, hl, rfl, hT5, hR5⟩ := hrel
        clear R1
        have hT6 := T1.trans hT5
        have hs5 := hT6.size
        by_cases hl2 : l < c
        · have hl2' : (l : Int) < (c : Int) := by omega
          have hrv2 := hrv.turn hapv hT5
          rcases hrv2 with ⟨a0, c0, e1, e2, _⟩ | ⟨bz, oz, c0, hz0', e2, hz1', hz2', hz3, hzc⟩
          · have := upto_length (fun j => en c A k j) c
            rw [e1] at this; simp at this; omega
          · rw [upto_length] at e2 hzc hz1'
            simp at e2
            obtain ⟨rfl, rfl⟩ := e2
            have cz1 := hzc l hl2
            rw [co_upto_lt hl2] at cz1
            clear hzc hz0'
            obtain ⟨o, ho⟩ : ∃ o, Hid (o = k * c') := ⟨_, rfl⟩
            have hom : o + c' ≤ m := by rw [ho.out, hm.out, ← Nat.succ_mul]; exact Nat.mul_le_mul_right c' hlt2
            have h2 := hB4.turn hap' hT6
            have hF6 := hF4.turn hbg hT6
            have hrowP : ∀ W, Below wr.heap.size wr W → Calls Try.prog 38 #[.agg #[.int .i64 (r : Int), .int .i64 (c' : Int), .slice (some ⟨g, 0, none⟩) m m], .int .i64 (k : Int)] W fun e w' => e = .returned (.slice (some ⟨g, o, none⟩) c' (m - o)) ∧ Below wr.heap.size wr w' := by
              intro W hW
              rw [ho.out]
              exact (row_own rfl hlt2 hm hr2 (by omega)).mono fun e w' he => ⟨he.1, Below.next hW he.2⟩
            have hrowB : ∀ W, Below wr.heap.size wr W → Calls Try.prog 38 #[.agg #[.int .i64 (c : Int), .int .i64 (c' : Int), vs'], .int .i64 (l : Int)] W fun e w' => ∃ a cap, e = .returned (.slice a c' cap) ∧ Rd w' (.slice a c' cap) (upto (fun j => en c' B l j) c') ∧ Apart g (.slice a c' cap) ∧ Below wr.heap.size wr w' := by
              intro W hW
              refine (row_rd rfl (h2.below hW) k2 hl2).mono ?_
              rintro e w' ⟨a, cap, he, hr, hap2, hb⟩
              exact ⟨a, cap, he, hr, hap2 g hap', Below.next hW hb⟩
            have P1 := P1.turn hms hmg hT6
            have P2 := X2.turn (by omega) (by omega) hT6
            have Q1 := P1
            have Q2 := P2
            have l1 : w1.heap.size < wr.heap.size := by omega
            have l2 : w.heap.size + 1 < wr.heap.size := by omega
            have n2 : w.heap.size + 1 ≠ g := by omega
            go_wp2
            go_region_held3 (fun wx => (wx.cell? ⟨w1.heap.size, 0, none⟩ = some (.int .i64 (r : Int)) ∧ wx.cell? ⟨w1.heap.size, 1, none⟩ = some (.int .i64 (c' : Int)) ∧ wx.cell? ⟨w1.heap.size, 2, none⟩ = some (.slice (some ⟨g, 0, none⟩) m m)) ∧ (wx.cell? ⟨w.heap.size + 1, 0, none⟩ = some (.int .i64 (c : Int)) ∧ wx.cell? ⟨w.heap.size + 1, 1, none⟩ = some (.int .i64 (c' : Int)) ∧ wx.cell? ⟨w.heap.size + 1, 2, none⟩ = some vs')) (first | exact ⟨Box.and P1, Box.and P2⟩ | exact ⟨Box.and P1.drew, Box.and P2.drew⟩ | exact ⟨Box.and (P1.only hmg O3), Box.and (P2.only n2 O3)⟩) (first | (go_at_call_of 38 (Value.slice (some ⟨g, 0, none⟩) m m); refine (hrowP _ (by first | assumption | exact (Below.refl _ _).drew)).mono ?_; rintro e v2 ⟨rfl, bv1⟩; replace P1 := Q1.below l1 bv1; replace P2 := Q2.below l2 bv1) | (go_at_call_of 38 vs'; refine (hrowB _ (by first | assumption | exact (Below.refl _ _).drew)).mono ?_; rintro e v3 ⟨a, cap, rfl, hrb, hapb, bv2⟩; replace P1 := Q1.below l1 bv2; replace P2 := Q2.below l2 bv2) | (go_at_call 39; refine (addt_apart (en c A k l) rfl (hF6.below bv2) hbg (hR5.later bv2) hrb hapb (upto_length _ _) hom (by omega)).mono ?_; rintro e v4 ⟨rfl, O3, R3⟩))
            have T3 : Hid (Turn g v1 v4) := hT5.trans ((Below.turn bv2 g).trans O3.turn)
            have R4 : Hid (RowF v4 w.heap.size 5 g m m (pl c' (prodK c (en c A) (en c' B) k (l + 1)))) := R3.congr (fun t ht => by
              rw [ho.out]
              exact prodK_step (r := r) (fun j hj => co_upto_lt hj) t (by rw [← hm.out]; exact ht))
            clear hR5 hT5 hT6 R3 O3 bv2 bv1 hrowP hrowB Q1 Q2 h2 P1 P2 hrb hapb hF6
            go_wp2
            go_roundw
            case rel => exact ⟨l + 1, by omega, by go_num, T3.out, R4.out⟩
            case measure => simp [intOf]; omega
        · have e : l = c := by omega
          have R4 : Hid (RowF wr w.heap.size 5 g m m (pl c' (rowsK (mm c (en c A) (en c' B)) (k + 1)))) := by rw [← prodK_all, ← e]; subst e; exact hR5
          have hge : ¬ (l : Int) < (c : Int) := by omega
          clear hR5 e
          go_wp2
          go_roundw
          case rel => exact ⟨k + 1, by omega, by go_num, hT6, R4.out⟩
          case measure => simp [intOf]; omega
    · have e : k = r := by omega
      subst e
      have R4 : Rd wr (.slice (some ⟨g, 0, none⟩) m m) (flat k c' (mm c (en c A) (en c' B))) := by
        have := (hRk.congr (f' := pl c' (mm c (en c A) (en c' B))) (fun t ht => rowsK_all t (by rw [← hm.out]; exact ht))).rd
        rw [← pl_flat, ← hm.out]
        exact this
      have X4 := X3.turn (by omega) (by omega) hT
      have F4 := F3.turn (by omega) (by omega) hT
      have P4 := P1.turn hms hmg hT
      have x30 := X4.c0
      have x31 := X4.c1
      have x32 := X4.c2
      have f30 := F4.f0
      have f31 := F4.f1
      have f32 := F4.f2
      have y0 := P4.c0
      have y1 := P4.c1
      have y2 := P4.c2
      clear hRk
      go_wp2
      have O1 : Only (w.heap.size + 1 + 1) wr (((wr.setCell ⟨w.heap.size + 1 + 1, 0, none⟩ (.int .i64 (k : Int))).setCell ⟨w.heap.size + 1 + 1, 1, none⟩ (.int .i64 (c' : Int))).setCell ⟨w.heap.size + 1 + 1, 2, none⟩ (.slice (some ⟨g, 0, none⟩) m m)) :=
        (((Only.refl _ _).setCell 0 _).setCell 1 _).setCell 2 _
      exact bodyPost_ret (v := .tuple #[.agg #[.int .i64 (k : Int), .int .i64 (c' : Int), .slice (some ⟨g, 0, none⟩) m m], .int .i64 0]) (by simp [results, Try.results21, go_sem, x30, x31, x32, f30, f31, f32]) rfl ⟨_, rfl, R4.only (apart_block (by omega)) O1, (B2.trans (hT.below (by omega) (by omega))).trans (O1.below (by omega))⟩

end Go.Proofs.Ythfimeddfpchpaa.Gf
