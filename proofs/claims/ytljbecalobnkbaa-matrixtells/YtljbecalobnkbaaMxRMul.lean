/-
  THE DOCUMENT's ANSWER FOR LAYER 3 (package aumbryref03) BY CONTRACT: 'Mul'.
-/
import Derived.Test.YtljbecalobnkbaaMxRCheck
import Derived.Test.YtljbecalobnkbaaGfRefMul
import Derived.BigQuiet
import Derived.Deep.RegionWith
import Derived.Deep.OwnRows
import Derived.Deep.CutRange
namespace Go.Proofs.Ytljbecalobnkbaa.Gf
set_option linter.unusedVariables false
set_option linter.unusedSimpArgs false
open Go.RowKit

theorem rmu3_at {w : World} (a b : UInt8) {x y : Int} (hx : x = ((a.toNat : Nat) : Int)) (hy : y = ((b.toNat : Nat) : Int)) :
    Calls Try.prog 28 #[.int .u8 x, .int .u8 y] w fun e w' => e = .returned (.int .u8 ((mu a b).toNat : Nat)) ∧ w' = w := by
  rw [mu_toNat]
  exact rmul_at a.toNat b.toNat hx hy (u8_lt a) (u8_lt b)

set_option maxRecDepth 100000 in
set_option maxHeartbeats 2000000 in
theorem rmulm_bad {va vb : Value} {r c r' c' : Int} {A B : List UInt8} {w : World} (ha : RdM w va r c A) (hb : RdM w vb r' c' B) (hbad : ¬ (OkM r c A ∧ OkM r' c' B ∧ c = r')) :
    Calls Try.prog 13 #[va, vb] w (MakesErr w 30) := by
  obtain ⟨vs, rfl, h1⟩ := ha
  obtain ⟨vs', rfl, h2⟩ := hb
  by_cases k1 : OkM r c A
  · by_cases k2 : OkM r' c' B
    · have k3 : (c != r') = true := by simp; intro e; exact hbad ⟨k1, k2, e⟩
      clear hbad
      go_enter Try.func13, Try.ntmps13
      go_wp2_with fail
      refine (rcheck_ok ⟨vs, rfl, h1.below (by repeat (first | exact Below.refl _ _ | apply below_lit))⟩ k1).mono ?_
      rintro e w2 ⟨rfl, b2⟩
      have X1 : Box w2 w.heap.size r c vs := Below.box b2 (by simp <;> omega) (((Box.new w r c vs _).alloc (by simp) _).alloc (by simp <;> omega) _)
      have X2 : Box w2 (w.heap.size + 1) r' c' vs' := Below.box b2 (by simp <;> omega) (by have h := (Box.new (w.alloc (.cells #[.int .i64 r, .int .i64 c, vs] 25)) r' c' vs' 25).alloc (by simp) (.cells #[.int .i64 0, .int .i64 0, .slice none 0 0] 25); rwa [World.size_alloc] at h)
      have X3 : Box w2 (w.heap.size + 1 + 1) 0 0 (.slice none 0 0) := Below.box b2 (by simp <;> omega) (by have h := Box.new ((w.alloc (.cells #[.int .i64 r, .int .i64 c, vs] 25)).alloc (.cells #[.int .i64 r', .int .i64 c', vs'] 25)) 0 0 (.slice none 0 0) 25; rwa [World.size_alloc, World.size_alloc] at h)
      have F3 : Free w2 (w.heap.size + 1 + 1) := Below.free b2 (by simp <;> omega) (by have h := Free.new ((w.alloc (.cells #[.int .i64 r, .int .i64 c, vs] 25)).alloc (.cells #[.int .i64 r', .int .i64 c', vs'] 25)) #[.int .i64 0, .int .i64 0, .slice none 0 0] 25; rwa [World.size_alloc, World.size_alloc] at h)
      have B2 : Below w.heap.size w w2 := Below.next (by repeat (first | exact Below.refl _ _ | apply below_lit)) b2
      have s2 : w.heap.size + 1 + 1 < w2.heap.size := by have := b2.size; simp at this; omega
      clear b2
      have x10 := X1.c0
      have x11 := X1.c1
      have x12 := X1.c2
      have x20 := X2.c0
      have x21 := X2.c1
      have x22 := X2.c2
      have x30 := X3.c0
      have x31 := X3.c1
      have x32 := X3.c2
      have f30 := F3.f0
      have f31 := F3.f1
      have f32 := F3.f2
      replace h2 := h2.below B2
      go_wp2_with fail
      refine (rcheck_ok ⟨vs', rfl, h2⟩ k2).mono ?_
      rintro e w3 ⟨rfl, b3⟩
      replace X1 := X1.below (by omega) b3
      replace X2 := X2.below (by omega) b3
      replace X3 := X3.below (by omega) b3
      replace F3 := F3.below (by omega) b3
      replace B2 := Below.next B2 b3
      have s3 := b3.size
      clear b3 x10 x11 x12 x20 x21 x22 x30 x31 x32 f30 f31 f32
      have x10 := X1.c0
      have x11 := X1.c1
      have x12 := X1.c2
      have x20 := X2.c0
      have x21 := X2.c1
      have x22 := X2.c2
      have x30 := X3.c0
      have x31 := X3.c1
      have x32 := X3.c2
      have f30 := F3.f0
      have f31 := F3.f1
      have f32 := F3.f2
      go_wp2
      refine bodyPost_ret (v := .tuple #[.agg #[.int .i64 0, .int .i64 0, .slice none 0 0], .int .i64 30]) (by simp [results, Try.results13, go_sem, X3.c0, X3.c1, X3.c2, F3.f0, F3.f1, F3.f2]) rfl ⟨_, rfl, rd_none, ?_⟩
      exact B2.trans ((((Only.refl _ _).setCell 0 _).setCell 1 _).setCell 2 _ |>.below (by omega))
    · clear hbad
      go_enter Try.func13, Try.ntmps13
      go_wp2_with fail
      refine (rcheck_ok ⟨vs, rfl, h1.below (by repeat (first | exact Below.refl _ _ | apply below_lit))⟩ k1).mono ?_
      rintro e w2 ⟨rfl, b2⟩
      have X1 : Box w2 w.heap.size r c vs := Below.box b2 (by simp <;> omega) (((Box.new w r c vs _).alloc (by simp) _).alloc (by simp <;> omega) _)
      have X2 : Box w2 (w.heap.size + 1) r' c' vs' := Below.box b2 (by simp <;> omega) (by have h := (Box.new (w.alloc (.cells #[.int .i64 r, .int .i64 c, vs] 25)) r' c' vs' 25).alloc (by simp) (.cells #[.int .i64 0, .int .i64 0, .slice none 0 0] 25); rwa [World.size_alloc] at h)
      have X3 : Box w2 (w.heap.size + 1 + 1) 0 0 (.slice none 0 0) := Below.box b2 (by simp <;> omega) (by have h := Box.new ((w.alloc (.cells #[.int .i64 r, .int .i64 c, vs] 25)).alloc (.cells #[.int .i64 r', .int .i64 c', vs'] 25)) 0 0 (.slice none 0 0) 25; rwa [World.size_alloc, World.size_alloc] at h)
      have F3 : Free w2 (w.heap.size + 1 + 1) := Below.free b2 (by simp <;> omega) (by have h := Free.new ((w.alloc (.cells #[.int .i64 r, .int .i64 c, vs] 25)).alloc (.cells #[.int .i64 r', .int .i64 c', vs'] 25)) #[.int .i64 0, .int .i64 0, .slice none 0 0] 25; rwa [World.size_alloc, World.size_alloc] at h)
      have B2 : Below w.heap.size w w2 := Below.next (by repeat (first | exact Below.refl _ _ | apply below_lit)) b2
      have s2 : w.heap.size + 1 + 1 < w2.heap.size := by have := b2.size; simp at this; omega
      clear b2
      have x10 := X1.c0
      have x11 := X1.c1
      have x12 := X1.c2
      have x20 := X2.c0
      have x21 := X2.c1
      have x22 := X2.c2
      have x30 := X3.c0
      have x31 := X3.c1
      have x32 := X3.c2
      have f30 := F3.f0
      have f31 := F3.f1
      have f32 := F3.f2
      replace h2 := h2.below B2
      go_wp2_with fail
      refine (rcheck_bad ⟨vs', rfl, h2⟩ k2).mono ?_
      rintro e w3 ⟨rfl, b3⟩
      replace X1 := X1.below (by omega) b3
      replace X2 := X2.below (by omega) b3
      replace X3 := X3.below (by omega) b3
      replace F3 := F3.below (by omega) b3
      replace B2 := Below.next B2 b3
      have s3 := b3.size
      clear b3 x10 x11 x12 x20 x21 x22 x30 x31 x32 f30 f31 f32
      have x10 := X1.c0
      have x11 := X1.c1
      have x12 := X1.c2
      have x20 := X2.c0
      have x21 := X2.c1
      have x22 := X2.c2
      have x30 := X3.c0
      have x31 := X3.c1
      have x32 := X3.c2
      have f30 := F3.f0
      have f31 := F3.f1
      have f32 := F3.f2
      go_wp2
      refine bodyPost_ret (v := .tuple #[.agg #[.int .i64 0, .int .i64 0, .slice none 0 0], .int .i64 30]) (by simp [results, Try.results13, go_sem, X3.c0, X3.c1, X3.c2, F3.f0, F3.f1, F3.f2]) rfl ⟨_, rfl, rd_none, ?_⟩
      exact B2.trans ((((Only.refl _ _).setCell 0 _).setCell 1 _).setCell 2 _ |>.below (by omega))
  · clear hbad
    go_enter Try.func13, Try.ntmps13
    go_wp2_with fail
    refine (rcheck_bad ⟨vs, rfl, h1.below (by repeat (first | exact Below.refl _ _ | apply below_lit))⟩ k1).mono ?_
    rintro e w2 ⟨rfl, b2⟩
    have X1 : Box w2 w.heap.size r c vs := Below.box b2 (by simp <;> omega) (((Box.new w r c vs _).alloc (by simp) _).alloc (by simp <;> omega) _)
    have X2 : Box w2 (w.heap.size + 1) r' c' vs' := Below.box b2 (by simp <;> omega) (by have h := (Box.new (w.alloc (.cells #[.int .i64 r, .int .i64 c, vs] 25)) r' c' vs' 25).alloc (by simp) (.cells #[.int .i64 0, .int .i64 0, .slice none 0 0] 25); rwa [World.size_alloc] at h)
    have X3 : Box w2 (w.heap.size + 1 + 1) 0 0 (.slice none 0 0) := Below.box b2 (by simp <;> omega) (by have h := Box.new ((w.alloc (.cells #[.int .i64 r, .int .i64 c, vs] 25)).alloc (.cells #[.int .i64 r', .int .i64 c', vs'] 25)) 0 0 (.slice none 0 0) 25; rwa [World.size_alloc, World.size_alloc] at h)
    have F3 : Free w2 (w.heap.size + 1 + 1) := Below.free b2 (by simp <;> omega) (by have h := Free.new ((w.alloc (.cells #[.int .i64 r, .int .i64 c, vs] 25)).alloc (.cells #[.int .i64 r', .int .i64 c', vs'] 25)) #[.int .i64 0, .int .i64 0, .slice none 0 0] 25; rwa [World.size_alloc, World.size_alloc] at h)
    have B2 : Below w.heap.size w w2 := Below.next (by repeat (first | exact Below.refl _ _ | apply below_lit)) b2
    have s2 : w.heap.size + 1 + 1 < w2.heap.size := by have := b2.size; simp at this; omega
    clear b2
    have x10 := X1.c0
    have x11 := X1.c1
    have x12 := X1.c2
    have x20 := X2.c0
    have x21 := X2.c1
    have x22 := X2.c2
    have x30 := X3.c0
    have x31 := X3.c1
    have x32 := X3.c2
    have f30 := F3.f0
    have f31 := F3.f1
    have f32 := F3.f2
    go_wp2
    refine bodyPost_ret (v := .tuple #[.agg #[.int .i64 0, .int .i64 0, .slice none 0 0], .int .i64 30]) (by simp [results, Try.results13, go_sem, X3.c0, X3.c1, X3.c2, F3.f0, F3.f1, F3.f2]) rfl ⟨_, rfl, rd_none, ?_⟩
    exact B2.trans ((((Only.refl _ _).setCell 0 _).setCell 1 _).setCell 2 _ |>.below (by omega))


set_option maxRecDepth 100000 in
set_option maxHeartbeats 4000000 in
theorem rmulm_ok {va vb : Value} {r c c' : Nat} {A B : List UInt8} {w : World} (ha : RdM w va r c A) (hb : RdM w vb c c' B) (k1 : OkM r c A) (k2 : OkM c c' B) :
    Calls Try.prog 13 #[va, vb] w (MakesM w r c' (mm c (en c A) (en c' B))) := by
  obtain ⟨i0, hi, hz0, hz1, hz2⟩ := info_parts info_u8
  obtain ⟨vs, rfl, h1⟩ := ha
  obtain ⟨vs', rfl, h2⟩ := hb
  have h2' := h2
  go_enter Try.func13, Try.ntmps13
  go_wp2_with fail
  refine (rcheck_ok ⟨vs, rfl, h1.below (by repeat (first | exact Below.refl _ _ | apply below_lit))⟩ k1).mono ?_
  rintro e w2 ⟨rfl, b2⟩
  have X1 : Box w2 w.heap.size r c vs := Below.box b2 (by simp <;> omega) (((Box.new w r c vs _).alloc (by simp) _).alloc (by simp <;> omega) _)
  have X2 : Box w2 (w.heap.size + 1) c c' vs' := Below.box b2 (by simp <;> omega) (by have h := (Box.new (w.alloc (.cells #[.int .i64 (r : Int), .int .i64 (c : Int), vs] 25)) c c' vs' 25).alloc (by simp) (.cells #[.int .i64 0, .int .i64 0, .slice none 0 0] 25); rwa [World.size_alloc] at h)
  have X3 : Box w2 (w.heap.size + 1 + 1) 0 0 (.slice none 0 0) := Below.box b2 (by simp <;> omega) (by have h := Box.new ((w.alloc (.cells #[.int .i64 (r : Int), .int .i64 (c : Int), vs] 25)).alloc (.cells #[.int .i64 (c : Int), .int .i64 (c' : Int), vs'] 25)) 0 0 (.slice none 0 0) 25; rwa [World.size_alloc, World.size_alloc] at h)
  have F3 : Free w2 (w.heap.size + 1 + 1) := Below.free b2 (by simp <;> omega) (by have h := Free.new ((w.alloc (.cells #[.int .i64 (r : Int), .int .i64 (c : Int), vs] 25)).alloc (.cells #[.int .i64 (c : Int), .int .i64 (c' : Int), vs'] 25)) #[.int .i64 0, .int .i64 0, .slice none 0 0] 25; rwa [World.size_alloc, World.size_alloc] at h)
  have B2 : Below w.heap.size w w2 := Below.next (by repeat (first | exact Below.refl _ _ | apply below_lit)) b2
  have s2 : w.heap.size + 1 + 1 < w2.heap.size := by have := b2.size; simp at this; omega
  clear b2
  have x10 := X1.c0
  have x11 := X1.c1
  have x12 := X1.c2
  have x20 := X2.c0
  have x21 := X2.c1
  have x22 := X2.c2
  have x30 := X3.c0
  have x31 := X3.c1
  have x32 := X3.c2
  have f30 := F3.f0
  have f31 := F3.f1
  have f32 := F3.f2
  replace h2 := h2.below B2
  go_wp2_with fail
  refine (rcheck_ok ⟨vs', rfl, h2⟩ k2).mono ?_
  rintro e w3 ⟨rfl, b3⟩
  replace X1 := X1.below (by omega) b3
  replace X2 := X2.below (by omega) b3
  replace X3 := X3.below (by omega) b3
  replace F3 := F3.below (by omega) b3
  replace B2 := Below.next B2 b3
  have s3 := b3.size
  replace h2 := h2.below b3
  clear b3 x10 x11 x12 x20 x21 x22 x30 x31 x32 f30 f31 f32
  have x10 := X1.c0
  have x11 := X1.c1
  have x12 := X1.c2
  have x20 := X2.c0
  have x21 := X2.c1
  have x22 := X2.c2
  have x30 := X3.c0
  have x31 := X3.c1
  have x32 := X3.c2
  have f30 := F3.f0
  have f31 := F3.f1
  have f32 := F3.f2
  obtain ⟨q1, q2, q3, q4, q5⟩ := k1
  obtain ⟨p1, p2, p3, p4, p5⟩ := k2
  have hAl : A.length = r * c := by exact_mod_cast q5
  have hBl : B.length = c * c' := by exact_mod_cast p5
  have hmm := mul_small (r := r) (c := c') (by omega) (by omega)
  obtain ⟨m, hm⟩ : ∃ m, Hid (m = r * c') := ⟨_, rfl⟩
  rw [← hm.out] at hmm
  have g0 : (r : Int) * (c' : Int) = (m : Int) := by rw [hm.out]; exact_mod_cast rfl
  have gw : IntKind.i64.wrap (m : Int) = (m : Int) := by rw [IntKind.wrap_i64]; omega
  clear q5 p5
  have hmk := run_make_row' (P := Try.prog) 23 5 (.int .u8 0) 1 Try.underlying23 info_u8 rfl .i64 .i64 m (by omega) (by omega)
  have l0 : w.heap.size < w3.heap.size := by omega
  have l1 : w.heap.size + 1 < w3.heap.size := by omega
  have l2 : w.heap.size + 1 + 1 < w3.heap.size := by omega
  go_upto_region 3 with fail
  go_cut [6] from 27 to 37 (fun s6 wx => MadeM w3 wx w.heap.size 5 (r : Int) (c' : Int) m s6)
  case first =>
    go_region
    all_goals go_wp2_with fail
    all_goals go_meet
    all_goals first | exact (madeM_one w3 (by omega) (by omega)).drew | exact (madeM_two w3 (by omega) (by omega)).drew
  case rest =>
    obtain ⟨ms, gs, rfl, hms, hgs, hmg, XM, FM, RM, BM⟩ := hcut
    have hA1 := h1.apart (g := gs) (by omega)
    have hA2 := h2'.apart (g := gs) (by omega)
    clear h2'
    replace h1 := (h1.below B2).below BM
    replace h2 := h2.below BM
    replace X1 := X1.below (by omega) BM
    replace X2 := X2.below (by omega) BM
    replace X3 := X3.below (by omega) BM
    replace F3 := F3.below (by omega) BM
    replace B2 := Below.next B2 BM
    clear x10 x11 x12 x20 x21 x22 x30 x31 x32 f30 f31 f32 hmk BM
    obtain ⟨F, hFF⟩ : ∃ F, Hid (F = mm c (en c A) (en c' B)) := ⟨_, rfl⟩
    have hrs : w.heap.size + 1 + 1 ≠ gs := by omega
    go_wp2
    go_loopw [7] (fun i wr => ∃ k : Nat, k ≤ r ∧ i = .int .i64 k ∧ RowF wr w.heap.size 5 gs m m (pf F c' (k * c')) ∧ Only gs wc wr) (fun i _ => r - (intOf i).toNat)
    case atStart => exact ⟨0, by omega, rfl, RM.congr (fun t _ => by rw [Nat.zero_mul, pf_zero]), Only.refl _ _⟩
    case round =>
      obtain ⟨k, hk, rfl, hR, hO⟩ := hrel
      clear RM
      by_cases hlt : k < r
      · have x10 := (X1.only (by omega) hO).c0
        have hkr : (k : Int) < (r : Int) := by omega
        go_wp2
        go_loopw [8] (fun j w4 => ∃ l : Nat, l ≤ c' ∧ j = .int .i64 l ∧ RowF w4 w.heap.size 5 gs m m (pf F c' (k * c' + l)) ∧ Only gs wc w4) (fun j _ => c' - (intOf j).toNat)
        case atStart => exact ⟨0, by omega, rfl, hR, hO⟩
        case round =>
          obtain ⟨l, hl, rfl, hR4, hO4⟩ := hrel
          clear hR hO x10
          have x21 := (X2.only (by omega) hO4).c1
          by_cases hl2 : l < c'
          · have hlc : (l : Int) < (c' : Int) := by omega
            go_wp2
            go_loopw [9, 10] (fun x q w5 => ∃ i : Nat, i ≤ c ∧ q = .int .i64 i ∧ x = .int .u8 ((S i (fun j => mu (en c A k j) (en c' B j l))).toNat : Nat) ∧ ∃ d, Hid (w5 = wr.drewN d)) (fun _ q _ => c - (intOf q).toNat)
            case atStart => exact ⟨0, by omega, rfl, rfl, 0, rfl⟩
            case round =>
              obtain ⟨i, hic, rfl, rfl, d, hd⟩ := hrel
              have hO5 : Only gs wc wr := by rw [hd.out]; exact hO4.drewN d
              have hR5 : RowF wr w.heap.size 5 gs m m (pf F c' (k * c' + l)) := by rw [hd.out]; exact hR4.drewN d
              clear hR4 hO4 x21
              have x11 := (X1.only (by omega) hO5).c1
              have x12 := (X1.only (by omega) hO5).c2
              have x21 := (X2.only (by omega) hO5).c1
              have x22 := (X2.only (by omega) hO5).c2
              by_cases hi2 : i < c
              · have hic2 : (i : Int) < (c : Int) := by omega
                have pa := place_lt hlt hi2
                have pb := place_lt hi2 hl2
                rw [← hAl] at pa
                rw [← hBl] at pb
                rcases h1 with ⟨a, cap, e1, e2, _⟩ | ⟨ba, oa, ca, ha0, e2, ha1, ha2, ha3, hac⟩
                · subst e1; simp at pa
                · rcases h2 with ⟨a, cap, e1', e2', _⟩ | ⟨bb, ob, cb, hb0, e2', hb1, hb2, hb3, hbc⟩
                  · subst e1'; simp at pb
                  · subst e2 e2'
                    have na : ba ≠ gs := by rcases hA1 _ _ _ rfl with e | e; exact absurd (List.length_eq_zero_iff.1 e) ha0; exact e
                    have nb : bb ≠ gs := by rcases hA2 _ _ _ rfl with e | e; exact absurd (List.length_eq_zero_iff.1 e) hb0; exact e
                    have c1 := (hO5.cell (p := ⟨ba, oa + (k * c + i), none⟩) na).trans (hac _ pa)
                    have c2 := (hO5.cell (p := ⟨bb, ob + (i * c' + l), none⟩) nb).trans (hbc _ pb)
                    have hx := xor_u8 (S i (fun j => mu (en c A k j) (en c' B j l))) (mu (co A (k * c + i)) (co B (i * c' + l)))
                    have HX : Hid (S (i + 1) (fun j => mu (en c A k j) (en c' B j l)) = S i (fun j => mu (en c A k j) (en c' B j l)) ^^^ mu (co A (k * c + i)) (co B (i * c' + l))) := rfl
                    obtain ⟨p1, hp1⟩ : ∃ p1, p1 = k * c := ⟨_, rfl⟩
                    obtain ⟨p2, hp2⟩ : ∃ p2, p2 = i * c' := ⟨_, rfl⟩
                    have g1 : (k : Int) * (c : Int) = (p1 : Int) := by rw [hp1]; exact_mod_cast rfl
                    have g2 : (i : Int) * (c' : Int) = (p2 : Int) := by rw [hp2]; exact_mod_cast rfl
                    rw [← hp1] at pa c1 hx HX
                    rw [← hp2] at pb c2 hx HX
                    obtain ⟨t1, ht1⟩ : ∃ t1, t1 = p1 + i := ⟨_, rfl⟩
                    obtain ⟨t2, ht2⟩ : ∃ t2, t2 = p2 + l := ⟨_, rfl⟩
                    rw [← ht1] at pa c1 hx HX
                    rw [← ht2] at pb c2 hx HX
                    have g3 : (p1 : Int) + (i : Int) = (t1 : Int) := by omega
                    have g4 : (p2 : Int) + (l : Int) = (t2 : Int) := by omega
                    have w1' : IntKind.i64.wrap (p1 : Int) = (p1 : Int) := by rw [IntKind.wrap_i64]; have := mul_small (r := r) (c := c) (by omega) (by omega); omega
                    have w2' : IntKind.i64.wrap (p2 : Int) = (p2 : Int) := by rw [IntKind.wrap_i64]; have := mul_small (r := c) (c := c') (by omega) (by omega); omega
                    have w3' : IntKind.i64.wrap (t1 : Int) = (t1 : Int) := by rw [IntKind.wrap_i64]; have := mul_small (r := r) (c := c) (by omega) (by omega); omega
                    have w4' : IntKind.i64.wrap (t2 : Int) = (t2 : Int) := by rw [IntKind.wrap_i64]; have := mul_small (r := c) (c := c') (by omega) (by omega); omega
                    have pa' : (t1 : Int) < (A.length : Int) := by omega
                    have pb' : (t2 : Int) < (B.length : Int) := by omega
                    have hAl' : Hid _ := hAl
                    have hBl' : Hid _ := hBl
                    clear hp1 hp2 ht1 ht2 hac hbc hAl hBl hR5
                    go_wp2
                    go_quiet ((go_at_call 28; go_loud (exact Calls.quiet_of_same (rmu3_at (co A t1) (co B t2) rfl rfl))))
                    go_wp2
                    go_roundw
                    case rel => exact ⟨i + 1, by omega, by go_num, by rw [HX.out, UInt8.toNat_xor], _, by show _ = _; rw [hd.out, World.drewN_drewN]⟩
                    case measure => simp [intOf]; omega
              · have e : i = c := by omega
                subst e
                have pm := place_lt hlt hl2
                rw [← hm.out] at pm
                have HV : Hid (S i (fun j => mu (en i A k j) (en c' B j l)) = F ((k * c' + l) / c') ((k * c' + l) % c')) := by show _ = _; rw [place_div hl2, place_mod hl2, hFF.out]; rfl
                have k1 := hR5.cell pm
                have k2 := hR5.unfrozen (k * c' + l)
                obtain ⟨v, hv⟩ : ∃ v, v = S i (fun j => mu (en i A k j) (en c' B j l)) := ⟨_, rfl⟩
                have N1 : Hid (RowF (wr.setCell ⟨gs, k * c' + l, none⟩ (.int .u8 ((v.toNat : Nat) : Int))) w.heap.size 5 gs m m (pf F c' (k * c' + (l + 1)))) := by
                  refine hR5.store pm v fun t => ?_
                  rw [hv, HV.out]; exact pf_step F c' (k * c' + l) t
                have N2 : Hid (Only gs wc (wr.setCell ⟨gs, k * c' + l, none⟩ (.int .u8 ((v.toNat : Nat) : Int)))) := hO5.setCell _ _
                simp only [← hv]
                obtain ⟨p3, hp3⟩ : ∃ p3, p3 = k * c' := ⟨_, rfl⟩
                have g1 : (k : Int) * (c' : Int) = (p3 : Int) := by rw [hp3]; exact_mod_cast rfl
                rw [← hp3] at pm k1 k2 N1 N2
                have y2 := (XM.only hmg hO5).c2
                have HP3 : Hid (p3 = k * c') := hp3
                clear hp3 hv HV hR5
                go_wp2
                go_roundw
                case rel => exact ⟨l + 1, by omega, by go_num, by rw [← HP3.out]; exact N1.out, N2.out⟩
                case measure => simp [intOf]; omega
          · have e : l = c' := by omega
            subst e
            have N1 : Hid (RowF wr w.heap.size 5 gs m m (pf F l ((k + 1) * l))) := by rw [Nat.add_mul, Nat.one_mul]; exact hR4
            clear hR4
            go_wp2
            go_roundw
            case rel => exact ⟨k + 1, by omega, by go_num, N1.out, hO4⟩
            case measure => simp [intOf]; omega
      · have e : k = r := by omega
        subst e
        have hRd := hR.rd
        have hH : Hid (upto (pf F c' (k * c')) m = flat k c' (mm c (en c A) (en c' B))) := by show _ = _; rw [← hFF.out, hm.out]; exact pf_all F k c'
        rw [hH.out] at hRd
        have x10 := (X1.only (by omega) hO).c0
        have y0 := (XM.only hmg hO).c0
        have y1 := (XM.only hmg hO).c1
        have y2 := (XM.only hmg hO).c2
        have x30 := (X3.only hrs hO).c0
        have x31 := (X3.only hrs hO).c1
        have x32 := (X3.only hrs hO).c2
        have f30 := (F3.only hrs hO).f0
        have f31 := (F3.only hrs hO).f1
        have f32 := (F3.only hrs hO).f2
        clear hR
        go_wp2
        have O1 : Only (w.heap.size + 1 + 1) wr (((wr.setCell ⟨w.heap.size + 1 + 1, 0, none⟩ (.int .i64 (k : Int))).setCell ⟨w.heap.size + 1 + 1, 1, none⟩ (.int .i64 (c' : Int))).setCell ⟨w.heap.size + 1 + 1, 2, none⟩ (.slice (some ⟨gs, 0, none⟩) m m)) :=
          (((Only.refl _ _).setCell 0 _).setCell 1 _).setCell 2 _
        refine bodyPost_ret (v := .tuple #[.agg #[.int .i64 (k : Int), .int .i64 (c' : Int), .slice (some ⟨gs, 0, none⟩) m m], .int .i64 0]) (by simp [results, Try.results13, go_sem, x30, x31, x32, f30, f31, f32]) rfl ⟨_, rfl, hRd.only (apart_block (fun h => hrs h.symm)) O1, (B2.trans (hO.below (by omega))).trans (O1.below (by omega))⟩

end Go.Proofs.Ytljbecalobnkbaa.Gf
