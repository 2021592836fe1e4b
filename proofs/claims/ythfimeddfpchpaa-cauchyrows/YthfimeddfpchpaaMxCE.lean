/-
  THE PROGRAM's 'Pick' BY CONTRACT.
-/
import Derived.Test.YthfimeddfpchpaaMxCD
namespace Go.Proofs.Ythfimeddfpchpaa.Gf
set_option linter.unusedVariables false
set_option linter.unusedSimpArgs false
open Go.RowKit

set_option maxRecDepth 100000 in
set_option maxHeartbeats 2000000 in
theorem mpick_bad {va vr : Value} {r c : Int} {A : List UInt8} {zs : List Int} {w : World} (ha : RdM w va r c A) (hr : RdI w vr zs) (hbad : ¬ (OkM r c A ∧ zs.length ≤ 256)) :
    Calls Try.prog 23 #[va, vr] w (MakesErr w 30) := by
  obtain ⟨vs, rfl, h1⟩ := ha
  obtain ⟨az, cz, rfl⟩ := hr.form
  clear hr
  by_cases k1 : OkM r c A
  · have k2 : ¬ (0 ≤ (zs.length : Int) ∧ (zs.length : Int) ≤ 256) := fun h => hbad ⟨k1, by omega⟩
    clear hbad
    go_enter Try.func23, Try.ntmps23
    go_wp2_with fail
    refine (mcheck_ok ⟨vs, rfl, h1.below (by repeat (first | exact Below.refl _ _ | apply below_lit))⟩ k1).mono ?_
    rintro e w2 ⟨rfl, b2⟩
    have X3 : Box w2 (w.heap.size + 1) 0 0 (.slice none 0 0) := Below.box b2 (by simp <;> omega) (Box.new1 w _ 0 0 (.slice none 0 0) 30)
    have F3 : Free w2 (w.heap.size + 1) := Below.free b2 (by simp <;> omega) (by have h := Free.new (w.alloc (.cells #[.int .i64 r, .int .i64 c, vs] 30)) #[.int .i64 0, .int .i64 0, .slice none 0 0] 30; rwa [World.size_alloc] at h)
    have B2 : Below w.heap.size w w2 := Below.next (by repeat (first | exact Below.refl _ _ | apply below_lit)) b2
    clear b2
    have x30 := X3.c0
    have x31 := X3.c1
    have x32 := X3.c2
    have f30 := F3.f0
    have f31 := F3.f1
    have f32 := F3.f2
    go_wp2_with fail
    refine (side_bad _ k2).mono ?_
    rintro e w3 ⟨rfl, rfl⟩
    go_wp2
    refine bodyPost_ret (v := .tuple #[.agg #[.int .i64 0, .int .i64 0, .slice none 0 0], .int .i64 30]) (by simp [results, Try.results23, go_sem, X3.c0, X3.c1, X3.c2, F3.f0, F3.f1, F3.f2]) rfl ⟨_, rfl, rd_none, ?_⟩
    exact B2.trans ((((Only.refl _ _).setCell 0 _).setCell 1 _).setCell 2 _ |>.below (by omega))
  · clear hbad
    go_enter Try.func23, Try.ntmps23
    go_wp2_with fail
    refine (mcheck_bad ⟨vs, rfl, h1.below (by repeat (first | exact Below.refl _ _ | apply below_lit))⟩ k1).mono ?_
    rintro e w2 ⟨rfl, b2⟩
    have X3 : Box w2 (w.heap.size + 1) 0 0 (.slice none 0 0) := Below.box b2 (by simp <;> omega) (Box.new1 w _ 0 0 (.slice none 0 0) 30)
    have F3 : Free w2 (w.heap.size + 1) := Below.free b2 (by simp <;> omega) (by have h := Free.new (w.alloc (.cells #[.int .i64 r, .int .i64 c, vs] 30)) #[.int .i64 0, .int .i64 0, .slice none 0 0] 30; rwa [World.size_alloc] at h)
    have B2 : Below w.heap.size w w2 := Below.next (by repeat (first | exact Below.refl _ _ | apply below_lit)) b2
    clear b2
    have x30 := X3.c0
    have x31 := X3.c1
    have x32 := X3.c2
    have f30 := F3.f0
    have f31 := F3.f1
    have f32 := F3.f2
    go_wp2
    refine bodyPost_ret (v := .tuple #[.agg #[.int .i64 0, .int .i64 0, .slice none 0 0], .int .i64 30]) (by simp [results, Try.results23, go_sem, X3.c0, X3.c1, X3.c2, F3.f0, F3.f1, F3.f2]) rfl ⟨_, rfl, rd_none, ?_⟩
    exact B2.trans ((((Only.refl _ _).setCell 0 _).setCell 1 _).setCell 2 _ |>.below (by omega))

set_option maxRecDepth 100000 in
set_option maxHeartbeats 4000000 in
theorem mpick_ok {va vr : Value} {r c : Nat} {A : List UInt8} {zs : List Int} {w : World} (ha : RdM w va r c A) (hr : RdI w vr zs) (k1 : OkM r c A) (k2 : zs.length ≤ 256) :
    Calls Try.prog 23 #[va, vr] w fun e w' => (AllIn r zs ∧ MakesM w zs.length c (pickF c A zs) e w') ∨ (¬ AllIn r zs ∧ MakesErr w 30 e w') := by
  obtain ⟨vs, rfl, h1⟩ := ha
  obtain ⟨az, cz, rfl⟩ := hr.form
  have hr2 : r ≤ 256 := by have := k1.2.1; omega
  have hc2 : c ≤ 256 := by have := k1.2.2.2.1; omega
  go_enter Try.func23, Try.ntmps23
  go_wp2_with fail
  refine (mcheck_ok ⟨vs, rfl, h1.below (by repeat (first | exact Below.refl _ _ | apply below_lit))⟩ k1).mono ?_
  rintro e w2 ⟨rfl, b2⟩
  have X2 : Box w2 w.heap.size r c vs := Below.box b2 (by simp <;> omega) ((Box.new w r c vs _).alloc (by simp) _)
  have X3 : Box w2 (w.heap.size + 1) 0 0 (.slice none 0 0) := Below.box b2 (by simp <;> omega) (Box.new1 w _ 0 0 (.slice none 0 0) 30)
  have F3 : Free w2 (w.heap.size + 1) := Below.free b2 (by simp <;> omega) (by have h := Free.new (w.alloc (.cells #[.int .i64 (r : Int), .int .i64 (c : Int), vs] 30)) #[.int .i64 0, .int .i64 0, .slice none 0 0] 30; rwa [World.size_alloc] at h)
  have B2 : Below w.heap.size w w2 := Below.next (by repeat (first | exact Below.refl _ _ | apply below_lit)) b2
  have s2 : w.heap.size + 1 < w2.heap.size := by have := b2.size; simp at this; omega
  clear b2
  have x21 := X2.c1
  go_wp2_with fail
  refine (side_ok _ (by omega) (by omega)).mono ?_
  rintro e w2 ⟨rfl, rfl⟩
  go_wp2_with fail
  refine (nought_any zs.length c _ k2 (by omega) rfl rfl).mono ?_
  rintro e w1 ⟨g, m, hm, rfl, hg, R1, b1⟩
  have hlt := R1.lt
  have hap : Apart g vs := h1.apart (by omega)
  have hapz : Apart g (.slice az zs.length cz) := hr.apart (by omega)
  have P2 := X2.below (by omega) b1
  replace X3 := X3.below (by omega) b1
  replace F3 := F3.below (by omega) b1
  replace B2 := Below.next B2 b1
  have hA : Below w1.heap.size w1 (w1.alloc (.cells #[.int .i64 (zs.length : Int), .int .i64 (c : Int), .slice (some ⟨g, 0, none⟩) m m] 30)) := (Below.refl _ _).alloc (Nat.le_refl _) _
  have P1 := Box.new w1 (zs.length : Int) (c : Int) (.slice (some ⟨g, 0, none⟩) m m) 30
  have hs1 : w2.heap.size ≤ w1.heap.size := b1.size
  replace R1 := (R1.base (show w.heap.size ≤ w2.heap.size by omega)).later hA
  replace P2 := P2.below (by omega) hA
  replace X3 := X3.below (by omega) hA
  replace F3 := F3.below (by omega) hA
  replace B2 := Below.next B2 hA
  have hms : w1.heap.size < (w1.alloc (.cells #[.int .i64 (zs.length : Int), .int .i64 (c : Int), .slice (some ⟨g, 0, none⟩) m m] 30)).heap.size := by simp
  have hmg : w1.heap.size ≠ g := by omega
  clear hA b1 X2 x21
  go_wp2
  generalize w1.alloc (.cells #[.int .i64 (zs.length : Int), .int .i64 (c : Int), .slice (some ⟨g, 0, none⟩) m m] 30) = w3 at *
  have hmm : m ≤ 256 * 256 := by rw [hm.out]; exact Nat.mul_le_mul k2 hc2
  obtain ⟨G, hG⟩ : ∃ G, Hid (G = pickF c A zs) := ⟨_, rfl⟩
  have hA3 := h1.below B2
  have hZ3 := hr.below B2
  go_loopw [26] (fun i wr => ∃ k : Nat, k ≤ zs.length ∧ i = .int .i64 k ∧ Hid (∀ j, j < k → 0 ≤ zs.getD j 0 ∧ zs.getD j 0 < (r : Int)) ∧ Turn g w3 wr ∧ RowF wr w.heap.size 5 g m m (pl c (rowsK G k))) (fun i _ => zs.length - (intOf i).toNat)
  case atStart => exact ⟨0, by omega, rfl, (fun j hj => by omega : ∀ j, j < 0 → _), Turn.refl _ _, R1.congr (fun t _ => (rowsK_zero _ _ t).symm)⟩
  case round =>
    obtain ⟨k, hk, rfl, hall, hT, hRk⟩ := hrel
    clear R1
    replace P1 := P1.turn hms hmg hT
    replace P2 := P2.turn (by omega) (by omega) hT
    have X4 := X3.turn (by omega) (by omega) hT
    have F4 := F3.turn (by omega) (by omega) hT
    have hs4 := hT.size
    have x30 := X4.c0
    have x31 := X4.c1
    have x32 := X4.c2
    have f30 := F4.f0
    have f31 := F4.f1
    have f32 := F4.f2
    by_cases hlt2 : k < zs.length
    · have hlt2' : (k : Int) < (zs.length : Int) := by omega
      have h2 := hA3.turn hap hT
      rcases (hZ3.turn hapz hT) with ⟨a0, c0, e1, e2⟩ | ⟨bz, oz, c0, hz0', e2, hz1', hz3, hzc⟩
      · subst e1; simp at hlt2
      · simp at e2
        obtain ⟨rfl, rfl⟩ := e2
        have cz1 := hzc k hlt2
        clear hzc
        obtain ⟨z, hz⟩ : ∃ z, Hid (z = zs.getD k 0) := ⟨_, rfl⟩
        rw [← hz.out] at cz1
        have p20 := P2.c0
        by_cases hin : 0 ≤ z ∧ z < (r : Int)
        · obtain ⟨zn, hzn⟩ := Int.eq_ofNat_of_zero_le hin.1
          subst hzn
          have d1 : decide ((zn : Int) < 0) = false := decide_eq_false (by omega)
          have d2 : decide ((zn : Int) ≥ (r : Int)) = false := decide_eq_false (by omega)
          have hzr : zn < r := by omega
          clear hin
          obtain ⟨o, ho⟩ : ∃ o, Hid (o = k * c) := ⟨_, rfl⟩
          have hom : o + c ≤ m := by rw [ho.out, hm.out, ← Nat.succ_mul]; exact Nat.mul_le_mul_right c hlt2
          have hrowP : ∀ W, Below wr.heap.size wr W → Calls Try.prog 38 #[.agg #[.int .i64 (zs.length : Int), .int .i64 (c : Int), .slice (some ⟨g, 0, none⟩) m m], .int .i64 (k : Int)] W fun e w' => e = .returned (.slice (some ⟨g, o, none⟩) c (m - o)) ∧ Below wr.heap.size wr w' := by
            intro W hW
            rw [ho.out]
            exact (row_own rfl hlt2 hm k2 (by omega)).mono fun e w' he => ⟨he.1, Below.next hW he.2⟩
          have hrowA : ∀ W, Below wr.heap.size wr W → Calls Try.prog 38 #[.agg #[.int .i64 (r : Int), .int .i64 (c : Int), vs], .int .i64 (zn : Int)] W fun e w' => ∃ a cap, e = .returned (.slice a c cap) ∧ Rd w' (.slice a c cap) (upto (fun j => en c A zn j) c) ∧ Below wr.heap.size wr w' := by
            intro W hW
            refine (row_rd rfl (h2.below hW) k1 hzr).mono ?_
            rintro e w' ⟨a, cap, he, hr, _, hb⟩
            exact ⟨a, cap, he, hr, Below.next hW hb⟩
          have Q1 := P1
          have Q2 := P2
          have l1 : w1.heap.size < wr.heap.size := by omega
          have l2 : w.heap.size < wr.heap.size := by omega
          have n2 : w.heap.size ≠ g := by omega
          clear x30 x31 x32 f30 f31 f32 X4 F4
          go_wp2
          go_region_held3 (fun wx => (wx.cell? ⟨w1.heap.size, 0, none⟩ = some (.int .i64 (zs.length : Int)) ∧ wx.cell? ⟨w1.heap.size, 1, none⟩ = some (.int .i64 (c : Int)) ∧ wx.cell? ⟨w1.heap.size, 2, none⟩ = some (.slice (some ⟨g, 0, none⟩) m m)) ∧ (wx.cell? ⟨w.heap.size, 0, none⟩ = some (.int .i64 (r : Int)) ∧ wx.cell? ⟨w.heap.size, 1, none⟩ = some (.int .i64 (c : Int)) ∧ wx.cell? ⟨w.heap.size, 2, none⟩ = some vs)) (first | exact ⟨Box.and P1, Box.and P2⟩ | exact ⟨Box.and P1.drew, Box.and P2.drew⟩ | exact ⟨Box.and (P1.only hmg O3), Box.and (P2.only n2 O3)⟩) (first | (go_at_call_of 38 (Value.slice (some ⟨g, 0, none⟩) m m); refine (hrowP _ (by first | assumption | exact (Below.refl _ _).drew)).mono ?_; rintro e v1 ⟨rfl, bv1⟩; replace P1 := Q1.below l1 bv1; replace P2 := Q2.below l2 bv1) | (go_at_call_of 38 vs; refine (hrowA _ (by first | assumption | exact (Below.refl _ _).drew)).mono ?_; rintro e v2 ⟨a, cap, rfl, hr2', bv2⟩; replace P1 := Q1.below l1 bv2; replace P2 := Q2.below l2 bv2) | (refine step_copy_rd rfl (.tmp 42) (.tmp 45) 28 28 rfl 5 Try.underlying28 info1_u8 rfl rfl hr2' (upto_length _ _) (Nat.le_refl _) (hRk.later bv2) (by omega) ?_; intro v3 O3 R3))
          have T3 : Hid (Turn g w3 v3) := hT.trans ((Below.turn bv2 g).trans O3.turn)
          have R4 : Hid (RowF v3 w.heap.size 5 g m m (pl c (rowsK G (k + 1)))) := R3.congr (fun t ht => by
            rw [ho.out]
            refine rowsK_put (r := zs.length) (fun j hj => ?_) t (by rw [← hm.out]; exact ht)
            rw [co_upto_lt hj, hG.out]
            show _ = en c A (zs.getD k 0).toNat j
            rw [← hz.out]; rfl)
          have A4 : Hid (∀ j, j < k + 1 → 0 ≤ zs.getD j 0 ∧ zs.getD j 0 < (r : Int)) := fun j hj => by
            by_cases e : j = k
            · subst e; rw [← hz.out]; omega
            · exact hall.out j (by omega)
          clear hRk hT R3 O3 bv2 bv1 hrowP hrowA Q1 Q2 h2 P1 P2 hr2' hall d1 d2
          go_wp2
          go_roundw
          case rel => exact ⟨k + 1, by omega, by go_num, A4, T3.out, R4.out⟩
          case measure => simp [intOf]; omega
        · have HB : Hid (¬ AllIn r zs) := fun h => hin (by have := h k hlt2; rw [← hz.out] at this; exact this)
          have B4 : Hid (Below w.heap.size w (((wr.setCell ⟨w.heap.size + 1, 0, none⟩ (.int .i64 0)).setCell ⟨w.heap.size + 1, 1, none⟩ (.int .i64 0)).setCell ⟨w.heap.size + 1, 2, none⟩ (.slice none 0 0))) := (B2.trans (hT.below (by omega) (by omega))).trans ((((Only.refl _ _).setCell 0 _).setCell 1 _).setCell 2 _ |>.below (by omega))
          clear hRk hT hall h2
          by_cases hneg : z < 0
          · have d1 : decide (z < 0) = true := decide_eq_true hneg
            clear hin hneg
            go_wp2
            exact bodyPost_ret (v := .tuple #[.agg #[.int .i64 0, .int .i64 0, .slice none 0 0], .int .i64 30]) (by simp [results, Try.results23, go_sem, x30, x31, x32, f30, f31, f32]) rfl (Or.inr ⟨HB.out, _, rfl, rd_none, B4.out⟩)
          · have d1 : decide (z < 0) = false := decide_eq_false hneg
            have d2 : decide (z ≥ (r : Int)) = true := decide_eq_true (by omega)
            clear hin hneg
            go_wp2
            exact bodyPost_ret (v := .tuple #[.agg #[.int .i64 0, .int .i64 0, .slice none 0 0], .int .i64 30]) (by simp [results, Try.results23, go_sem, x30, x31, x32, f30, f31, f32]) rfl (Or.inr ⟨HB.out, _, rfl, rd_none, B4.out⟩)
    · obtain ⟨nz, hnz⟩ : ∃ nz, Hid (nz = zs.length) := ⟨_, rfl⟩
      have e : k = zs.length := by omega
      have R4 : Rd wr (.slice (some ⟨g, 0, none⟩) m m) (flat zs.length c (pickF c A zs)) := by
        rw [← hG.out]
        have := (hRk.congr (f' := pl c G) (fun t ht => by rw [e]; exact rowsK_all t (by rw [← hm.out]; exact ht))).rd
        rw [← pl_flat, ← hm.out]
        exact this
      have HA : Hid (AllIn r zs) := fun i hi => hall.out i (by omega)
      have y0 := P1.c0
      have y1 := P1.c1
      have y2 := P1.c2
      have hge : ¬ (k : Int) < (zs.length : Int) := by omega
      clear hRk e
      go_wp2
      have O1 : Only (w.heap.size + 1) wr (((wr.setCell ⟨w.heap.size + 1, 0, none⟩ (.int .i64 (zs.length : Int))).setCell ⟨w.heap.size + 1, 1, none⟩ (.int .i64 (c : Int))).setCell ⟨w.heap.size + 1, 2, none⟩ (.slice (some ⟨g, 0, none⟩) m m)) :=
        (((Only.refl _ _).setCell 0 _).setCell 1 _).setCell 2 _
      exact bodyPost_ret (v := .tuple #[.agg #[.int .i64 (zs.length : Int), .int .i64 (c : Int), .slice (some ⟨g, 0, none⟩) m m], .int .i64 0]) (by simp [results, Try.results23, go_sem, x30, x31, x32, f30, f31, f32]) rfl (Or.inl ⟨HA.out, _, rfl, R4.only (apart_block (by omega)) O1, (B2.trans (hT.below (by omega) (by omega))).trans (O1.below (by omega))⟩)

end Go.Proofs.Ythfimeddfpchpaa.Gf
