/-
  THE PROGRAM's 'Invert' BY CONTRACT.
-/
import Derived.Test.YthfimeddfpchpaaMxGJ
import Derived.Test.YthfimeddfpchpaaMxCF
import Derived.WalkMore
namespace Go.Proofs.Ythfimeddfpchpaa.Gf
set_option linter.unusedVariables false
set_option linter.unusedSimpArgs false
open Go.RowKit

theorem swp_any {w : World} {base u g L C o1 o2 n c cc : Nat} {f : Nat → UInt8} (hR : RowF w base u g L C f) (h1 : o1 + n ≤ L) (h2 : o2 + n ≤ L) (hL : L ≤ 1000000) (hd : o1 = o2 ∨ o1 + n ≤ o2 ∨ o2 + n ≤ o1) :
    Calls Try.prog 42 #[.slice (some ⟨g, o1, none⟩) n c, .slice (some ⟨g, o2, none⟩) n cc] w fun e w' =>
      e = .returned (.tuple #[]) ∧ Only g w w' ∧ RowF w' base u g L C (swapK f o1 o2 n) := by
  rcases hd with e | hd
  · subst e; rw [swapK_same]; exact swp_same hR h1 hL
  · exact swp_apart hR h1 h2 hL hd
theorem Free.new1 (w : World) (o : Obj) (cs : Array Value) (t : TypeId) : Free ((w.alloc o).alloc (.cells cs t)) (w.heap.size + 1) := by
  have h := Free.new (w.alloc o) cs t
  rwa [World.size_alloc] at h

set_option maxRecDepth 100000 in
set_option maxHeartbeats 2000000 in
theorem minv_nil {va : Value} {r c : Int} {A : List UInt8} {w : World} (ha : RdM w va r c A) :
    Calls Try.prog 24 #[.pointer none, va] w (MakesErr w 1) := by
  obtain ⟨vs, rfl, h1⟩ := ha
  clear h1
  go_enter Try.func24, Try.ntmps24
  go_wp2
  go_step3
  go_wp2
  try rw [Exit.noGoto_ret]
  refine bodyPost_ret (v := .tuple #[.agg #[.int .i64 0, .int .i64 0, .slice none 0 0], .int .i64 1]) (by simp [results, Try.results24, go_sem]) rfl ⟨_, rfl, rd_none, ?_⟩
  repeat (first | exact Below.refl _ _ | apply below_lit | refine Below.setCell ?_ (by simp <;> omega) _)

set_option maxRecDepth 100000 in
set_option maxHeartbeats 2000000 in
theorem minv_bad {b : Nat} {va : Value} {r c : Int} {A : List UInt8} {w : World} (hF : FieldAt w b) (ha : RdM w va r c A) (hbad : ¬ (OkM r c A ∧ r = c)) :
    Calls Try.prog 24 #[.pointer (some ⟨b, 0, none⟩), va] w (MakesErr w 30) := by
  obtain ⟨vs, rfl, h1⟩ := ha
  clear hF
  by_cases k1 : OkM r c A
  · have k3 : (r != c) = true := by simp; intro e; exact hbad ⟨k1, e⟩
    clear hbad
    go_enter Try.func24, Try.ntmps24
    go_wp2_with fail
    go_step3
    go_wp2_with fail
    refine (mcheck_ok ⟨vs, rfl, h1.below (by repeat (first | exact Below.refl _ _ | apply below_lit))⟩ k1).mono ?_
    rintro e w2 ⟨rfl, b2⟩
    have X1 : Box w2 w.heap.size r c vs := Below.box b2 (by simp <;> omega) ((Box.new w r c vs _).alloc (by simp) _)
    have X3 : Box w2 (w.heap.size + 1) 0 0 (.slice none 0 0) := Below.box b2 (by simp <;> omega) (Box.new1 w _ 0 0 (.slice none 0 0) 30)
    have F3 : Free w2 (w.heap.size + 1) := Below.free b2 (by simp <;> omega) (Free.new1 w _ _ 30)
    have B2 : Below w.heap.size w w2 := Below.next (by repeat (first | exact Below.refl _ _ | apply below_lit)) b2
    have s2 : w.heap.size + 1 < w2.heap.size := by have := b2.size; simp at this; omega
    clear b2
    have x10 := X1.c0
    have x11 := X1.c1
    have x12 := X1.c2
    have x30 := X3.c0
    have x31 := X3.c1
    have x32 := X3.c2
    have f30 := F3.f0
    have f31 := F3.f1
    have f32 := F3.f2
    go_wp2
    try rw [Exit.noGoto_ret]
    refine bodyPost_ret (v := .tuple #[.agg #[.int .i64 0, .int .i64 0, .slice none 0 0], .int .i64 30]) (by simp [results, Try.results24, go_sem, X3.c0, X3.c1, X3.c2, F3.f0, F3.f1, F3.f2]) rfl ⟨_, rfl, rd_none, ?_⟩
    exact B2.trans ((((Only.refl _ _).setCell 0 _).setCell 1 _).setCell 2 _ |>.below (by omega))
  · clear hbad
    go_enter Try.func24, Try.ntmps24
    go_wp2_with fail
    go_step3
    go_wp2_with fail
    refine (mcheck_bad ⟨vs, rfl, h1.below (by repeat (first | exact Below.refl _ _ | apply below_lit))⟩ k1).mono ?_
    rintro e w2 ⟨rfl, b2⟩
    have X1 : Box w2 w.heap.size r c vs := Below.box b2 (by simp <;> omega) ((Box.new w r c vs _).alloc (by simp) _)
    have X3 : Box w2 (w.heap.size + 1) 0 0 (.slice none 0 0) := Below.box b2 (by simp <;> omega) (Box.new1 w _ 0 0 (.slice none 0 0) 30)
    have F3 : Free w2 (w.heap.size + 1) := Below.free b2 (by simp <;> omega) (Free.new1 w _ _ 30)
    have B2 : Below w.heap.size w w2 := Below.next (by repeat (first | exact Below.refl _ _ | apply below_lit)) b2
    have s2 : w.heap.size + 1 < w2.heap.size := by have := b2.size; simp at this; omega
    clear b2
    have x10 := X1.c0
    have x11 := X1.c1
    have x12 := X1.c2
    have x30 := X3.c0
    have x31 := X3.c1
    have x32 := X3.c2
    have f30 := F3.f0
    have f31 := F3.f1
    have f32 := F3.f2
    go_wp2
    try rw [Exit.noGoto_ret]
    refine bodyPost_ret (v := .tuple #[.agg #[.int .i64 0, .int .i64 0, .slice none 0 0], .int .i64 30]) (by simp [results, Try.results24, go_sem, X3.c0, X3.c1, X3.c2, F3.f0, F3.f1, F3.f2]) rfl ⟨_, rfl, rd_none, ?_⟩
    exact B2.trans ((((Only.refl _ _).setCell 0 _).setCell 1 _).setCell 2 _ |>.below (by omega))

set_option maxRecDepth 100000 in
set_option maxHeartbeats 4000000 in
theorem minv_ok {b : Nat} {va : Value} {n : Nat} {A : List UInt8} {w : World} (hF : FieldAt w b) (ha : RdM w va n n A) (k1 : OkM n n A) :
    Calls Try.prog 24 #[.pointer (some ⟨b, 0, none⟩), va] w fun e w' => (∃ V, IsInv n (en n A) V ∧ MakesM w n n V e w') ∨ (IsSing n (en n A) ∧ MakesErr w 31 e w') := by
  obtain ⟨vs, rfl, h1⟩ := ha
  have hn : n ≤ 256 := by have := k1.2.1; omega
  go_enter Try.func24, Try.ntmps24
  go_wp2_with fail
  go_step3
  go_wp2_with fail
  refine (mcheck_ok ⟨vs, rfl, h1.below (by repeat (first | exact Below.refl _ _ | apply below_lit))⟩ k1).mono ?_
  rintro e w2 ⟨rfl, b2⟩
  have X1 : Box w2 w.heap.size n n vs := Below.box b2 (by simp <;> omega) ((Box.new w n n vs _).alloc (by simp) _)
  have X3 : Box w2 (w.heap.size + 1) 0 0 (.slice none 0 0) := Below.box b2 (by simp <;> omega) (Box.new1 w _ 0 0 (.slice none 0 0) 30)
  have F3 : Free w2 (w.heap.size + 1) := Below.free b2 (by simp <;> omega) (Free.new1 w _ _ 30)
  have B2 : Below w.heap.size w w2 := Below.next (by repeat (first | exact Below.refl _ _ | apply below_lit)) b2
  have s2 : w.heap.size + 1 < w2.heap.size := by have := b2.size; simp at this; omega
  clear b2
  have x10 := X1.c0
  have x11 := X1.c1
  have x12 := X1.c2
  go_wp2_with fail
  refine (bes_any (h1.below B2) k1).mono ?_
  rintro e w1 ⟨g, m, C, hC, hm, rfl, hg, R1, b1⟩
  have hlt := R1.lt
  have hbg : b ≠ g := by have := hF.lt; omega
  replace X1 := X1.below (by omega) b1
  replace X3 := X3.below (by omega) b1
  replace F3 := F3.below (by omega) b1
  replace B2 := Below.next B2 b1
  have hA : Below w1.heap.size w1 (w1.alloc (.cells #[.int .i64 (n : Int), .int .i64 (C : Int), .slice (some ⟨g, 0, none⟩) m m] 30)) := (Below.refl _ _).alloc (Nat.le_refl _) _
  have P1 := Box.new w1 (n : Int) (C : Int) (.slice (some ⟨g, 0, none⟩) m m) 30
  have hs1 : w2.heap.size ≤ w1.heap.size := b1.size
  replace R1 := (R1.base (show w.heap.size ≤ w2.heap.size by omega)).later hA
  replace X1 := X1.below (by omega) hA
  replace X3 := X3.below (by omega) hA
  replace F3 := F3.below (by omega) hA
  replace B2 := Below.next B2 hA
  have hms : w1.heap.size < (w1.alloc (.cells #[.int .i64 (n : Int), .int .i64 (C : Int), .slice (some ⟨g, 0, none⟩) m m] 30)).heap.size := by simp
  have hmg : w1.heap.size ≠ g := by omega
  clear hA b1 x10 x11 x12
  have x11 := X1.c1
  go_wp2
  go_step3
  go_wp2
  generalize w1.alloc (.cells #[.int .i64 (n : Int), .int .i64 (C : Int), .slice (some ⟨g, 0, none⟩) m m] 30) = w4 at *
  have hC2 : C ≤ 512 := by have := hC.out; omega
  have hnC : n ≤ C := by have := hC.out; omega
  have hmm : m ≤ 256 * 512 := by rw [hm.out]; exact Nat.mul_le_mul hn hC2
  have hF4 := hF.below B2
  clear h1 hF x11
  go_loopw [27] (fun i wr => ∃ (k : Nat) (W : Mx), k ≤ n ∧ i = .int .i64 k ∧ Turn g w4 wr ∧ RowF wr w.heap.size 5 g m m (pl C W) ∧ Hid (GJ n (en n A) W (rt n W) k ∧ ∀ i, i < k → W i i = 1)) (fun i _ => n - (intOf i).toNat)
  case atStart => exact ⟨0, wideF n A, by omega, rfl, Turn.refl _ _, R1, ⟨gj_wide n A, fun i hi => by omega⟩⟩
  case round =>
    obtain ⟨k, W, hk, rfl, hT, hRk, hgj⟩ := hrel
    clear R1
    have hs4 := hT.size
    have Y1 := X1.turn (by omega) (by omega) hT
    have Y3 := X3.turn (by omega) (by omega) hT
    have G3 := F3.turn (by omega) (by omega) hT
    have PW := P1.turn hms hmg hT
    by_cases hlt2 : k < n
    · have hlt2' : (k : Int) < (n : Int) := by omega
      obtain ⟨wo, rfl⟩ : ∃ wo, wo = wr := ⟨_, rfl⟩
      go_wp2
      go_loopw [8] (fun i wr => ∃ l : Nat, k ≤ l ∧ l ≤ n ∧ i = .int .i64 l ∧ Below wo.heap.size wo wr ∧ Hid (∀ i, k ≤ i → i < l → W i k = 0)) (fun i _ => n - (intOf i).toNat)
      case atStart => exact ⟨k, Nat.le_refl _, by omega, rfl, Below.refl _ _, (fun i h1 h2 => by omega : ∀ i, k ≤ i → i < k → W i k = 0)⟩
      case round =>
        obtain ⟨l, hkl, hl, rfl, hB5, hz⟩ := hrel
        have Z1 := Y1.below (by omega) hB5
        have z10 := Z1.c0
        have hs5 := hB5.size
        by_cases hl2 : l < n
        · have hl2' : (l : Int) < (n : Int) := by omega
          have PX := PW.below (by omega) hB5
          have y0 := PX.c0
          have y1 := PX.c1
          have y2 := PX.c2
          have hR5 := hRk.later hB5
          obtain ⟨o, ho⟩ : ∃ o, Hid (o = l * C) := ⟨_, rfl⟩
          have hom : o + C ≤ m := by rw [ho.out, hm.out, ← Nat.succ_mul]; exact Nat.mul_le_mul_right C hl2
          have hkC : k < C := by omega
          have hkC' : (k : Int) < (C : Int) := by omega
          go_wp2_with fail
          refine (row_own rfl hl2 hm hn hC2).mono ?_
          rintro e v1 ⟨rfl, bv1⟩
          rw [← ho.out]
          have hR6 := hR5.later bv1
          have c6 := hR6.cell (show o + k < m by omega)
          have e6 : pl C W (o + k) = W l k := by rw [ho.out]; exact pl_at W hkC
          rw [e6] at c6
          have hB6 := Below.next hB5 bv1
          clear hR5 bv1 e6 y0 y1 y2 z10 hB5
          by_cases hz0 : W l k = 0
          · have d0 : (((W l k).toNat : Int) != 0) = false := by rw [hz0]; rfl
            have HZ : Hid (∀ i, k ≤ i → i < l + 1 → W i k = 0) := fun i h1 h2 => by
              by_cases e : i = l
              · subst e; exact hz0
              · exact hz.out i h1 (by omega)
            clear hz hz0 hR6
            go_wp2
            go_roundw
            case rel => exact ⟨l + 1, by omega, by omega, by go_num, hB6, HZ⟩
            case measure => simp [intOf]; omega
          · have d0 : (((W l k).toNat : Int) != 0) = true := by rw [bne, eq_u8_zero]; simp [hz0]
            obtain ⟨q, hq⟩ : ∃ q, Hid (q = k * C) := ⟨_, rfl⟩
            have hqm : q + C ≤ m := by rw [hq.out, hm.out, ← Nat.succ_mul]; exact Nat.mul_le_mul_right C hlt2
            have hdis : q = o ∨ q + C ≤ o ∨ o + C ≤ q := by
              rcases Nat.lt_or_ge k l with h | h
              · right; left; rw [hq.out, ho.out, ← Nat.succ_mul]; exact Nat.mul_le_mul_right C h
              · left; rw [hq.out, ho.out, show k = l by omega]
            have hs6 := hB6.size
            have hrowK : ∀ W', Below v1.heap.size v1 W' → Calls Try.prog 38 #[.agg #[.int .i64 (n : Int), .int .i64 (C : Int), .slice (some ⟨g, 0, none⟩) m m], .int .i64 (k : Int)] W' fun e w' => e = .returned (.slice (some ⟨g, q, none⟩) C (m - q)) ∧ Below v1.heap.size v1 w' := by
              intro W' hW
              rw [hq.out]
              exact (row_own rfl hlt2 hm hn hC2).mono fun e w' he => ⟨he.1, Below.next hW he.2⟩
            have hrowL : ∀ W', Below v1.heap.size v1 W' → Calls Try.prog 38 #[.agg #[.int .i64 (n : Int), .int .i64 (C : Int), .slice (some ⟨g, 0, none⟩) m m], .int .i64 (l : Int)] W' fun e w' => e = .returned (.slice (some ⟨g, o, none⟩) C (m - o)) ∧ Below v1.heap.size v1 w' := by
              intro W' hW
              rw [ho.out]
              exact (row_own rfl hl2 hm hn hC2).mono fun e w' he => ⟨he.1, Below.next hW he.2⟩
            have P1 := PW.below (by omega) hB6
            have Q1 := P1
            have l1 : w1.heap.size < v1.heap.size := by omega
            go_wp2
            go_region_held3 (fun wx => wx.cell? ⟨w1.heap.size, 0, none⟩ = some (.int .i64 (n : Int)) ∧ wx.cell? ⟨w1.heap.size, 1, none⟩ = some (.int .i64 (C : Int)) ∧ wx.cell? ⟨w1.heap.size, 2, none⟩ = some (.slice (some ⟨g, 0, none⟩) m m)) (first | exact Box.and P1 | exact Box.and P1.drew | exact Box.and (P1.only hmg O3)) (first | (go_at_call_of 38 (Value.int IntKind.i64 (k : Int)); refine (hrowK _ (by first | assumption | exact (Below.refl _ _).drew)).mono ?_; rintro e v2 ⟨rfl, bv1⟩; replace P1 := Q1.below l1 bv1) | (go_at_call_of 38 (Value.int IntKind.i64 (l : Int)); refine (hrowL _ (by first | assumption | exact (Below.refl _ _).drew)).mono ?_; rintro e v3 ⟨rfl, bv2⟩; replace P1 := Q1.below l1 bv2) | (go_at_call 42; refine (swp_any (hR6.later bv2) hqm hom (by omega) hdis).mono ?_; rintro e v4 ⟨rfl, O3, R3⟩))
            have T7 : Turn g wo v4 := (Below.turn hB6 g).trans ((Below.turn bv2 g).trans O3.turn)
            have R7 : RowF v4 w.heap.size 5 g m m (pl C (fun i j => W (sw l k i) j)) := R3.congr (fun t ht => by
              rw [ho.out, hq.out]
              exact swapK_pl (n := n) t (by rw [← hm.out]; exact ht))
            have P7 := P1.only hmg O3
            have y0 := P7.c0
            have y1 := P7.c1
            have y2 := P7.c2
            have hswk : sw l k k = l := by
              unfold sw
              by_cases e : k = l
              · rw [if_pos e]; exact e
              · rw [if_neg e, if_pos rfl]
            have hp : (fun i j => W (sw l k i) j) k k ≠ 0 := by show W (sw l k k) k ≠ 0; rw [hswk]; exact hz0
            have hg7 := gj_round hgj.out.1 hgj.out.2 hkl hl2 hz0
            have HG7 : Hid _ := hg7
            have hF7 := hF4.turn hbg (hT.trans T7)
            clear hR6 R3 O3 bv2 bv1 hrowK hrowL Q1 P1 hB6 hg7 hgj hz c6
            go_wp2_with fail
            refine (clr_any rfl hF7 hbg R7 hm hn hC2 hlt2 hkC hp).mono ?_
            rintro e v5 ⟨rfl, T8, R8⟩
            have T9 : Hid (Turn g w4 v5) := hT.trans (T7.trans T8)
            have R9 : Hid _ := R8
            clear T8 R8 R7 T7 y0 y1 y2 hF7 hp hT
            go_wp2
            go_roundw
            case rel => exact ⟨k + 1, _, by omega, by go_num, T9.out, R9.out, HG7⟩
            case measure => simp [intOf]; omega
        · have e : l = n := by omega
          have hge : ¬ (l : Int) < (n : Int) := by omega
          have HS : Hid (IsSing n (en n A)) := hgj.out.1.sing hlt2 (fun i h1 h2 => hz.out i h1 (by omega))
          have X4 := Y3.below (by omega) hB5
          have F4 := G3.below (by omega) hB5
          have x30 := X4.c0
          have x31 := X4.c1
          have x32 := X4.c2
          have f30 := F4.f0
          have f31 := F4.f1
          have f32 := F4.f2
          clear e hz hgj hRk
          go_wp2
          try rw [Exit.noGoto_ret]
          exact bodyPost_ret (v := .tuple #[.agg #[.int .i64 0, .int .i64 0, .slice none 0 0], .int .i64 31]) (by simp [results, Try.results24, go_sem, x30, x31, x32, f30, f31, f32]) rfl (Or.inr ⟨HS.out, _, rfl, rd_none, ((B2.trans (hT.below (by omega) (by omega))).trans (hB5.mono (by omega))).trans ((((Only.refl _ _).setCell 0 _).setCell 1 _).setCell 2 _ |>.below (by omega))⟩)
    · have e : k = n := by omega
      subst e
      have HV : Hid (IsInv k (en k A) (rt k W)) := hgj.out.1.finish1 hgj.out.2
      have y0 := PW.c0
      have y1 := PW.c1
      have y2 := PW.c2
      clear hgj
      go_wp2_with fail
      refine (half_any hRk hC hm hn).mono ?_
      rintro e v1 ⟨gh, mh, hgh, rfl, hrd, bv1⟩
      have X4 := Y3.below (by omega) bv1
      have F4 := G3.below (by omega) bv1
      have hs6 := bv1.size
      have x30 := X4.c0
      have x31 := X4.c1
      have x32 := X4.c2
      have f30 := F4.f0
      have f31 := F4.f1
      have f32 := F4.f2
      have B9 := (B2.trans (hT.below (by omega) (by omega))).trans (bv1.mono (by omega))
      clear hRk y0 y1 y2
      go_wp2
      have O1 : Only (w.heap.size + 1) v1 (((v1.setCell ⟨w.heap.size + 1, 0, none⟩ (.int .i64 (k : Int))).setCell ⟨w.heap.size + 1, 1, none⟩ (.int .i64 (k : Int))).setCell ⟨w.heap.size + 1, 2, none⟩ (.slice (some ⟨gh, 0, none⟩) mh mh)) :=
        (((Only.refl _ _).setCell 0 _).setCell 1 _).setCell 2 _
      try rw [Exit.noGoto_ret]
      exact bodyPost_ret (v := .tuple #[.agg #[.int .i64 (k : Int), .int .i64 (k : Int), .slice (some ⟨gh, 0, none⟩) mh mh], .int .i64 0]) (by simp [results, Try.results24, go_sem, x30, x31, x32, f30, f31, f32]) rfl (Or.inl ⟨rt k W, HV.out, _, rfl, hrd.only (apart_block (by omega)) O1, B9.trans (O1.below (by omega))⟩)

end Go.Proofs.Ythfimeddfpchpaa.Gf
