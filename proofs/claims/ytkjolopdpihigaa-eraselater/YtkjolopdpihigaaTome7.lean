/- TEXTS JOINED: MxCC, MxGJ, MxFn, MxCG, ErCD, CaCG, BkCop, BkCB. -/
import Derived.Test.YtkjolopdpihigaaTome6
import Derived.Test.YtkjolopdpihigaaTome5
import Derived.Deep.RegionWith
import Derived.Deep.CutRange
import Derived.WalkMore
import Derived.Test.YtkjolopdpihigaaTome3
/-
  THE PROGRAM's 'clearColumn' BY CONTRACT.
-/



namespace Go.Proofs.Ytkjolopdpihigaa.Gf
set_option linter.unusedVariables false
set_option linter.unusedSimpArgs false
open Go.RowKit

theorem finv_at {b : Nat} {w : World} (hF : FieldAt w b) (a : UInt8) (ha : a ≠ 0) {x : Int} (hx : x = ((a.toNat : Nat) : Int)) :
    Calls Try.prog 61 #[.pointer (some ⟨b, 0, none⟩), .int .u8 x] w fun e w' => e = .returned (.tuple #[.int .u8 ((iv a).toNat : Nat), .int .i64 0]) ∧ ∃ n, w' = w.drewN n := by
  have h := inv_all hF a.toNat hx (u8_lt a)
  rw [zE_pos (u8_ne ha), ← iv_toNat] at h
  exact h

/-- the pivot's row, scaled; the first k other rows, cleared -/
def clrK (F : Mx) (c k : Nat) : Mx := fun i j => if i = c then mu (F c j) (iv (F c c)) else if i < k then F i j ^^^ mu (mu (F c j) (iv (F c c))) (F i c) else F i j
theorem clrK_zero (F : Mx) (c : Nat) {r C : Nat} : ∀ t, t < r * C → putAt (pl C F) (c * C) C (fun j => mu (pl C F (c * C + j)) (iv (F c c))) t = pl C (clrK F c 0) t := by
  intro t ht
  have hC : 0 < C := by
    rcases Nat.eq_zero_or_pos C with e | e
    · rw [e, Nat.mul_zero] at ht; omega
    · exact e
  rw [putAt_congr (q' := fun j => mu (F c j) (iv (F c c))) (fun k hk => by rw [pl_at F hk]), pl_put F _ t ht]
  refine pl_congr (r := r) (fun i j _ _ => ?_) t ht
  unfold clrK
  by_cases e : i = c
  · rw [if_pos e, if_pos e]
  · rw [if_neg e, if_neg e, if_neg (by omega)]
theorem clrK_skip (F : Mx) (c : Nat) : clrK F c (c + 1) = clrK F c c := by
  funext i j
  unfold clrK
  by_cases e : i = c
  · rw [if_pos e, if_pos e]
  · rw [if_neg e, if_neg e]
    by_cases h : i < c
    · rw [if_pos h, if_pos (by omega)]
    · rw [if_neg h, if_neg (by omega)]
theorem clrK_step {F : Mx} {c k r C : Nat} (hkc : k ≠ c) : ∀ t, t < r * C → putAt (pl C (clrK F c k)) (k * C) C (plus (pl C (clrK F c k)) (k * C) (fun j => pl C (clrK F c k) (c * C + j)) (F k c)) t = pl C (clrK F c (k + 1)) t := by
  intro t ht
  have hC : 0 < C := by
    rcases Nat.eq_zero_or_pos C with e | e
    · rw [e, Nat.mul_zero] at ht; omega
    · exact e
  rw [putAt_congr (q' := fun j => F k j ^^^ mu (mu (F c j) (iv (F c c))) (F k c)) (fun j hj => ?_), pl_put _ _ t ht]
  · refine pl_congr (r := r) (fun i j _ _ => ?_) t ht
    unfold clrK
    by_cases e : i = k
    · subst e; rw [if_pos rfl, if_neg hkc, if_pos (by omega)]
    · rw [if_neg e]
      by_cases e2 : i = c
      · rw [if_pos e2, if_pos e2]
      · rw [if_neg e2, if_neg e2]
        by_cases h : i < k
        · rw [if_pos h, if_pos (by omega)]
        · rw [if_neg h, if_neg (by omega)]
  · unfold plus
    show pl C (clrK F c k) (k * C + j) ^^^ mu (pl C (clrK F c k) (c * C + j)) (F k c) = _
    rw [pl_at _ hj, pl_at _ hj]
    unfold clrK
    rw [if_neg hkc, if_neg (by omega), if_pos rfl]
theorem cells_on {W w' : World} (hb : Below W.heap.size W w') {a0 a1 a2 a3 : Addr} {v0 v1 v2 v3 : Value} (h0 : W.cell? a0 = some v0) (h1 : W.cell? a1 = some v1) (h2 : W.cell? a2 = some v2) (h3 : W.cell? a3 = some v3) :
    w'.cell? a0 = some v0 ∧ w'.cell? a1 = some v1 ∧ w'.cell? a2 = some v2 ∧ w'.cell? a3 = some v3 :=
  ⟨(hb.cell (World.block_lt_of_cell? W _ h0)).trans h0, (hb.cell (World.block_lt_of_cell? W _ h1)).trans h1, (hb.cell (World.block_lt_of_cell? W _ h2)).trans h2, (hb.cell (World.block_lt_of_cell? W _ h3)).trans h3⟩
theorem Turn.drewN {g : Nat} {a w : World} (h : Turn g a w) (n : Nat) : Turn g a (w.drewN n) := ⟨h.os, h.tape, h.output, h.size, h.block⟩
theorem Turn.drewL {g : Nat} {a w : World} {n : Nat} (h : Turn g (a.drewN n) w) : Turn g a w := ⟨h.os, h.tape, h.output, h.size, h.block⟩

set_option maxRecDepth 100000 in
set_option maxHeartbeats 4000000 in
theorem clr_any {w : World} {base g m n C c b : Nat} {F : Mx} {x : Int} (hx : x = (c : Int)) (hF : FieldAt w b) (hbg : b ≠ g) (hR : RowF w base 5 g m m (pl C F)) (hm : Hid (m = n * C)) (hn : n ≤ 256) (hC : C ≤ 512) (hcn : c < n) (hcC : c < C) (hp : F c c ≠ 0) :
    Calls Try.prog 68 #[.pointer (some ⟨b, 0, none⟩), .agg #[.int .i64 (n : Int), .int .i64 (C : Int), .slice (some ⟨g, 0, none⟩) m m], .int .i64 x] w fun e w' =>
      e = .returned (.tuple #[]) ∧ Turn g w w' ∧ RowF w' base 5 g m m (pl C (clrK F c n)) := by
  subst hx
  have hmm : m ≤ 256 * 512 := by rw [hm.out]; exact Nat.mul_le_mul hn hC
  have hlt := hR.lt
  go_enter Try.func68, Try.ntmps68
  have hA : Below w.heap.size w (w.alloc (.cells #[.int .i64 (n : Int), .int .i64 (C : Int), .slice (some ⟨g, 0, none⟩) m m] 52)) := (Below.refl _ _).alloc (Nat.le_refl _) _
  have X0 := Box.new w (n : Int) (C : Int) (.slice (some ⟨g, 0, none⟩) m m) 52
  go_wp2_with fail
  refine (row_own rfl hcn hm hn hC).mono ?_
  rintro e w1 ⟨rfl, b1⟩
  have T1 : Turn g w w1 := (Below.turn hA g).trans (Below.turn b1 g)
  have X1 : Box w1 w.heap.size (n : Int) (C : Int) (.slice (some ⟨g, 0, none⟩) m m) := Below.box b1 (by simp) X0
  have hsz : w.heap.size < w1.heap.size := by have := b1.size; simp at this; omega
  replace hR := (hR.later hA).later b1
  replace hF := hF.turn hbg T1
  have hsg : w.heap.size ≠ g := by omega
  clear hA X0 b1
  have hcm : c * C + C ≤ m := by rw [hm.out, ← Nat.succ_mul]; exact Nat.mul_le_mul_right C hcn
  have c1 := hR.cell (show c * C + c < m by omega)
  rw [pl_at F hcC] at c1
  obtain ⟨o, ho⟩ : ∃ o, Hid (o = c * C) := ⟨_, rfl⟩
  rw [← ho.out] at hcm c1 ⊢
  have hcC' : (c : Int) < (C : Int) := by omega
  go_wp2_with fail
  refine (finv_at hF (F c c) hp rfl).mono ?_
  rintro e w2 ⟨rfl, d, rfl⟩
  obtain ⟨iv0, hiv⟩ : ∃ iv0, Hid (iv0 = iv (F c c)) := ⟨_, rfl⟩
  rw [← hiv.out]
  clear c1
  have R2 : RowF (w1.drewN d) base 5 g m m (putAt (pl C F) o 0 (fun j => mu (pl C F (o + j)) iv0)) := by rw [putAt_zero]; exact hR.drewN d
  have F2 := hF.drewN d
  have T2 := T1.drewN d
  have X2 := X1.drewN d
  have sz2 : w.heap.size < (w1.drewN d).heap.size := hsz
  obtain ⟨w2, hw2⟩ : ∃ w2, w2 = w1.drewN d := ⟨_, rfl⟩
  rw [← hw2] at R2 F2 T2 X2 sz2 ⊢
  clear hw2 hR hF T1 X1 hsz
  have O2 : Only g w2 w2 := Only.refl _ _
  go_wp2
  go_loopw [25] (fun i wr => ∃ k : Nat, k ≤ C ∧ i = .int .i64 k ∧ Only g w2 wr ∧ RowF wr base 5 g m m (putAt (pl C F) o k (fun j => mu (pl C F (o + j)) iv0))) (fun i _ => C - (intOf i).toNat)
  case atStart => exact ⟨0, by omega, rfl, O2, R2⟩
  case round =>
    obtain ⟨k, hk, rfl, hO, hRk⟩ := hrel
    clear O2 R2
    by_cases hk2 : k < C
    · have k1 := hRk.cell (show o + k < m by omega)
      rw [putAt_out (by omega)] at k1
      have hk2' : (k : Int) < (C : Int) := by omega
      have hFr := F2.only hbg hO
      go_wp2_with fail
      refine (fmu_quiet hFr (pl C F (o + k)) iv0 rfl rfl).mono ?_
      rintro e w3 ⟨rfl, d, rfl⟩
      have k3 : (wr.drewN d).cell? ⟨g, o + k, none⟩ = some (.int .u8 ((pl C F (o + k)).toNat : Nat)) := k1
      have f1 : (wr.drewN d).frozen? ⟨g, o + k, none⟩ = false := hRk.unfrozen (o + k)
      have HN : Hid (RowF ((wr.drewN d).setCell ⟨g, o + k, none⟩ (.int .u8 ((mu (pl C F (o + k)) iv0).toNat : Nat))) base 5 g m m (putAt (pl C F) o (k + 1) (fun j => mu (pl C F (o + j)) iv0))) :=
        (hRk.drewN d).store (show o + k < m by omega) _ (fun t => putAt_step _ _ _ _ t)
      have HO : Hid (Only g w2 ((wr.drewN d).setCell ⟨g, o + k, none⟩ (.int .u8 ((mu (pl C F (o + k)) iv0).toNat : Nat)))) := (hO.drewN d).setCell _ _
      clear hRk hO hFr k1
      go_wp2
      go_roundw
      case rel => exact ⟨k + 1, by omega, by go_num, HO.out, HN.out⟩
      case measure => simp [intOf]; omega
    · have e : k = C := by omega
      subst e
      have R3 : RowF wr base 5 g m m (pl k (clrK F c 0)) := hRk.congr (fun t ht => by rw [ho.out, hiv.out]; exact clrK_zero F c (r := n) t (by rw [← hm.out]; exact ht))
      have T3 := T2.trans hO.turn
      have F3 := F2.only hbg hO
      have X3 := X2.only hsg hO
      have sz3 : w.heap.size < wr.heap.size := by rw [hO.size]; exact sz2
      have x0 := X3.c0
      clear hRk hO F2 T2 X2 sz2
      obtain ⟨w3, rfl⟩ : ∃ w3, w3 = wr := ⟨_, rfl⟩
      go_wp2
      go_loopw [41] (fun i w4 => ∃ l : Nat, l ≤ n ∧ i = .int .i64 l ∧ Turn g w3 w4 ∧ RowF w4 base 5 g m m (pl k (clrK F c l))) (fun i _ => n - (intOf i).toNat)
      case atStart => exact ⟨0, by omega, rfl, Turn.refl _ _, R3⟩
      case round =>
        obtain ⟨l, hl, rfl, hT, hRl⟩ := hrel
        clear R3
        by_cases hl2 : l < n
        · have hl2' : (l : Int) < (n : Int) := by omega
          by_cases hlc : l = c
          · subst hlc
            have HN : Hid (RowF wr base 5 g m m (pl k (clrK F l (l + 1)))) := by rw [clrK_skip]; exact hRl
            clear hRl
            go_wp2
            go_roundw
            case rel => exact ⟨l + 1, by omega, by go_num, hT, HN.out⟩
            case measure => simp [intOf]; omega
          · have X4 := X3.turn sz3 hsg hT
            have hlm : l * k + k ≤ m := by rw [hm.out, ← Nat.succ_mul]; exact Nat.mul_le_mul_right k hl2
            have y0 := X4.c0
            have y1 := X4.c1
            have y2 := X4.c2
            have y3 := hRl.cell (show l * k + c < m by omega)
            have e3 : pl k (clrK F c l) (l * k + c) = F l c := by rw [pl_at _ hcC]; unfold clrK; rw [if_neg hlc, if_neg (by omega)]
            rw [e3] at y3
            have F4 := F3.turn hbg hT
            have hd : l * k + k ≤ c * k ∨ c * k + k ≤ l * k := by
              rcases Nat.lt_or_gt_of_ne hlc with h | h
              · left; rw [← Nat.succ_mul]; exact Nat.mul_le_mul_right k h
              · right; rw [← Nat.succ_mul]; exact Nat.mul_le_mul_right k h
            have HS : Hid (∀ t, t < m → putAt (pl k (clrK F c l)) (l * k) k (plus (pl k (clrK F c l)) (l * k) (fun j => pl k (clrK F c l) (o + j)) (F l c)) t = pl k (clrK F c (l + 1)) t) := by
              show ∀ t, _ → _
              rw [ho.out, hm.out]; exact clrK_step (r := n) hlc
            rw [← ho.out] at hd
            have hne : ((l : Int) != (c : Int)) = true := by simp; omega
            obtain ⟨o2, ho2⟩ : ∃ o2, Hid (o2 = l * k) := ⟨_, rfl⟩
            rw [← ho2.out] at hlm y3 hd HS
            have hrow : ∀ W, Below wr.heap.size wr W → Calls Try.prog 65 #[.agg #[.int .i64 (n : Int), .int .i64 (k : Int), .slice (some ⟨g, 0, none⟩) m m], .int .i64 (l : Int)] W fun e w' => e = .returned (.slice (some ⟨g, o2, none⟩) k (m - o2)) ∧ Below wr.heap.size wr w' ∧
                w'.cell? ⟨w.heap.size, 0, none⟩ = some (.int .i64 (n : Int)) ∧ w'.cell? ⟨w.heap.size, 1, none⟩ = some (.int .i64 (k : Int)) ∧ w'.cell? ⟨w.heap.size, 2, none⟩ = some (.slice (some ⟨g, 0, none⟩) m m) ∧ w'.cell? ⟨g, o2 + c, none⟩ = some (.int .u8 ((F l c).toNat : Nat)) := by
              intro W hW
              refine (row_own rfl hl2 hm hn hC).mono ?_
              rintro e w' ⟨rfl, hb⟩
              have hB := Below.next hW hb
              exact ⟨by rw [ho2.out], hB, cells_on hB y0 y1 y2 y3⟩
            clear e3 X4
            go_wp2
            go_region_with (first | (go_at_call 65; refine (hrow _ (by first | assumption | exact (Below.refl _ _).drew | exact below_draws _ _)).mono ?_; rintro e v1 ⟨rfl, bv, z0, z1, z2, z3⟩) | (go_at_call 74; refine (addt_same (F l c) rfl (F4.turn hbg (Below.turn (by assumption) g)) hbg (hRl.later (by assumption)) hlm hcm (by omega) hd).mono ?_; rintro e v3 ⟨rfl, O5, R5⟩))
            all_goals
              have HN : Hid (Turn g w3 v3 ∧ RowF v3 base 5 g m m (pl k (clrK F c (l + 1)))) := ⟨hT.trans ((Below.turn bv g).trans O5.turn), R5.congr HS.out⟩
              clear R5 O5 hrow HS bv hRl
              go_wp2
              go_roundw
              case rel => exact ⟨l + 1, by omega, by go_num, HN.out.1, HN.out.2⟩
              case measure => simp [intOf]; omega
        · have e : l = n := by omega
          subst e
          go_wp2
          go_end0
          exact ⟨rfl, T3.trans hT, hRl⟩

end Go.Proofs.Ytkjolopdpihigaa.Gf

/-
  PLAIN MATHEMATICS: one column of an inverse by rows' steps, where the matrix and what became of the identity stand side by side.
-/

namespace Go.Proofs.Ytkjolopdpihigaa.Gf
set_option linter.unusedVariables false
set_option linter.unusedSimpArgs false
open Go.RowKit

theorem swapK_pl {n C k l : Nat} {W : Mx} : ∀ t, t < n * C → swapK (pl C W) (k * C) (l * C) C t = pl C (fun i j => W (sw l k i) j) t := by
  intro t ht
  have hC := pos_of_lt ht
  have hm := Nat.mod_lt t hC
  show _ = W (sw l k (t / C)) (t % C)
  unfold swapK sw
  by_cases e1 : t / C = k
  · rw [if_pos ((row_iff hC).2 e1), ← e1, row_sub, pl_at _ hm]
    by_cases e2 : t / C = l
    · rw [if_pos e2, ← e2]
    · rw [if_neg e2, if_pos rfl]
  · rw [if_neg (fun h => e1 ((row_iff hC).1 h))]
    by_cases e2 : t / C = l
    · rw [if_pos ((row_iff hC).2 e2), if_pos e2, ← e2, row_sub, pl_at _ hm]
    · rw [if_neg (fun h => e2 ((row_iff hC).1 h)), if_neg e2, if_neg e1]
      rfl

/-- the right half -/
def rt (n : Nat) (W : Mx) : Mx := fun i j => W i (n + j)
theorem gj_wide (n : Nat) (A : List UInt8) : GJ n (en n A) (wideF n A) (rt n (wideF n A)) 0 :=
  (GJ.start n (en n A)).congr (Nat.zero_le _) (fun _ _ _ _ => rfl) (fun i j _ hj => (if_pos hj).symm) (fun i j _ _ => by
    show one i j = if n + j < n then en n A i (n + j) else one i (n + j - n)
    rw [if_neg (by omega), Nat.add_sub_cancel_left])
theorem gj_clear {n k : Nat} {A F : Mx} (h : GJ n A F (rt n F) k) (hk : k < n) (hp : F k k ≠ 0) (j : Nat) (hj : j ≤ n) : GJ n A (clrK F k j) (rt n (clrK F k j)) k := by
  have hiv : iv (F k k) ≠ 0 := fun e => by
    have := mu_iv hp
    rw [e, mu_zero] at this
    cases this
  induction j with
  | zero =>
    refine (h.scale hk hiv).congr (by omega) (fun _ _ _ _ => rfl) (fun i j _ _ => ?_) (fun i j _ _ => ?_)
    · show (if i = k then mu (iv (F k k)) (F i j) else F i j) = clrK F k 0 i j
      unfold clrK
      by_cases e : i = k
      · subst e; rw [if_pos rfl, if_pos rfl, mu_comm]
      · rw [if_neg e, if_neg e, if_neg (Nat.not_lt_zero _)]
    · show (if i = k then mu (iv (F k k)) (F i (n + j)) else F i (n + j)) = clrK F k 0 i (n + j)
      unfold clrK
      by_cases e : i = k
      · subst e; rw [if_pos rfl, if_pos rfl, mu_comm]
      · rw [if_neg e, if_neg e, if_neg (Nat.not_lt_zero _)]
  | succ j ih =>
    have g := ih (by omega)
    by_cases e : j = k
    · subst e; rw [clrK_skip]; exact g
    · have key : ∀ i x, (if i = j then clrK F k j i x ^^^ mu (F j k) (clrK F k j k x) else clrK F k j i x) = clrK F k (j + 1) i x := by
        intro i x
        unfold clrK
        by_cases e2 : i = j
        · subst e2; rw [if_pos rfl, if_neg e, if_neg e, if_neg (by omega), if_pos (by omega), if_pos (by omega), mu_comm]
        · rw [if_neg e2]
          by_cases e3 : i = k
          · rw [if_pos e3, if_pos e3]
          · rw [if_neg e3, if_neg e3]
            by_cases h5 : i < j
            · rw [if_pos h5, if_pos (by omega)]
            · rw [if_neg h5, if_neg (by omega)]
      exact (g.clear (r := j) (x := F j k) (by omega) hk e).congr (by omega) (fun _ _ _ _ => rfl) (fun i x _ _ => key i x) (fun i x _ _ => key i (n + x))
theorem gj_round {n k l : Nat} {A W : Mx} (h : GJ n A W (rt n W) k) (hd : ∀ i, i < k → W i i = 1) (hkl : k ≤ l) (hl : l < n) (hp : W l k ≠ 0) :
    GJ n A (clrK (fun i j => W (sw l k i) j) k n) (rt n (clrK (fun i j => W (sw l k i) j) k n)) (k + 1) ∧ ∀ i, i < k + 1 → clrK (fun i j => W (sw l k i) j) k n i i = 1 := by
  have hswk : sw l k k = l := by
    unfold sw
    by_cases e : k = l
    · rw [if_pos e]; exact e
    · rw [if_neg e, if_pos rfl]
  have g1 : GJ n A (fun i j => W (sw l k i) j) (rt n (fun i j => W (sw l k i) j)) k := h.swap hkl hl
  obtain ⟨F, hF⟩ : ∃ F : Mx, F = fun i j => W (sw l k i) j := ⟨_, rfl⟩
  rw [← hF] at g1 ⊢
  have hpF : F k k ≠ 0 := by rw [hF]; show W (sw l k k) k ≠ 0; rw [hswk]; exact hp
  have one1 : mu (F k k) (iv (F k k)) = 1 := mu_iv hpF
  have g2 := gj_clear g1 (by omega) hpF n (Nat.le_refl _)
  have hkk : clrK F k n k k = 1 := by unfold clrK; rw [if_pos rfl, one1]
  refine ⟨g2.next (fun i hi hik => ?_) (by rw [hkk]; decide), fun i hi => ?_⟩
  · unfold clrK
    rw [if_neg hik, if_pos hi, one1, one_mu, x_self]
  · by_cases e : i = k
    · subst e; exact hkk
    · have hik : i < k := by omega
      have e1 : F k i = 0 := by
        rw [hF]
        show W (sw l k k) i = 0
        rw [hswk]
        exact h.done i hik l hl (by omega)
      have e2 : F i i = 1 := by
        rw [hF]
        show W (sw l k i) i = 1
        rw [sw_low hik hkl]
        exact hd i hik
      unfold clrK
      rw [if_neg e, if_pos (by omega), e1, e2, zero_mu, zero_mu, x_zero]

end Go.Proofs.Ytkjolopdpihigaa.Gf

/-
  A VARIABLE BEHIND TWO OTHERS. No program's function is named here.
-/

namespace Go.Proofs.Ytkjolopdpihigaa.Gf
set_option linter.unusedVariables false
set_option linter.unusedSimpArgs false
open Go.RowKit

theorem Free.new2 (w : World) (o o' : Obj) (cs : Array Value) (t : TypeId) : Free (((w.alloc o).alloc o').alloc (.cells cs t)) (w.heap.size + 1 + 1) := by
  have h := Free.new ((w.alloc o).alloc o') cs t
  rwa [World.size_alloc, World.size_alloc] at h

end Go.Proofs.Ytkjolopdpihigaa.Gf

/-
  THE PROGRAM's 'Invert' BY CONTRACT.
-/


namespace Go.Proofs.Ytkjolopdpihigaa.Gf
set_option linter.unusedVariables false
set_option linter.unusedSimpArgs false
open Go.RowKit

theorem swp_any {w : World} {base u g L C o1 o2 n c cc : Nat} {f : Nat → UInt8} (hR : RowF w base u g L C f) (h1 : o1 + n ≤ L) (h2 : o2 + n ≤ L) (hL : L ≤ 1000000) (hd : o1 = o2 ∨ o1 + n ≤ o2 ∨ o2 + n ≤ o1) :
    Calls Try.prog 67 #[.slice (some ⟨g, o1, none⟩) n c, .slice (some ⟨g, o2, none⟩) n cc] w fun e w' =>
      e = .returned (.tuple #[]) ∧ Only g w w' ∧ RowF w' base u g L C (swapK f o1 o2 n) := by
  rcases hd with e | hd
  · subst e; rw [swapK_same]; exact swp_same hR h1 hL
  · exact swp_apart hR h1 h2 hL hd
theorem Free.new1 (w : World) (o : Obj) (cs : Array Value) (t : TypeId) : Free ((w.alloc o).alloc (.cells cs t)) (w.heap.size + 1) := by
  have h := Free.new (w.alloc o) cs t
  rwa [World.size_alloc] at h

set_option maxRecDepth 100000 in
set_option maxHeartbeats 2000000 in
theorem minv_nil {va : Value} {r c : Int} {A : List UInt8} {w : World} (ha : RdM w va r c A) :
    Calls Try.prog 43 #[.pointer none, va] w (MakesErr w 1) := by
  obtain ⟨vs, rfl, h1⟩ := ha
  clear h1
  go_enter Try.func43, Try.ntmps43
  go_wp2
  go_step3
  go_wp2
  try rw [Exit.noGoto_ret]
  refine bodyPost_ret (v := .tuple #[.agg #[.int .i64 0, .int .i64 0, .slice none 0 0], .int .i64 1]) (by simp [results, Try.results43, go_sem]) rfl ⟨_, rfl, rd_none, ?_⟩
  repeat (first | exact Below.refl _ _ | apply below_lit | refine Below.setCell ?_ (by simp <;> omega) _)

set_option maxRecDepth 100000 in
set_option maxHeartbeats 2000000 in
theorem minv_bad {b : Nat} {va : Value} {r c : Int} {A : List UInt8} {w : World} (hF : FieldAt w b) (ha : RdM w va r c A) (hbad : ¬ (OkM r c A ∧ r = c)) :
    Calls Try.prog 43 #[.pointer (some ⟨b, 0, none⟩), va] w (MakesErr w 30) := by
  obtain ⟨vs, rfl, h1⟩ := ha
  clear hF
  by_cases k1 : OkM r c A
  · have k3 : (r != c) = true := by simp; intro e; exact hbad ⟨k1, e⟩
    clear hbad
    go_enter Try.func43, Try.ntmps43
    go_wp2_with fail
    go_step3
    go_wp2_with fail
    refine (mcheck_ok ⟨vs, rfl, h1.below (by repeat (first | exact Below.refl _ _ | apply below_lit))⟩ k1).mono ?_
    rintro e w2 ⟨rfl, b2⟩
    have X1 : Box w2 w.heap.size r c vs := Below.box b2 (by simp <;> omega) ((Box.new w r c vs _).alloc (by simp) _)
    have X3 : Box w2 (w.heap.size + 1) 0 0 (.slice none 0 0) := Below.box b2 (by simp <;> omega) (Box.new1 w _ 0 0 (.slice none 0 0) 52)
    have F3 : Free w2 (w.heap.size + 1) := Below.free b2 (by simp <;> omega) (Free.new1 w _ _ 52)
    have B2 : Below w.heap.size w w2 := Below.next (by repeat (first | exact Below.refl _ _ | apply below_lit)) b2
    have s2 : w.heap.size + 1 < w2.heap.size := by have := b2.size; simp at this; omega
    clear b2
    have x10 := X1.c0
    have x11 := X1.c1
    have x12 := X1.c2
    have x30 := X3.c0
    have x31 := X3.c1
    have x32 := X3.c2
    have f30 := F3.f0
    have f31 := F3.f1
    have f32 := F3.f2
    go_wp2
    try rw [Exit.noGoto_ret]
    refine bodyPost_ret (v := .tuple #[.agg #[.int .i64 0, .int .i64 0, .slice none 0 0], .int .i64 30]) (by simp [results, Try.results43, go_sem, X3.c0, X3.c1, X3.c2, F3.f0, F3.f1, F3.f2]) rfl ⟨_, rfl, rd_none, ?_⟩
    exact B2.trans ((((Only.refl _ _).setCell 0 _).setCell 1 _).setCell 2 _ |>.below (by omega))
  · clear hbad
    go_enter Try.func43, Try.ntmps43
    go_wp2_with fail
    go_step3
    go_wp2_with fail
    refine (mcheck_bad ⟨vs, rfl, h1.below (by repeat (first | exact Below.refl _ _ | apply below_lit))⟩ k1).mono ?_
    rintro e w2 ⟨rfl, b2⟩
    have X1 : Box w2 w.heap.size r c vs := Below.box b2 (by simp <;> omega) ((Box.new w r c vs _).alloc (by simp) _)
    have X3 : Box w2 (w.heap.size + 1) 0 0 (.slice none 0 0) := Below.box b2 (by simp <;> omega) (Box.new1 w _ 0 0 (.slice none 0 0) 52)
    have F3 : Free w2 (w.heap.size + 1) := Below.free b2 (by simp <;> omega) (Free.new1 w _ _ 52)
    have B2 : Below w.heap.size w w2 := Below.next (by repeat (first | exact Below.refl _ _ | apply below_lit)) b2
    have s2 : w.heap.size + 1 < w2.heap.size := by have := b2.size; simp at this; omega
    clear b2
    have x10 := X1.c0
    have x11 := X1.c1
    have x12 := X1.c2
    have x30 := X3.c0
    have x31 := X3.c1
    have x32 := X3.c2
    have f30 := F3.f0
    have f31 := F3.f1
    have f32 := F3.f2
    go_wp2
    try rw [Exit.noGoto_ret]
    refine bodyPost_ret (v := .tuple #[.agg #[.int .i64 0, .int .i64 0, .slice none 0 0], .int .i64 30]) (by simp [results, Try.results43, go_sem, X3.c0, X3.c1, X3.c2, F3.f0, F3.f1, F3.f2]) rfl ⟨_, rfl, rd_none, ?_⟩
    exact B2.trans ((((Only.refl _ _).setCell 0 _).setCell 1 _).setCell 2 _ |>.below (by omega))

/-- What a call that answers a matrix leaves, its numbers in a block of its own. -/
def MakesAt (w : World) (r c : Nat) (F : Mx) (e : Ending) (w' : World) : Prop := ∃ g M, e = .returned (.tuple #[.agg #[.int .i64 (r : Int), .int .i64 (c : Int), .slice (some ⟨g, 0, none⟩) M M], .int .i64 0]) ∧ w.heap.size ≤ g ∧ Rd w' (.slice (some ⟨g, 0, none⟩) M M) (flat r c F) ∧ Below w.heap.size w w'
theorem MakesAt.m {w w' : World} {r c : Nat} {F : Mx} {e : Ending} (h : MakesAt w r c F e w') : MakesM w r c F e w' := by
  obtain ⟨g, M, h1, _, h3, h4⟩ := h
  exact ⟨_, h1, h3, h4⟩

set_option maxRecDepth 100000 in
set_option maxHeartbeats 4000000 in
theorem minv_at {b : Nat} {va : Value} {n : Nat} {A : List UInt8} {w : World} (hF : FieldAt w b) (ha : RdM w va n n A) (k1 : OkM n n A) :
    Calls Try.prog 43 #[.pointer (some ⟨b, 0, none⟩), va] w fun e w' => (∃ V, IsInv n (en n A) V ∧ MakesAt w n n V e w') ∨ (IsSing n (en n A) ∧ MakesErr w 31 e w') := by
  obtain ⟨vs, rfl, h1⟩ := ha
  have hn : n ≤ 256 := by have := k1.2.1; omega
  go_enter Try.func43, Try.ntmps43
  go_wp2_with fail
  go_step3
  go_wp2_with fail
  refine (mcheck_ok ⟨vs, rfl, h1.below (by repeat (first | exact Below.refl _ _ | apply below_lit))⟩ k1).mono ?_
  rintro e w2 ⟨rfl, b2⟩
  have X1 : Box w2 w.heap.size n n vs := Below.box b2 (by simp <;> omega) ((Box.new w n n vs _).alloc (by simp) _)
  have X3 : Box w2 (w.heap.size + 1) 0 0 (.slice none 0 0) := Below.box b2 (by simp <;> omega) (Box.new1 w _ 0 0 (.slice none 0 0) 52)
  have F3 : Free w2 (w.heap.size + 1) := Below.free b2 (by simp <;> omega) (Free.new1 w _ _ 52)
  have B2 : Below w.heap.size w w2 := Below.next (by repeat (first | exact Below.refl _ _ | apply below_lit)) b2
  have s2 : w.heap.size + 1 < w2.heap.size := by have := b2.size; simp at this; omega
  clear b2
  have x10 := X1.c0
  have x11 := X1.c1
  have x12 := X1.c2
  go_wp2_with fail
  refine (bes_any (h1.below B2) k1).mono ?_
  rintro e w1 ⟨g, m, C, hC, hm, rfl, hg, R1, b1⟩
  have hlt := R1.lt
  have hbg : b ≠ g := by have := hF.lt; omega
  replace X1 := X1.below (by omega) b1
  replace X3 := X3.below (by omega) b1
  replace F3 := F3.below (by omega) b1
  replace B2 := Below.next B2 b1
  have hA : Below w1.heap.size w1 (w1.alloc (.cells #[.int .i64 (n : Int), .int .i64 (C : Int), .slice (some ⟨g, 0, none⟩) m m] 52)) := (Below.refl _ _).alloc (Nat.le_refl _) _
  have P1 := Box.new w1 (n : Int) (C : Int) (.slice (some ⟨g, 0, none⟩) m m) 52
  have hs1 : w2.heap.size ≤ w1.heap.size := b1.size
  replace R1 := (R1.base (show w.heap.size ≤ w2.heap.size by omega)).later hA
  replace X1 := X1.below (by omega) hA
  replace X3 := X3.below (by omega) hA
  replace F3 := F3.below (by omega) hA
  replace B2 := Below.next B2 hA
  have hms : w1.heap.size < (w1.alloc (.cells #[.int .i64 (n : Int), .int .i64 (C : Int), .slice (some ⟨g, 0, none⟩) m m] 52)).heap.size := by simp
  have hmg : w1.heap.size ≠ g := by omega
  clear hA b1 x10 x11 x12
  have x11 := X1.c1
  go_wp2
  go_step3
  go_wp2
  generalize w1.alloc (.cells #[.int .i64 (n : Int), .int .i64 (C : Int), .slice (some ⟨g, 0, none⟩) m m] 52) = w4 at *
  have hC2 : C ≤ 512 := by have := hC.out; omega
  have hnC : n ≤ C := by have := hC.out; omega
  have hmm : m ≤ 256 * 512 := by rw [hm.out]; exact Nat.mul_le_mul hn hC2
  have hF4 := hF.below B2
  clear h1 hF x11
  go_loopw [27] (fun i wr => ∃ (k : Nat) (W : Mx), k ≤ n ∧ i = .int .i64 k ∧ Turn g w4 wr ∧ RowF wr w.heap.size 5 g m m (pl C W) ∧ Hid (GJ n (en n A) W (rt n W) k ∧ ∀ i, i < k → W i i = 1)) (fun i _ => n - (intOf i).toNat)
  case atStart => exact ⟨0, wideF n A, by omega, rfl, Turn.refl _ _, R1, ⟨gj_wide n A, fun i hi => by omega⟩⟩
  case round =>
    obtain ⟨k, W, hk, rfl, hT, hRk, hgj⟩ := hrel
    clear R1
    have hs4 := hT.size
    have Y1 := X1.turn (by omega) (by omega) hT
    have Y3 := X3.turn (by omega) (by omega) hT
    have G3 := F3.turn (by omega) (by omega) hT
    have PW := P1.turn hms hmg hT
    by_cases hlt2 : k < n
    · have hlt2' : (k : Int) < (n : Int) := by omega
      obtain ⟨wo, rfl⟩ : ∃ wo, wo = wr := ⟨_, rfl⟩
      go_wp2
      go_loopw [8] (fun i wr => ∃ l : Nat, k ≤ l ∧ l ≤ n ∧ i = .int .i64 l ∧ Below wo.heap.size wo wr ∧ Hid (∀ i, k ≤ i → i < l → W i k = 0)) (fun i _ => n - (intOf i).toNat)
      case atStart => exact ⟨k, Nat.le_refl _, by omega, rfl, Below.refl _ _, (fun i h1 h2 => by omega : ∀ i, k ≤ i → i < k → W i k = 0)⟩
      case round =>
        obtain ⟨l, hkl, hl, rfl, hB5, hz⟩ := hrel
        have Z1 := Y1.below (by omega) hB5
        have z10 := Z1.c0
        have hs5 := hB5.size
        by_cases hl2 : l < n
        · have hl2' : (l : Int) < (n : Int) := by omega
          have PX := PW.below (by omega) hB5
          have y0 := PX.c0
          have y1 := PX.c1
          have y2 := PX.c2
          have hR5 := hRk.later hB5
          obtain ⟨o, ho⟩ : ∃ o, Hid (o = l * C) := ⟨_, rfl⟩
          have hom : o + C ≤ m := by rw [ho.out, hm.out, ← Nat.succ_mul]; exact Nat.mul_le_mul_right C hl2
          have hkC : k < C := by omega
          have hkC' : (k : Int) < (C : Int) := by omega
          go_wp2_with fail
          refine (row_own rfl hl2 hm hn hC2).mono ?_
          rintro e v1 ⟨rfl, bv1⟩
          rw [← ho.out]
          have hR6 := hR5.later bv1
          have c6 := hR6.cell (show o + k < m by omega)
          have e6 : pl C W (o + k) = W l k := by rw [ho.out]; exact pl_at W hkC
          rw [e6] at c6
          have hB6 := Below.next hB5 bv1
          clear hR5 bv1 e6 y0 y1 y2 z10 hB5
          by_cases hz0 : W l k = 0
          · have d0 : (((W l k).toNat : Int) != 0) = false := by rw [hz0]; rfl
            have HZ : Hid (∀ i, k ≤ i → i < l + 1 → W i k = 0) := fun i h1 h2 => by
              by_cases e : i = l
              · subst e; exact hz0
              · exact hz.out i h1 (by omega)
            clear hz hz0 hR6
            go_wp2
            go_roundw
            case rel => exact ⟨l + 1, by omega, by omega, by go_num, hB6, HZ⟩
            case measure => simp [intOf]; omega
          · have d0 : (((W l k).toNat : Int) != 0) = true := by rw [bne, eq_u8_zero]; simp [hz0]
            obtain ⟨q, hq⟩ : ∃ q, Hid (q = k * C) := ⟨_, rfl⟩
            have hqm : q + C ≤ m := by rw [hq.out, hm.out, ← Nat.succ_mul]; exact Nat.mul_le_mul_right C hlt2
            have hdis : q = o ∨ q + C ≤ o ∨ o + C ≤ q := by
              rcases Nat.lt_or_ge k l with h | h
              · right; left; rw [hq.out, ho.out, ← Nat.succ_mul]; exact Nat.mul_le_mul_right C h
              · left; rw [hq.out, ho.out, show k = l by omega]
            have hs6 := hB6.size
            have hrowK : ∀ W', Below v1.heap.size v1 W' → Calls Try.prog 65 #[.agg #[.int .i64 (n : Int), .int .i64 (C : Int), .slice (some ⟨g, 0, none⟩) m m], .int .i64 (k : Int)] W' fun e w' => e = .returned (.slice (some ⟨g, q, none⟩) C (m - q)) ∧ Below v1.heap.size v1 w' := by
              intro W' hW
              rw [hq.out]
              exact (row_own rfl hlt2 hm hn hC2).mono fun e w' he => ⟨he.1, Below.next hW he.2⟩
            have hrowL : ∀ W', Below v1.heap.size v1 W' → Calls Try.prog 65 #[.agg #[.int .i64 (n : Int), .int .i64 (C : Int), .slice (some ⟨g, 0, none⟩) m m], .int .i64 (l : Int)] W' fun e w' => e = .returned (.slice (some ⟨g, o, none⟩) C (m - o)) ∧ Below v1.heap.size v1 w' := by
              intro W' hW
              rw [ho.out]
              exact (row_own rfl hl2 hm hn hC2).mono fun e w' he => ⟨he.1, Below.next hW he.2⟩
            have P1 := PW.below (by omega) hB6
            have Q1 := P1
            have l1 : w1.heap.size < v1.heap.size := by omega
            go_wp2
            go_region_held3 (fun wx => wx.cell? ⟨w1.heap.size, 0, none⟩ = some (.int .i64 (n : Int)) ∧ wx.cell? ⟨w1.heap.size, 1, none⟩ = some (.int .i64 (C : Int)) ∧ wx.cell? ⟨w1.heap.size, 2, none⟩ = some (.slice (some ⟨g, 0, none⟩) m m)) (first | exact Box.and P1 | exact Box.and P1.drew | exact Box.and (P1.only hmg O3)) (first | (go_at_call_of 65 (Value.int IntKind.i64 (k : Int)); refine (hrowK _ (by first | assumption | exact (Below.refl _ _).drew)).mono ?_; rintro e v2 ⟨rfl, bv1⟩; replace P1 := Q1.below l1 bv1) | (go_at_call_of 65 (Value.int IntKind.i64 (l : Int)); refine (hrowL _ (by first | assumption | exact (Below.refl _ _).drew)).mono ?_; rintro e v3 ⟨rfl, bv2⟩; replace P1 := Q1.below l1 bv2) | (go_at_call 67; refine (swp_any (hR6.later bv2) hqm hom (by omega) hdis).mono ?_; rintro e v4 ⟨rfl, O3, R3⟩))
            have T7 : Turn g wo v4 := (Below.turn hB6 g).trans ((Below.turn bv2 g).trans O3.turn)
            have R7 : RowF v4 w.heap.size 5 g m m (pl C (fun i j => W (sw l k i) j)) := R3.congr (fun t ht => by
              rw [ho.out, hq.out]
              exact swapK_pl (n := n) t (by rw [← hm.out]; exact ht))
            have P7 := P1.only hmg O3
            have y0 := P7.c0
            have y1 := P7.c1
            have y2 := P7.c2
            have hswk : sw l k k = l := by
              unfold sw
              by_cases e : k = l
              · rw [if_pos e]; exact e
              · rw [if_neg e, if_pos rfl]
            have hp : (fun i j => W (sw l k i) j) k k ≠ 0 := by show W (sw l k k) k ≠ 0; rw [hswk]; exact hz0
            have hg7 := gj_round hgj.out.1 hgj.out.2 hkl hl2 hz0
            have HG7 : Hid _ := hg7
            have hF7 := hF4.turn hbg (hT.trans T7)
            clear hR6 R3 O3 bv2 bv1 hrowK hrowL Q1 P1 hB6 hg7 hgj hz c6
            go_wp2_with fail
            refine (clr_any rfl hF7 hbg R7 hm hn hC2 hlt2 hkC hp).mono ?_
            rintro e v5 ⟨rfl, T8, R8⟩
            have T9 : Hid (Turn g w4 v5) := hT.trans (T7.trans T8)
            have R9 : Hid _ := R8
            clear T8 R8 R7 T7 y0 y1 y2 hF7 hp hT
            go_wp2
            go_roundw
            case rel => exact ⟨k + 1, _, by omega, by go_num, T9.out, R9.out, HG7⟩
            case measure => simp [intOf]; omega
        · have e : l = n := by omega
          have hge : ¬ (l : Int) < (n : Int) := by omega
          have HS : Hid (IsSing n (en n A)) := hgj.out.1.sing hlt2 (fun i h1 h2 => hz.out i h1 (by omega))
          have X4 := Y3.below (by omega) hB5
          have F4 := G3.below (by omega) hB5
          have x30 := X4.c0
          have x31 := X4.c1
          have x32 := X4.c2
          have f30 := F4.f0
          have f31 := F4.f1
          have f32 := F4.f2
          clear e hz hgj hRk
          go_wp2
          try rw [Exit.noGoto_ret]
          exact bodyPost_ret (v := .tuple #[.agg #[.int .i64 0, .int .i64 0, .slice none 0 0], .int .i64 31]) (by simp [results, Try.results43, go_sem, x30, x31, x32, f30, f31, f32]) rfl (Or.inr ⟨HS.out, _, rfl, rd_none, ((B2.trans (hT.below (by omega) (by omega))).trans (hB5.mono (by omega))).trans ((((Only.refl _ _).setCell 0 _).setCell 1 _).setCell 2 _ |>.below (by omega))⟩)
    · have e : k = n := by omega
      subst e
      have HV : Hid (IsInv k (en k A) (rt k W)) := hgj.out.1.finish1 hgj.out.2
      have y0 := PW.c0
      have y1 := PW.c1
      have y2 := PW.c2
      clear hgj
      go_wp2_with fail
      refine (half_any hRk hC hm hn).mono ?_
      rintro e v1 ⟨gh, mh, hgh, rfl, hrd, bv1⟩
      have X4 := Y3.below (by omega) bv1
      have F4 := G3.below (by omega) bv1
      have hs6 := bv1.size
      have x30 := X4.c0
      have x31 := X4.c1
      have x32 := X4.c2
      have f30 := F4.f0
      have f31 := F4.f1
      have f32 := F4.f2
      have B9 := (B2.trans (hT.below (by omega) (by omega))).trans (bv1.mono (by omega))
      clear hRk y0 y1 y2
      go_wp2
      have O1 : Only (w.heap.size + 1) v1 (((v1.setCell ⟨w.heap.size + 1, 0, none⟩ (.int .i64 (k : Int))).setCell ⟨w.heap.size + 1, 1, none⟩ (.int .i64 (k : Int))).setCell ⟨w.heap.size + 1, 2, none⟩ (.slice (some ⟨gh, 0, none⟩) mh mh)) :=
        (((Only.refl _ _).setCell 0 _).setCell 1 _).setCell 2 _
      try rw [Exit.noGoto_ret]
      exact bodyPost_ret (v := .tuple #[.agg #[.int .i64 (k : Int), .int .i64 (k : Int), .slice (some ⟨gh, 0, none⟩) mh mh], .int .i64 0]) (by simp [results, Try.results43, go_sem, x30, x31, x32, f30, f31, f32]) rfl (Or.inl ⟨rt k W, HV.out, gh, mh, rfl, by omega, hrd.only (apart_block (by omega)) O1, B9.trans (O1.below (by omega))⟩)

theorem minv_ok {b : Nat} {va : Value} {n : Nat} {A : List UInt8} {w : World} (hF : FieldAt w b) (ha : RdM w va n n A) (k1 : OkM n n A) :
    Calls Try.prog 43 #[.pointer (some ⟨b, 0, none⟩), va] w fun e w' => (∃ V, IsInv n (en n A) V ∧ MakesM w n n V e w') ∨ (IsSing n (en n A) ∧ MakesErr w 31 e w') :=
  (minv_at hF ha k1).mono fun e w' h => h.imp (fun ⟨V, h1, h2⟩ => ⟨V, h1, h2.m⟩) id

end Go.Proofs.Ytkjolopdpihigaa.Gf

/-
  THE PROGRAM's 'undoing' BY CONTRACT.
-/



namespace Go.Proofs.Ytkjolopdpihigaa.Gf
set_option linter.unusedVariables false
set_option linter.unusedSimpArgs false
open Go.RowKit

/-- the rows that are picked -/
theorem pick_gen {k m : Nat} {h : List Bool} {i j : Nat} (hi : i < k) (hj : j < k) (hin : pl7 h i < k + m) : pickF k (flat (k + m) k (genF k)) (toI (pls7 h k)) i j = rowsF k (pl7 h) i j := by
  unfold pickF rowsF
  rw [toI_getD, pls7_getD hi, Int.toNat_natCast]
  exact en_flat (genF k) hin hj
theorem pls7_length {h : List Bool} {k : Nat} (hk : k ≤ (thr h h.length).length) : (pls7 h k).length = k := by unfold pls7; rw [List.length_take]; omega
theorem gen_inv {k m : Nat} {h : List Bool} (h2 : k + m ≤ 256) (hl : h.length = k + m) (hk : k ≤ (thr h h.length).length) : ¬ IsSing k (rowsF k (pl7 h)) :=
  gen_rows (N := k + m) h2 (by omega) (pl7 h) (fun i hi => by have := (pl7_in (h := h) (i := i) (by omega)).1; omega) (fun i j hi hj hij e => hij (pl7_inj (by omega) (by omega) e))

set_option maxRecDepth 100000 in
set_option maxHeartbeats 2000000 in
theorem eund_ok {b : Nat} {va vr : Value} {k m : Nat} {h : List Bool} {w : World} (hF : FieldAt w b) (ha : RdM w va ((k + m : Nat) : Int) (k : Int) (flat (k + m) k (genF k))) (hr : RdI w vr (toI (pls7 h k))) (h1 : 1 ≤ k) (h2 : k + m ≤ 256) (hl : h.length = k + m) (hk : k ≤ (thr h h.length).length) :
    Calls Try.prog 25 #[.pointer (some ⟨b, 0, none⟩), va, vr] w fun e w' => IsInv k (rowsF k (pl7 h)) (invF k (pl7 h)) ∧ MakesM w k k (invF k (pl7 h)) e w' := by
  have hin : Hid (∀ i, i < k → pl7 h i < k + m) := fun i hi => by have := (pl7_in (h := h) (i := i) (by omega)).1; omega
  have hZ : Hid ((toI (pls7 h k)).length = k) := by show _ = _; rw [toI_length]; exact pls7_length hk
  have hns : Hid (¬ IsSing k (rowsF k (pl7 h))) := gen_inv h2 hl hk
  have hall : Hid (AllIn (k + m) (toI (pls7 h k))) := fun i hi => by
    rw [hZ.out] at hi
    have := hin.out i hi
    rw [toI_getD, pls7_getD hi]
    omega
  clear hk
  obtain ⟨vs, rfl, hA⟩ := ha
  obtain ⟨sa, sc, rfl⟩ := hA.form
  obtain ⟨ra, rc, rfl⟩ := hr.form
  rw [hZ.out] at hr ⊢
  obtain ⟨N, hN⟩ : ∃ N, Hid (N = (flat (k + m) k (genF k)).length) := ⟨_, rfl⟩
  rw [← hN.out] at hA ⊢
  obtain ⟨s, hs⟩ : ∃ s, Hid (s = k + m) := ⟨_, rfl⟩
  have k1 : OkM (s : Int) (k : Int) (flat (k + m) k (genF k)) := okM_mk (by rw [hs.out]; exact h2) (by omega) (by rw [flat_length, hs.out])
  rw [← hs.out]
  go_enter Try.func25, Try.ntmps25
  have A0 : Below w.heap.size w ((w.alloc (.cells #[.int .i64 (s : Int), .int .i64 (k : Int), .slice sa N sc] 52)).alloc (.cells #[.int .i64 0, .int .i64 0, .slice none 0 0] 52)) := ((Below.refl _ _).alloc (Nat.le_refl _) _).alloc (by simp) _
  go_wp2_with fail
  refine (mpick_ok (r := s) (c := k) (zs := toI (pls7 h k)) ⟨_, rfl, hA.below A0⟩ (hr.below A0) k1 (by rw [hZ.out]; omega)).mono ?_
  rintro e w2 (⟨_, vp, rfl, hP, b2⟩ | ⟨hno, _⟩)
  · rw [hZ.out] at hP ⊢
    have X3 : Box w2 (w.heap.size + 1) 0 0 (.slice none 0 0) := Below.box b2 (by simp) (by have := Box.new (w.alloc (.cells #[.int .i64 (s : Int), .int .i64 (k : Int), .slice sa N sc] 52)) 0 0 (.slice none 0 0) 52; rwa [World.size_alloc] at this)
    have F3 : Free w2 (w.heap.size + 1) := Below.free b2 (by simp) (by have := Free.new (w.alloc (.cells #[.int .i64 (s : Int), .int .i64 (k : Int), .slice sa N sc] 52)) #[.int .i64 0, .int .i64 0, .slice none 0 0] 52; rwa [World.size_alloc] at this)
    have hs2 : w.heap.size + 1 < w2.heap.size := by have := b2.size; simp at this; omega
    have B2 : Below w.heap.size w w2 := Below.next A0 b2
    have hF2 := hF.below B2
    obtain ⟨pa, pc, rfl⟩ := hP.form
    rw [flat_length] at hP ⊢
    obtain ⟨M, hM⟩ : ∃ M, Hid (M = k * k) := ⟨_, rfl⟩
    rw [← hM.out] at hP ⊢
    have A2 : Below w2.heap.size w2 (w2.alloc (.cells #[.int .i64 (k : Int), .int .i64 (k : Int), .slice pa M pc] 52)) := (Below.refl _ _).alloc (Nat.le_refl _) _
    have kk : OkM (k : Int) (k : Int) (flat k k (pickF k (flat (k + m) k (genF k)) (toI (pls7 h k)))) := okM_mk (by omega) (by omega) (by rw [flat_length])
    clear hF hr hA A0 b2
    go_wp2_with fail
    refine (minv_at (n := k) (hF2.below A2) ⟨_, rfl, hP.below A2⟩ kk).mono ?_
    have cong : Hid (∀ i j, i < k → j < k → en k (flat k k (pickF k (flat (k + m) k (genF k)) (toI (pls7 h k)))) i j = rowsF k (pl7 h) i j) := fun i j hi hj => by
      rw [en_flat _ hi hj]; exact pick_gen hi hj (hin.out i hi)
    rintro e w3 (⟨V, hV, gi, I, rfl, hgi, hR3, b3⟩ | ⟨hsg, _⟩)
    · have hV' : Hid (IsInv k (rowsF k (pl7 h)) V) := hV.congr cong.out (fun _ _ _ _ => rfl)
      have B3 : Below w.heap.size w w3 := B2.trans ((Below.next A2 b3).mono (by omega))
      have X4 : Box w3 (w.heap.size + 1) 0 0 (.slice none 0 0) := Below.box (Below.next A2 b3) hs2 X3
      have F4 : Free w3 (w.heap.size + 1) := Below.free (Below.next A2 b3) hs2 F3
      have hs3 : w.heap.size + 1 < w3.heap.size := by have := (Below.next A2 b3).size; omega
      rw [invF_flat hV'.out] at hR3
      have hgi2 : gi ≠ w.heap.size + 1 := by simp at hgi; omega
      clear hV hP hF2 A2 b3 X3 F3 kk cong
      have x30 := X4.c0
      have x31 := X4.c1
      have x32 := X4.c2
      have f30 := F4.f0
      have f31 := F4.f1
      have f32 := F4.f2
      go_wp2
      have O1 : Only (w.heap.size + 1) w3 (((w3.setCell ⟨w.heap.size + 1, 0, none⟩ (.int .i64 (k : Int))).setCell ⟨w.heap.size + 1, 1, none⟩ (.int .i64 (k : Int))).setCell ⟨w.heap.size + 1, 2, none⟩ (.slice (some ⟨gi, 0, none⟩) I I)) :=
        (((Only.refl _ _).setCell 0 _).setCell 1 _).setCell 2 _
      exact bodyPost_ret (v := .tuple #[.agg #[.int .i64 (k : Int), .int .i64 (k : Int), .slice (some ⟨gi, 0, none⟩) I I], .int .i64 0]) (by simp [results, Try.results25, go_sem, x30, x31, x32, f30, f31, f32]) rfl ⟨invF_is ⟨V, hV'.out⟩, _, rfl, hR3.only (apart_block hgi2) O1, B3.trans (O1.below (by omega))⟩
    · exact absurd (hsg.congr cong.out) hns.out
  · exact absurd (by rw [hs.out]; exact hall.out) hno

end Go.Proofs.Ytkjolopdpihigaa.Gf

/-
  THE PROGRAM's 'Generator' BY CONTRACT.
-/

namespace Go.Proofs.Ytkjolopdpihigaa.Gf
set_option linter.unusedVariables false
set_option linter.unusedSimpArgs false
open Go.RowKit

theorem enters_gen1 : Hid (∀ (args : Array Value) (w : World), Sem.run Try.prog (callFunc 41 args) w = .ok (.enter 41 args) w) := enters_of Try.func41 (by kernel_rfl) rfl

set_option maxRecDepth 100000 in
set_option maxHeartbeats 1000000 in
theorem cgen_bad {b : Nat} {k m : Int} {w : World} (hF : FieldAt w b) (h : ¬ OkC k m) : Calls Try.prog 22 #[.pointer (some ⟨b, 0, none⟩), .int .i64 k, .int .i64 m] w (MakesErr w 50) := by
  go_enter Try.func22, Try.ntmps22
  go_wp2_with fail
  refine (ccf_bad _ h).mono ?_
  rintro e w2 ⟨rfl, rfl⟩
  clear h
  go_wp2
  refine bodyPost_ret (v := .tuple #[.agg #[.int .i64 0, .int .i64 0, .slice none 0 0], .int .i64 50]) (by simp [results, Try.results22, go_sem]) rfl ⟨_, rfl, rd_none, ((Below.refl _ _).alloc (Nat.le_refl _) _).alloc (by simp) _⟩

set_option maxRecDepth 100000 in
set_option maxHeartbeats 1000000 in
/-- Generator's closure fills a row. -/
theorem gen_fill {w : World} {b kb fb kb2 pb k i o cap g m base : Nat} {f : Nat → UInt8} (hF : FieldAt w b) (hb : b ≠ g) (hl : Fills w b k kb fb) (hk : kb ≠ g) (hf : fb ≠ g)
    (c2 : w.cell? ⟨kb2, 0, none⟩ = some (.int .i64 (k : Int))) (cp : w.cell? ⟨pb, 0, none⟩ = some (.func (.func 60) #[] #[.pointer (some ⟨kb, 0, none⟩), .pointer (some ⟨fb, 0, none⟩)]))
    (hi : i < 256) (hn : k ≤ 256) (hom : o + k ≤ m) (R : RowF w base 5 g m m f) {x : Int} (hx : x = (i : Int)) :
    Calls Try.prog 41 #[.int .i64 x, .slice (some ⟨g, o, none⟩) k cap, .pointer (some ⟨kb2, 0, none⟩), .pointer (some ⟨pb, 0, none⟩)] w fun e w' => e = .returned (.tuple #[]) ∧ Only g w w' ∧
      RowF w' base 5 g m m (if i < k then fun t => if t = o + i then 1 else f t else putAt f o k (fun j => parF k (i - k) j)) := by
  subst hx
  by_cases hik : i < k
  · have hik' : (i : Int) < (k : Int) := by omega
    rw [if_pos hik]
    have c4 := R.cell (show o + i < m by omega)
    have f4 := R.unfrozen (o + i)
    have HN : Hid (RowF (w.setCell ⟨g, o + i, none⟩ (.int .u8 1)) base 5 g m m (fun t => if t = o + i then 1 else f t)) := R.store (show o + i < m by omega) 1 (fun _ => rfl)
    have HT : Hid (Only g w (w.setCell ⟨g, o + i, none⟩ (.int .u8 1))) := (Only.refl _ _).setCell _ _
    clear R hF
    go_enter Try.func41, Try.ntmps41
    go_wp2
    exact bodyPost_ret (v := .tuple #[]) (by simp [results, Try.results41, go_sem]) rfl ⟨rfl, HT.out, HN.out⟩
  · have hik' : ¬ (i : Int) < (k : Int) := by omega
    rw [if_neg hik]
    obtain ⟨d, hd⟩ : ∃ d, Hid (d = i - k) := ⟨_, rfl⟩
    have g1 : (i : Int) - (k : Int) = (d : Int) := by have := hd.out; omega
    rw [← hd.out]
    go_enter Try.func41, Try.ntmps41
    go_wp2_with fail
    refine (prow_fill (i := d) (n := k) (base := base) hF hb hl.ck hk hl.cf hf (by have := hd.out; omega) (Nat.le_refl _) hn hom R rfl).mono ?_
    rintro e w' ⟨rfl, hO, hR⟩
    go_wp2
    go_end0
    exact ⟨rfl, hO, hR⟩

set_option maxRecDepth 100000 in
set_option maxHeartbeats 2000000 in
theorem cgen_ok {b : Nat} {w : World} (k m : Nat) (hF : FieldAt w b) (h1 : 1 ≤ k) (h2 : k + m ≤ 256) {x y : Int} (hx : x = (k : Int)) (hy : y = (m : Int)) :
    Calls Try.prog 22 #[.pointer (some ⟨b, 0, none⟩), .int .i64 x, .int .i64 y] w (MakesM w (k + m) k (genF k)) := by
  subst hx hy
  obtain ⟨s, hs⟩ : ∃ s, Hid (s = k + m) := ⟨_, rfl⟩
  have g1 : (k : Int) + (m : Int) = (s : Int) := by have := hs.out; omega
  have hs2 : s ≤ 256 := by rw [hs.out]; exact h2
  have w0 : IntKind.i64.wrap (s : Int) = (s : Int) := by rw [IntKind.wrap_i64]; omega
  rw [← hs.out]
  go_enter Try.func22, Try.ntmps22
  go_wp2_with fail
  refine (ccf_ok _ (okC_mk h1 h2)).mono ?_
  rintro e w2 ⟨rfl, rfl⟩
  go_wp2_with fail
  refine (prow_make k _ rfl).mono ?_
  rintro e w1 ⟨kb, fb, rfl, hfl, b1⟩
  have C0 : w1.cell? ⟨w.heap.size, 0, none⟩ = some (.int .i64 (k : Int)) := (b1.cell (p := ⟨w.heap.size, 0, none⟩) (by simp <;> omega)).trans (by simp)
  have X3 : Box w1 (w.heap.size + 1) 0 0 (.slice none 0 0) := Below.box b1 (by simp <;> omega) ⟨by simp, by simp, by simp⟩
  have F3 : Free w1 (w.heap.size + 1) := Below.free b1 (by simp <;> omega) ⟨by simp, by simp, by simp⟩
  have B1 : Below w.heap.size w w1 := Below.next (((Below.refl _ _).alloc (Nat.le_refl _) _).alloc (by simp) _) b1
  have hF1 := hF.below B1
  have hs1 : w.heap.size + 1 < w1.heap.size := by have := b1.size; simp at this; omega
  clear b1
  have hA : Below w1.heap.size w1 (w1.alloc (.cells #[.func (.func 60) #[] #[.pointer (some ⟨kb, 0, none⟩), .pointer (some ⟨fb, 0, none⟩)]] 74)) := (Below.refl _ _).alloc (Nat.le_refl _) _
  have CP : (w1.alloc (.cells #[.func (.func 60) #[] #[.pointer (some ⟨kb, 0, none⟩), .pointer (some ⟨fb, 0, none⟩)]] 74)).cell? ⟨w1.heap.size, 0, none⟩ = some (.func (.func 60) #[] #[.pointer (some ⟨kb, 0, none⟩), .pointer (some ⟨fb, 0, none⟩)]) := by simp
  have hpl : w1.heap.size < (w1.alloc (.cells #[.func (.func 60) #[] #[.pointer (some ⟨kb, 0, none⟩), .pointer (some ⟨fb, 0, none⟩)]] 74)).heap.size := by simp
  have C0w := C0
  replace C0 := (hA.cell (p := ⟨w.heap.size, 0, none⟩) (by show w.heap.size < _; omega)).trans C0
  replace X3 := X3.below (by omega) hA
  replace F3 := F3.below (by omega) hA
  replace B1 := Below.next B1 hA
  replace hF1 := hF1.below hA
  replace hfl := hfl.below hA
  clear hA
  go_wp2_with fail
  generalize w1.alloc (.cells #[.func (.func 60) #[] #[.pointer (some ⟨kb, 0, none⟩), .pointer (some ⟨fb, 0, none⟩)]] 74) = w5 at *
  refine (made_any s k w5 hs2 (by omega) h1 (genF k) enters_gen1 ?_ rfl rfl).mono ?_
  · intro g M i o W hi hM ho hg hB R
    have hf2 := hfl.below hB
    refine (gen_fill (i := i) (hF1.below hB) (by have := hF1.lt; omega) hf2 (by have := hfl.lk; omega) (by have := hfl.lf; omega) ((hB.cell (p := ⟨w.heap.size, 0, none⟩) (by show w.heap.size < _; omega)).trans C0) ((hB.cell (p := ⟨w1.heap.size, 0, none⟩) hpl).trans CP) (by omega) (by omega) (by rw [ho.out, hM.out, ← Nat.succ_mul]; exact Nat.mul_le_mul_right k hi) R rfl).mono ?_
    rintro e w' ⟨rfl, hO, hR⟩
    refine ⟨rfl, hO.turn, hR.congr ?_⟩
    rw [hM.out]
    by_cases hik : i < k
    · rw [if_pos hik]
      refine upR_row (fun t ht hne => if_neg fun e => hne ?_) (fun j hj => ?_)
      · rw [e, ho.out]; exact place_div hik
      · show (if i * k + j = o + i then (1 : UInt8) else pl k (upR (genF k) i) (i * k + j)) = genF k i j
        rw [upR_at hj, ho.out]
        unfold genF
        rw [if_pos hik]
        by_cases e : j = i
        · subst e; rw [if_pos rfl, one_self]
        · rw [if_neg (by omega), one_ne (fun h => e h.symm)]
    · rw [if_neg hik]
      refine upR_row (fun t ht hne => putAt_out (not_in_row ho.out (by omega) hne (Nat.le_refl _))) (fun j hj => ?_)
      rw [ho.out, putAt_in hj]
      unfold genF
      rw [if_neg hik]
  · rintro e w4 ⟨g, M, rfl, hg, hR, b4⟩
    have X4 := X3.below (by omega) b4
    have F4 := F3.below (by omega) b4
    have B4 : Below w.heap.size w w4 := Below.next B1 b4
    have x30 := X4.c0
    have x31 := X4.c1
    have x32 := X4.c2
    have f30 := F4.f0
    have f31 := F4.f1
    have f32 := F4.f2
    go_wp2
    have O1 : Only (w.heap.size + 1) w4 (((w4.setCell ⟨w.heap.size + 1, 0, none⟩ (.int .i64 (s : Int))).setCell ⟨w.heap.size + 1, 1, none⟩ (.int .i64 (k : Int))).setCell ⟨w.heap.size + 1, 2, none⟩ (.slice (some ⟨g, 0, none⟩) M M)) :=
      (((Only.refl _ _).setCell 0 _).setCell 1 _).setCell 2 _
    refine bodyPost_ret (v := .tuple #[.agg #[.int .i64 (s : Int), .int .i64 (k : Int), .slice (some ⟨g, 0, none⟩) M M], .int .i64 0]) (by simp [results, Try.results22, go_sem, x30, x31, x32, f30, f31, f32]) rfl ⟨_, rfl, hR.only (apart_block (by omega)) O1, B4.trans (O1.below (by omega))⟩

end Go.Proofs.Ytkjolopdpihigaa.Gf

/-
  THE DOCUMENT's ANSWER FOR LAYER 6 (package aumbryref06) BY CONTRACT: 'Copied'.
-/

namespace Go.Proofs.Ytkjolopdpihigaa.Gf
set_option linter.unusedVariables false
set_option linter.unusedSimpArgs false
open Go.RowKit

theorem info_shard : (Try.prog.info? 34).map (fun i => (i.zero, i.size, i.bytes)) = some (some (.slice none 0 0), 1, 24) := by kernel_rfl
theorem take_next {M : List (List UInt8)} {k : Nat} (h : k < M.length) : M.take (k + 1) = M.take k ++ [ro M k] := by
  rw [List.take_add_one, ro_some h]; rfl

set_option maxRecDepth 100000 in
set_option maxHeartbeats 2000000 in
theorem rcop_any {v : Value} {L : List (List UInt8)} {w : World} (h : Rs w v L) (hS : Small L) : Calls Try.prog 16 #[v] w fun e w' => ∃ v', e = .returned v' ∧ Os w' w.heap.size 34 5 v' L ∧ Below w.heap.size w w' := by
  obtain ⟨i0, hi, hz0, hz1, hz2⟩ := info_parts info_u8
  obtain ⟨i1, hj, hy0, hy1, hy2⟩ := info_parts info_shard
  obtain ⟨a, c, rfl⟩ := h.form
  have hl := hS.1
  go_enter Try.func16, Try.ntmps16
  go_wp2
  go_loopw [3, 4] (fun o i wr => ∃ k : Nat, k ≤ L.length ∧ i = .int .i64 k ∧ Os wr w.heap.size 34 5 o (L.take k) ∧ Below w.heap.size w wr) (fun _ i _ => L.length - (intOf i).toNat)
  case atStart => exact ⟨0, by omega, rfl, Os.nil _ _ _ _, Below.refl _ _⟩
  case round =>
    obtain ⟨k, hk, rfl, hO, hB⟩ := hrel
    have hsz := hB.size
    by_cases hlt : k < L.length
    · obtain ⟨b, off, xa, xc, rfl, hb, c1, r1⟩ := (h.below hB).at hlt
      have hlt' : (k : Int) < (L.length : Int) := by omega
      have hln := hS.2 k
      obtain ⟨p, hp⟩ : ∃ p, Hid (p = ro L k) := ⟨_, rfl⟩
      have HT : Hid (L.take (k + 1) = L.take k ++ [p]) := by show _ = _; rw [hp.out]; exact take_next hlt
      have HL : Hid ((L.take k).length = k) := by show _ = _; rw [List.length_take]; omega
      rw [← hp.out] at c1 r1 hln
      obtain ⟨av, cv, ev⟩ := hO.form
      rw [HL.out] at ev
      subst ev
      have hE : (wr.alloc (.cells #[] 5)).ownsRow w.heap.size 5 1 (.slice (some ⟨wr.heap.size, 0, none⟩) 0 0) 0 [] := World.ownsRow_made wr #[] 0 hsz (Nat.zero_le _) rfl
      have hA1 : Below wr.heap.size wr (wr.alloc (.cells #[] 5)) := (Below.refl _ _).alloc (Nat.le_refl _) _
      have HR2 : Hid _ := r1.below hA1
      clear h hS r1 hp
      go_wp2_with (first
        | (at_builtin; refine wpList_append_rd2 _ rfl (.tmp 12) (.tmp 16) 34 rfl w.heap.size 5 i0 Try.underlying34 hi hz0 hz1 hz2 (.slice (some ⟨wr.heap.size, 0, none⟩) 0 0) 0 [] rfl hE _ _ rfl HR2.out (by omega) (by simp; omega) ?_; intro x w5 hx5 hg5 hb5; rw [List.nil_append, Nat.zero_add] at hx5; obtain ⟨ax, cx, ex⟩ := owns_form hx5; subst ex)
        | (at_builtin; go_loud (refine wpList_append_os rfl (.tmp 11) (.tmp 18) 24 rfl w.heap.size 34 i1 Try.underlying24 hj hy0 hy1 hy2 5 (.slice av k cv) (L.take k) rfl hO (hA1.trans (by exact (Below.refl _ _).grown hg5 (by simp) (fun q hq => by cases hq; exact Nat.le_refl _))) (.slice ax p.length cx) p hx5 (by intro q hq; rcases hb5 with e | e <;> (rw [e] at hq; cases hq; simp)) _ 1 rfl (by rw [HL.out]; omega) hsz ?_); intro v' w6 hv6 hb6 _ _))
      rw [← HT.out] at hv6
      have HB : Hid (Below w.heap.size w w6) := hB.trans hb6
      have HO : Hid (Os w6 w.heap.size 34 5 v' (L.take (k + 1))) := hv6
      clear hB hb6 hv6 hO hx5 hg5 hb5 hE HR2 hA1 c1
      go_roundw
      case rel => exact ⟨k + 1, by omega, by go_num, HO.out, HB.out⟩
      case measure => simp [intOf]; omega
    · have e : k = L.length := by omega
      have hge : ¬ (k : Int) < (L.length : Int) := by omega
      rw [e, List.take_length] at hO
      clear h hS e
      go_wp2
      go_ret
      exact ⟨_, rfl, hO, hB⟩

end Go.Proofs.Ytkjolopdpihigaa.Gf

/-
  THE PROGRAM's 'encoded' BY CONTRACT.
-/


namespace Go.Proofs.Ytkjolopdpihigaa.Gf
set_option linter.unusedVariables false
set_option linter.unusedSimpArgs false
open Go.RowKit

theorem OwnP.row {w : World} {base base' u g : Nat} {p : List UInt8} (h : RowF w base u g p.length p.length (co p)) (hb : base' ≤ base) : OwnP w base' u (.slice (some ⟨g, 0, none⟩) p.length p.length) p := by
  have := h.base hb
  unfold RowF at this
  rw [upto_co] at this
  exact this
theorem OwnP.rowF {w : World} {base u g n : Nat} {f : Nat → UInt8} (h : RowF w base u g n n f) : OwnP w base u (.slice (some ⟨g, 0, none⟩) n n) (upto f n) := by
  unfold OwnP
  rw [upto_length]
  exact h

set_option maxRecDepth 100000 in
set_option maxHeartbeats 4000000 in
theorem encd_any {w : World} {b : Nat} {vs v : Value} {L : List (List UInt8)} (m k : Nat) (F : Mx) (hF : FieldAt w b) (hA : Rd w vs (flat m k F)) (h1 : 1 ≤ k) (h2 : k + m ≤ 256) (h : Rs w v L) (hL : L.length = k) (hE : Even L) (hS : Small L) {x y : Int} (hx : x = (m : Int)) (hy : y = (k : Int)) :
    Calls Try.prog 35 #[.pointer (some ⟨b, 0, none⟩), .agg #[.int .i64 x, .int .i64 y, vs], v] w fun e w' => ∃ v', e = .returned v' ∧ Rs w' v' (encL m k F L) ∧ Below w.heap.size w w' := by
  subst hx hy
  obtain ⟨i0, hi, hz0, hz1, hz2⟩ := info_parts info_u8
  obtain ⟨i1, hj, hy0, hy1, hy2⟩ := info_parts info_shard
  obtain ⟨db, doff, dc, rfl, hdb, hdc, hdm⟩ := h.somewhere (by omega)
  have hLh : Hid (L.length = k) := hL
  rw [hL] at h ⊢
  clear hL
  obtain ⟨N, hN⟩ : ∃ N, Hid (N = (flat m k F).length) := ⟨_, rfl⟩
  obtain ⟨va, vc, rfl⟩ := hA.form
  rw [← hN.out] at hA ⊢
  have hNm : Hid (N = m * k) := by show _ = _; rw [hN.out, flat_length]
  have B0 : Below w.heap.size w (w.alloc (.cells #[.int .i64 (m : Int), .int .i64 (k : Int), .slice va N vc] 52)) := (Below.refl _ _).alloc (Nat.le_refl _) _
  have X0 := Box.new w (m : Int) (k : Int) (.slice va N vc) 52
  have s0 : (w.alloc (.cells #[.int .i64 (m : Int), .int .i64 (k : Int), .slice va N vc] 52)).heap.size = w.heap.size + 1 := by simp
  have gk : (k : Int) + (m : Int) = ((k + m : Nat) : Int) := by omega
  have gw : IntKind.i64.wrap ((k + m : Nat) : Int) = ((k + m : Nat) : Int) := by rw [IntKind.wrap_i64]; omega
  obtain ⟨K, hK⟩ : ∃ K, Hid (K = k + m) := ⟨_, rfl⟩
  have hK2 : K ≤ 256 := by have := hK.out; omega
  rw [← hK.out] at gk gw
  go_enter Try.func35, Try.ntmps35
  go_wp2_with (at_make; go_loud (refine wpList_make_own _ rfl _ (.tmp 19) 24 rfl (w.alloc (.cells #[.int .i64 (m : Int), .int .i64 (k : Int), .slice va N vc] 52)).heap.size 34 i1 (.slice none 0 0) 1 Try.underlying24 hj hy0 hy1 _ _ _ K rfl rfl rfl (by rw [hy2]; omega) (by unfold maxLen; omega) (Nat.le_refl _) ?_); intro w1 hown1 hgrow1)
  generalize w.alloc (.cells #[.int .i64 (m : Int), .int .i64 (k : Int), .slice va N vc] 52) = w0 at *
  have HO1 : Hid (Os w1 w0.heap.size 34 5 (.slice (some ⟨w0.heap.size, 0, none⟩) 0 K) []) := ⟨[], hown1, RowsO.nil _ _ _ _ _⟩
  have HB1 : Hid (Below w0.heap.size w0 w1) := (Below.refl _ _).grown hgrow1 (Nat.le_refl _) (fun q hq => by cases hq)
  clear hown1 hgrow1
  obtain ⟨B, hBB⟩ : ∃ B, Hid (B = w0.heap.size) := ⟨_, rfl⟩
  have hsB : w.heap.size < B := by rw [hBB.out]; omega
  rw [← hBB.out] at HO1
  rw [← s0, ← hBB.out]
  have h0 := h.below B0
  have hA0 := hA.below B0
  have hF0 := hF.below B0
  rw [← hBB.out] at HB1
  have X1 : ∀ wr, Below B w0 wr → Box wr w.heap.size (m : Int) (k : Int) (.slice va N vc) := fun wr hb => X0.below hsB hb
  have D1 : ∀ wr, Below B w0 wr → Rs wr (.slice (some ⟨db, doff, none⟩) k dc) L := fun wr hb => h0.below (by rw [← hBB.out]; exact hb)
  have A1 : ∀ wr, Below B w0 wr → Rd wr (.slice va N vc) (flat m k F) := fun wr hb => hA0.below (by rw [← hBB.out]; exact hb)
  have F1 : ∀ wr, Below B w0 wr → FieldAt wr b := fun wr hb => hF0.below (by rw [← hBB.out]; exact hb)
  have HX : Hid _ := X1
  have HD : Hid _ := D1
  have HA : Hid _ := A1
  have HF : Hid _ := F1
  have HB0 : Hid (Below w.heap.size w w0) := B0
  have hbB : b < B := by have := hF.lt; omega
  have hdB : db < B := by omega
  have hsz : B ≤ w1.heap.size := by rw [hBB.out]; exact HB1.out.size
  clear X1 D1 A1 F1 h0 hA0 hF0 h hA hF X0 B0 s0
  have hS1 := hS.1
  have hSk : Hid (∀ i, (ro L i).length ≤ 300) := hS.2
  have hEv : Hid (Even L) := hE
  clear hS hE hN
  go_wp2
  go_loopw [7, 23] (fun o i wr => ∃ c : Nat, c ≤ k ∧ i = .int .i64 c ∧ Os wr B 34 5 o (L.take c) ∧ Below B w0 wr) (fun _ i _ => k - (intOf i).toNat)
  case atStart => exact ⟨0, by omega, rfl, HO1.out, HB1.out⟩
  case round =>
    obtain ⟨c, hc, rfl, hO, hB⟩ := hrel
    clear HO1 HB1
    have hszr : B ≤ wr.heap.size := by rw [hBB.out]; exact hB.size
    by_cases hlt : c < k
    · have hlL : c < L.length := by rw [hLh.out]; exact hlt
      obtain ⟨xa, xc, c1, r1⟩ := (HD.out _ hB).get hlL
      have hlt' : (c : Int) < (k : Int) := by omega
      have hln := hSk.out c
      obtain ⟨p, hp⟩ : ∃ p, Hid (p = ro L c) := ⟨_, rfl⟩
      have HT : Hid (L.take (c + 1) = L.take c ++ [p]) := by show _ = _; rw [hp.out]; exact take_next hlL
      have HL : Hid ((L.take c).length = c) := by show _ = _; rw [List.length_take]; omega
      rw [← hp.out] at c1 r1 hln
      obtain ⟨av, cv, ev⟩ := hO.form
      rw [HL.out] at ev
      subst ev
      have hdw : db < wr.heap.size := by omega
      clear hp
      go_wp2_with fail
      refine (cop_any r1 (by omega)).mono ?_
      rintro e w5 ⟨g, rfl, hg, hR, b5⟩
      go_wp2_with (at_builtin; go_loud (refine wpList_append_os rfl (.tmp 27) (.tmp 30) 24 rfl B 34 i1 Try.underlying24 hj hy0 hy1 hy2 5 (.slice av c cv) (L.take c) rfl hO b5 (.slice (some ⟨g, 0, none⟩) p.length p.length) p (OwnP.row hR hszr) (by intro q hq; cases hq; exact hg) _ 1 rfl (by rw [HL.out]; omega) hszr ?_); intro v' w6 hv6 hb6 _ _)
      rw [← HT.out] at hv6
      have HBn : Hid (Below B w0 w6) := hB.trans hb6
      have HOn : Hid (Os w6 B 34 5 v' (L.take (c + 1))) := hv6
      clear hB hb6 hv6 hO hR b5 c1 r1
      go_roundw
      case rel => exact ⟨c + 1, by omega, by go_num, HOn.out, HBn.out⟩
      case measure => simp [intOf]; omega
    · have hge : ¬ (c : Int) < (k : Int) := by omega
      have e : L.take c = L := by rw [show c = L.length by rw [hLh.out]; omega, List.take_length]
      rw [e] at hO
      clear e
      go_wp2_with fail
      refine (add0_any _).mono ?_
      rintro e w6 ⟨fb, rfl, cf, hfb, hfl, b6⟩
      have hO6 := hO.later b6
      have hB6 : Below B w0 w6 := hB.trans (b6.mono hszr)
      have ho6 : Hid (u7.ownBlock ≠ some fb) := by
        obtain ⟨vals, hv, _⟩ := hO
        intro e
        have := (World.ownsRow.lt hv _ e).2
        omega
      clear hO hB b6
      have x0 := (HX.out _ hB6).c0
      go_wp2
      clear x0
      go_loopw [7, 37] (fun o i wr => ∃ r : Nat, r ≤ m ∧ i = .int .i64 r ∧ Os wr B 34 5 o (L ++ mkL r (parR k F L)) ∧ Below B w0 wr ∧ wr.cell? ⟨fb, 0, none⟩ = some (.pointer (some ⟨b, 0, none⟩)) ∧ fb < wr.heap.size ∧ o.ownBlock ≠ some fb) (fun _ i _ => m - (intOf i).toNat)
      case atStart => exact ⟨0, by omega, rfl, by simpa [mkL] using hO6, hB6, cf, hfl, ho6.out⟩
      case round =>
        clear hO6 hB6 cf hfl ho6 hszr hfb
        obtain ⟨r, hr, rfl, hO, hB, cf, hfl, hof⟩ := hrel
        obtain ⟨wo, hwo⟩ : ∃ wo, wo = wr := ⟨_, rfl⟩
        subst hwo
        have hszr : B ≤ wo.heap.size := by rw [hBB.out]; exact hB.size
        by_cases hlt2 : r < m
        · have hlt2' : (r : Int) < (m : Int) := by omega
          have h0L : 0 < L.length := by rw [hLh.out]; omega
          obtain ⟨ya, yc, c0, r0⟩ := (HD.out _ hB).get h0L
          rw [Nat.add_zero] at c0
          obtain ⟨n, hn⟩ : ∃ n, Hid (n = (ro L 0).length) := ⟨_, rfl⟩
          have hn3 : n ≤ 300 := by rw [hn.out]; exact hSk.out 0
          rw [← hn.out] at c0 r0
          have h0k : (0 : Int) < (k : Int) := by omega
          have hdw : db < wo.heap.size := by omega
          have hbw : b < wo.heap.size := by omega
          have hBg : B ≤ wo.heap.size := hszr
          have HLen : Hid ((L ++ mkL r (parR k F L)).length = k + r) := by show _ = _; rw [List.length_append, mkL_length, hLh.out]
          obtain ⟨av, cv, ev⟩ := hO.form
          rw [HLen.out] at ev
          subst ev
          clear r0
          go_wp2_with (at_make; go_loud (refine wpList_make_full _ rfl (.tmp 43) (.tmp 43) 34 rfl B 5 i0 (.int .u8 0) 1 Try.underlying34 hi hz0 hz1 _ _ _ _ n rfl rfl (by omega) (by omega) (by rw [hz2]; omega) (by unfold maxLen; omega) hszr ?_); intro w7 hown7 hgrow7)
          have R7 := RowF.made hown7
          have b7 : Below wo.heap.size wo w7 := (Below.refl _ _).grown hgrow7 (Nat.le_refl _) (fun q hq => by cases hq)
          clear hown7 hgrow7 c0
          obtain ⟨g, hg⟩ : ∃ g, Hid (g = wo.heap.size) := ⟨_, rfl⟩
          rw [← hg.out] at R7
          rw [← hg.out]
          have hgB : B ≤ g := by rw [hg.out]; exact hszr
          have hgr : wo.heap.size ≤ g := by rw [hg.out]; exact Nat.le_refl _
          have hbg : b ≠ g := by omega
          have hfg : fb ≠ g := by have := hg.out; omega
          have cf7 := (b7.cell (p := ⟨fb, 0, none⟩) hfl).trans cf
          have hfl7 : fb < w7.heap.size := Nat.lt_of_lt_of_le hfl b7.size
          have hB7 : Below B w0 w7 := hB.trans (b7.mono hszr)
          have HW : Hid (∀ j, j < k → ∃ xa xc, wo.cell? ⟨db, doff + j, none⟩ = some (.slice xa (ro L j).length xc) ∧ Rd wo (.slice xa (ro L j).length xc) (ro L j)) := fun j hj => (HD.out _ hB).get (by rw [hLh.out]; exact hj)
          have hO' : Hid _ := hO
          clear hO
          go_loopw [47] (fun i w8 => ∃ j : Nat, j ≤ k ∧ i = .int .i64 j ∧ Only g w7 w8 ∧ RowF w8 B 5 g n n (wd F L r j)) (fun i _ => k - (intOf i).toNat)
          case atStart => exact ⟨0, by omega, rfl, Only.refl _ _, R7⟩
          case round =>
            obtain ⟨w8, hw8⟩ : ∃ w8, w8 = wr := ⟨_, rfl⟩
            subst hw8
            clear R7
            obtain ⟨j, hj2, rfl, hO8, R8⟩ := hrel
            have hB8 : Below B w0 w8 := hB7.trans (hO8.below hgB)
            have b8 : Below wo.heap.size wo w8 := b7.trans (hO8.below hgr)
            by_cases hlt3 : j < k
            · have hlt3' : (j : Int) < (k : Int) := by omega
              obtain ⟨xa, xc, cj, rj⟩ := HW.out j hlt3
              have hap : Apart g (.slice xa (ro L j).length xc) := rj.apart hgr
              have cj8 := (b8.cell (p := ⟨db, doff + j, none⟩) hdw).trans cj
              have rj8 := rj.below b8
              have X8 := HX.out _ hB8
              have x1 := X8.c1
              have x2 := X8.c2
              obtain ⟨T, hT⟩ : ∃ T, Hid (T = r * k + j) := ⟨_, rfl⟩
              have hTN : T < N := by rw [hT.out, hNm.out]; exact place_lt hlt2 hlt3
              have hNs : N ≤ 65536 := by rw [hNm.out]; exact mul_small (by omega) (by omega)
              obtain ⟨o', ho'⟩ : ∃ o', Hid (o' = r * k) := ⟨_, rfl⟩
              have hoT : o' + j = T := by rw [ho'.out, hT.out]
              have g1 : (r : Int) * (k : Int) = (o' : Int) := by rw [ho'.out]; exact_mod_cast rfl
              have g2 : (o' : Int) + (j : Int) = (T : Int) := by omega
              have v1 : IntKind.i64.wrap (o' : Int) = (o' : Int) := by rw [IntKind.wrap_i64]; omega
              have v2 : IntKind.i64.wrap (T : Int) = (T : Int) := by rw [IntKind.wrap_i64]; omega
              obtain ⟨ab, ao, eva, hab, ca⟩ := (HA.out _ hB8).byte (i := T) (by rw [flat_length, ← hNm.out]; exact hTN)
              have eT : co (flat m k F) T = F r j := by rw [hT.out]; exact en_flat F hlt2 hlt3
              rw [eT] at ca
              subst eva
              have hTN' : (T : Int) < (N : Int) := by omega
              have hlen : (ro L j).length = n := by rw [hn.out]; exact hEv.out j (by rw [hLh.out]; exact hlt3)
              rw [hlen] at cj8 rj8 hap
              have hF8 := HF.out _ hB8
              have cf8 := (hO8.cell (p := ⟨fb, 0, none⟩) hfg).trans cf7
              have hfl8 : fb < w8.heap.size := by rw [hO8.size]; exact hfl7
              have hlen' : Hid _ := hlen
              have hO8' : Hid _ := hO8
              have R8' : Hid _ := R8
              clear hlen cj rj X8 hB8 b8 eT hoT cf7 cf hO8 R8
              go_wp2_with fail
              refine (add1_any (F r j) hF8 hbg cf8 hfg hfl8 R8'.out rj8 hap hlen'.out (by omega) rfl).mono ?_
              rintro e w9 ⟨rfl, hO9, hR9⟩
              have HN1 : Hid (RowF w9 B 5 g n n (wd F L r (j + 1))) := hR9.congr fun t ht => by rw [wd_succ]; exact if_pos ht
              have HN2 : Hid (Only g w7 w9) := hO8'.out.trans hO9
              clear hO9 hR9 hF8 rj8 hap cj8 ca x1 x2 cf8 hfl8 hO8' R8'
              go_wp2
              go_roundw
              case rel => exact ⟨j + 1, by omega, by go_num, HN2.out, HN1.out⟩
              case measure => simp [intOf]; omega
            · have hge3 : ¬ (j : Int) < (k : Int) := by omega
              have ej : j = k := by omega
              rw [ej] at R8
              clear ej
              have hx8 := OwnP.rowF R8
              have eP : upto (wd F L r k) n = parR k F L r := by rw [hn.out]; rfl
              rw [eP] at hx8
              have cf8 := (hO8.cell (p := ⟨fb, 0, none⟩) hfg).trans cf7
              have hfl8 : fb < w8.heap.size := by rw [hO8.size]; exact hfl7
              have hS8 : wo.heap.size < w8.heap.size := by have := R8.lt.2; omega
              clear R8 cf7 cf eP
              go_wp2_with (at_builtin; go_loud (refine wpList_append_os rfl (.tmp 67) (.tmp 69) 24 rfl B 34 i1 Try.underlying24 hj hy0 hy1 hy2 5 (.slice av (k + r) cv) (L ++ mkL r (parR k F L)) rfl hO'.out b8 (.slice (some ⟨g, 0, none⟩) n n) (parR k F L r) hx8 (by intro q hq; cases hq; exact hgr) _ 1 rfl (by rw [HLen.out]; omega) hszr ?_); intro v' w9 hv9 hb9 hq9 hf9)
              have HOn : Hid (Os w9 B 34 5 v' (L ++ mkL (r + 1) (parR k F L))) := by
                show Os _ _ _ _ _ _
                rw [mkL_succ, ← List.append_assoc]; exact hv9
              have HBn : Hid (Below B w0 w9) := hB.trans hb9
              have HCn : Hid (w9.cell? ⟨fb, 0, none⟩ = some (.pointer (some ⟨b, 0, none⟩))) := (World.cell?_of_block (w := w8) (a := ⟨fb, 0, none⟩) (hq9 fb hfl8 hof)).trans cf8
              have HFn : Hid (v'.ownBlock ≠ some fb) := hf9 fb hfl8 hof
              have HLn : Hid (fb < w9.heap.size) := Nat.lt_of_lt_of_le hfl hb9.size
              clear hv9 hb9 hq9 hf9 hx8 cf8 hfl8 hB8 b8 hO8 hB hB7 b7 hO' hof
              go_wp2
              go_roundw
              case rel => exact ⟨r + 1, by omega, by go_num, HOn.out, HBn.out, HCn.out, HLn.out, HFn.out⟩
              case measure => simp [intOf]; omega
        · have hge2 : ¬ (r : Int) < (m : Int) := by omega
          have er : r = m := by omega
          rw [er] at hO
          have HR : Hid (Rs wo u7 (encL m k F L)) := hO.rs
          have HBn : Hid (Below w.heap.size w wo) := HB0.out.trans (hB.mono (by omega))
          clear hO hB cf hof er
          go_wp2
          go_ret
          exact ⟨_, rfl, HR.out, HBn.out⟩

end Go.Proofs.Ytkjolopdpihigaa.Gf

