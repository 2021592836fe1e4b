/-
  THE PROGRAM's 'clearColumn' BY CONTRACT.
-/
import Derived.Test.YthfimeddfpchpaaMxCB
import Derived.Test.YthfimeddfpchpaaGfPow
import Derived.Deep.RegionWith
import Derived.Deep.CutRange
namespace Go.Proofs.Ythfimeddfpchpaa.Gf
set_option linter.unusedVariables false
set_option linter.unusedSimpArgs false
open Go.RowKit

theorem finv_at {b : Nat} {w : World} (hF : FieldAt w b) (a : UInt8) (ha : a ≠ 0) {x : Int} (hx : x = ((a.toNat : Nat) : Int)) :
    Calls Try.prog 47 #[.pointer (some ⟨b, 0, none⟩), .int .u8 x] w fun e w' => e = .returned (.tuple #[.int .u8 ((iv a).toNat : Nat), .int .i64 0]) ∧ ∃ n, w' = w.drewN n := by
  have h := inv_all hF a.toNat hx (u8_lt a)
  rw [zE_pos (u8_ne ha), ← iv_toNat] at h
  exact h

/-- the pivot's row, scaled; the first k other rows, cleared -/
def clrK (F : Mx) (c k : Nat) : Mx := fun i j => if i = c then mu (F c j) (iv (F c c)) else if i < k then F i j ^^^ mu (mu (F c j) (iv (F c c))) (F i c) else F i j
theorem clrK_zero (F : Mx) (c : Nat) {r C : Nat} : ∀ t, t < r * C → putAt (pl C F) (c * C) C (fun j => mu (pl C F (c * C + j)) (iv (F c c))) t = pl C (clrK F c 0) t := by
  intro t ht
  have hC : 0 < C := by
    rcases Nat.eq_zero_or_pos C with e | e
    · rw [e, Nat.mul_zero] at ht; omega
    · exact e
  rw [putAt_congr (q' := fun j => mu (F c j) (iv (F c c))) (fun k hk => by rw [pl_at F hk]), pl_put F _ t ht]
  refine pl_congr (r := r) (fun i j _ _ => ?_) t ht
  unfold clrK
  by_cases e : i = c
  · rw [if_pos e, if_pos e]
  · rw [if_neg e, if_neg e, if_neg (by omega)]
theorem clrK_skip (F : Mx) (c : Nat) : clrK F c (c + 1) = clrK F c c := by
  funext i j
  unfold clrK
  by_cases e : i = c
  · rw [if_pos e, if_pos e]
  · rw [if_neg e, if_neg e]
    by_cases h : i < c
    · rw [if_pos h, if_pos (by omega)]
    · rw [if_neg h, if_neg (by omega)]
theorem clrK_step {F : Mx} {c k r C : Nat} (hkc : k ≠ c) : ∀ t, t < r * C → putAt (pl C (clrK F c k)) (k * C) C (plus (pl C (clrK F c k)) (k * C) (fun j => pl C (clrK F c k) (c * C + j)) (F k c)) t = pl C (clrK F c (k + 1)) t := by
  intro t ht
  have hC : 0 < C := by
    rcases Nat.eq_zero_or_pos C with e | e
    · rw [e, Nat.mul_zero] at ht; omega
    · exact e
  rw [putAt_congr (q' := fun j => F k j ^^^ mu (mu (F c j) (iv (F c c))) (F k c)) (fun j hj => ?_), pl_put _ _ t ht]
  · refine pl_congr (r := r) (fun i j _ _ => ?_) t ht
    unfold clrK
    by_cases e : i = k
    · subst e; rw [if_pos rfl, if_neg hkc, if_pos (by omega)]
    · rw [if_neg e]
      by_cases e2 : i = c
      · rw [if_pos e2, if_pos e2]
      · rw [if_neg e2, if_neg e2]
        by_cases h : i < k
        · rw [if_pos h, if_pos (by omega)]
        · rw [if_neg h, if_neg (by omega)]
  · unfold plus
    show pl C (clrK F c k) (k * C + j) ^^^ mu (pl C (clrK F c k) (c * C + j)) (F k c) = _
    rw [pl_at _ hj, pl_at _ hj]
    unfold clrK
    rw [if_neg hkc, if_neg (by omega), if_pos rfl]
theorem cells_on {W w' : World} (hb : Below W.heap.size W w') {a0 a1 a2 a3 : Addr} {v0 v1 v2 v3 : Value} (h0 : W.cell? a0 = some v0) (h1 : W.cell? a1 = some v1) (h2 : W.cell? a2 = some v2) (h3 : W.cell? a3 = some v3) :
    w'.cell? a0 = some v0 ∧ w'.cell? a1 = some v1 ∧ w'.cell? a2 = some v2 ∧ w'.cell? a3 = some v3 :=
  ⟨(hb.cell (World.block_lt_of_cell? W _ h0)).trans h0, (hb.cell (World.block_lt_of_cell? W _ h1)).trans h1, (hb.cell (World.block_lt_of_cell? W _ h2)).trans h2, (hb.cell (World.block_lt_of_cell? W _ h3)).trans h3⟩
theorem Turn.drewN {g : Nat} {a w : World} (h : Turn g a w) (n : Nat) : Turn g a (w.drewN n) := ⟨h.os, h.tape, h.output, h.size, h.block⟩
theorem Turn.drewL {g : Nat} {a w : World} {n : Nat} (h : Turn g (a.drewN n) w) : Turn g a w := ⟨h.os, h.tape, h.output, h.size, h.block⟩

set_option maxRecDepth 100000 in
set_option maxHeartbeats 4000000 in
theorem clr_any {w : World} {base g m n C c b : Nat} {F : Mx} {x : Int} (hx : x = (c : Int)) (hF : FieldAt w b) (hbg : b ≠ g) (hR : RowF w base 5 g m m (pl C F)) (hm : Hid (m = n * C)) (hn : n ≤ 256) (hC : C ≤ 512) (hcn : c < n) (hcC : c < C) (hp : F c c ≠ 0) :
    Calls Try.prog 43 #[.pointer (some ⟨b, 0, none⟩), .agg #[.int .i64 (n : Int), .int .i64 (C : Int), .slice (some ⟨g, 0, none⟩) m m], .int .i64 x] w fun e w' =>
      e = .returned (.tuple #[]) ∧ Turn g w w' ∧ RowF w' base 5 g m m (pl C (clrK F c n)) := by
  subst hx
  have hmm : m ≤ 256 * 512 := by rw [hm.out]; exact Nat.mul_le_mul hn hC
  have hlt := hR.lt
  go_enter Try.func43, Try.ntmps43
  have hA : Below w.heap.size w (w.alloc (.cells #[.int .i64 (n : Int), .int .i64 (C : Int), .slice (some ⟨g, 0, none⟩) m m] 30)) := (Below.refl _ _).alloc (Nat.le_refl _) _
  have X0 := Box.new w (n : Int) (C : Int) (.slice (some ⟨g, 0, none⟩) m m) 30
  go_wp2_with fail
  refine (row_own rfl hcn hm hn hC).mono ?_
  rintro e w1 ⟨rfl, b1⟩
  have T1 : Turn g w w1 := (Below.turn hA g).trans (Below.turn b1 g)
  have X1 : Box w1 w.heap.size (n : Int) (C : Int) (.slice (some ⟨g, 0, none⟩) m m) := Below.box b1 (by simp) X0
  have hsz : w.heap.size < w1.heap.size := by have := b1.size; simp at this; omega
  replace hR := (hR.later hA).later b1
  replace hF := hF.turn hbg T1
  have hsg : w.heap.size ≠ g := by omega
  clear hA X0 b1
  have hcm : c * C + C ≤ m := by rw [hm.out, ← Nat.succ_mul]; exact Nat.mul_le_mul_right C hcn
  have c1 := hR.cell (show c * C + c < m by omega)
  rw [pl_at F hcC] at c1
  obtain ⟨o, ho⟩ : ∃ o, Hid (o = c * C) := ⟨_, rfl⟩
  rw [← ho.out] at hcm c1 ⊢
  have hcC' : (c : Int) < (C : Int) := by omega
  go_wp2_with fail
  refine (finv_at hF (F c c) hp rfl).mono ?_
  rintro e w2 ⟨rfl, d, rfl⟩
  obtain ⟨iv0, hiv⟩ : ∃ iv0, Hid (iv0 = iv (F c c)) := ⟨_, rfl⟩
  rw [← hiv.out]
  clear c1
  have R2 : RowF (w1.drewN d) base 5 g m m (putAt (pl C F) o 0 (fun j => mu (pl C F (o + j)) iv0)) := by rw [putAt_zero]; exact hR.drewN d
  have F2 := hF.drewN d
  have T2 := T1.drewN d
  have X2 := X1.drewN d
  have sz2 : w.heap.size < (w1.drewN d).heap.size := hsz
  obtain ⟨w2, hw2⟩ : ∃ w2, w2 = w1.drewN d := ⟨_, rfl⟩
  rw [← hw2] at R2 F2 T2 X2 sz2 ⊢
  clear hw2 hR hF T1 X1 hsz
  have O2 : Only g w2 w2 := Only.refl _ _
  go_wp2
  go_loopw [25] (fun i wr => ∃ k : Nat, k ≤ C ∧ i = .int .i64 k ∧ Only g w2 wr ∧ RowF wr base 5 g m m (putAt (pl C F) o k (fun j => mu (pl C F (o + j)) iv0))) (fun i _ => C - (intOf i).toNat)
  case atStart => exact ⟨0, by omega, rfl, O2, R2⟩
  case round =>
    obtain ⟨k, hk, rfl, hO, hRk⟩ := hrel
    clear O2 R2
    by_cases hk2 : k < C
    · have k1 := hRk.cell (show o + k < m by omega)
      rw [putAt_out (by omega)] at k1
      have hk2' : (k : Int) < (C : Int) := by omega
      have hFr := F2.only hbg hO
      go_wp2_with fail
      refine (fmu_quiet hFr (pl C F (o + k)) iv0 rfl rfl).mono ?_
      rintro e w3 ⟨rfl, d, rfl⟩
      have k3 : (wr.drewN d).cell? ⟨g, o + k, none⟩ = some (.int .u8 ((pl C F (o + k)).toNat : Nat)) := k1
      have f1 : (wr.drewN d).frozen? ⟨g, o + k, none⟩ = false := hRk.unfrozen (o + k)
      have HN : Hid (RowF ((wr.drewN d).setCell ⟨g, o + k, none⟩ (.int .u8 ((mu (pl C F (o + k)) iv0).toNat : Nat))) base 5 g m m (putAt (pl C F) o (k + 1) (fun j => mu (pl C F (o + j)) iv0))) :=
        (hRk.drewN d).store (show o + k < m by omega) _ (fun t => putAt_step _ _ _ _ t)
      have HO : Hid (Only g w2 ((wr.drewN d).setCell ⟨g, o + k, none⟩ (.int .u8 ((mu (pl C F (o + k)) iv0).toNat : Nat)))) := (hO.drewN d).setCell _ _
      clear hRk hO hFr k1
      go_wp2
      go_roundw
      case rel => exact ⟨k + 1, by omega, by go_num, HO.out, HN.out⟩
      case measure => simp [intOf]; omega
    · have e : k = C := by omega
      subst e
      have R3 : RowF wr base 5 g m m (pl k (clrK F c 0)) := hRk.congr (fun t ht => by rw [ho.out, hiv.out]; exact clrK_zero F c (r := n) t (by rw [← hm.out]; exact ht))
      have T3 := T2.trans hO.turn
      have F3 := F2.only hbg hO
      have X3 := X2.only hsg hO
      have sz3 : w.heap.size < wr.heap.size := by rw [hO.size]; exact sz2
      have x0 := X3.c0
      clear hRk hO F2 T2 X2 sz2
      obtain ⟨w3, rfl⟩ : ∃ w3, w3 = wr := ⟨_, rfl⟩
      go_wp2
      go_loopw [41] (fun i w4 => ∃ l : Nat, l ≤ n ∧ i = .int .i64 l ∧ Turn g w3 w4 ∧ RowF w4 base 5 g m m (pl k (clrK F c l))) (fun i _ => n - (intOf i).toNat)
      case atStart => exact ⟨0, by omega, rfl, Turn.refl _ _, R3⟩
      case round =>
        obtain ⟨l, hl, rfl, hT, hRl⟩ := hrel
        clear R3
        by_cases hl2 : l < n
        · have hl2' : (l : Int) < (n : Int) := by omega
          by_cases hlc : l = c
          · subst hlc
            have HN : Hid (RowF wr base 5 g m m (pl k (clrK F l (l + 1)))) := by rw [clrK_skip]; exact hRl
            clear hRl
            go_wp2
            go_roundw
            case rel => exact ⟨l + 1, by omega, by go_num, hT, HN.out⟩
            case measure => simp [intOf]; omega
          · have X4 := X3.turn sz3 hsg hT
            have hlm : l * k + k ≤ m := by rw [hm.out, ← Nat.succ_mul]; exact Nat.mul_le_mul_right k hl2
            have y0 := X4.c0
            have y1 := X4.c1
            have y2 := X4.c2
            have y3 := hRl.cell (show l * k + c < m by omega)
            have e3 : pl k (clrK F c l) (l * k + c) = F l c := by rw [pl_at _ hcC]; unfold clrK; rw [if_neg hlc, if_neg (by omega)]
            rw [e3] at y3
            have F4 := F3.turn hbg hT
            have hd : l * k + k ≤ c * k ∨ c * k + k ≤ l * k := by
              rcases Nat.lt_or_gt_of_ne hlc with h | h
              · left; rw [← Nat.succ_mul]; exact Nat.mul_le_mul_right k h
              · right; rw [← Nat.succ_mul]; exact Nat.mul_le_mul_right k h
            have HS : Hid (∀ t, t < m → putAt (pl k (clrK F c l)) (l * k) k (plus (pl k (clrK F c l)) (l * k) (fun j => pl k (clrK F c l) (o + j)) (F l c)) t = pl k (clrK F c (l + 1)) t) := by
              show ∀ t, _ → _
              rw [ho.out, hm.out]; exact clrK_step (r := n) hlc
            rw [← ho.out] at hd
            have hne : ((l : Int) != (c : Int)) = true := by simp; omega
            obtain ⟨o2, ho2⟩ : ∃ o2, Hid (o2 = l * k) := ⟨_, rfl⟩
            rw [← ho2.out] at hlm y3 hd HS
            have hrow : ∀ W, Below wr.heap.size wr W → Calls Try.prog 38 #[.agg #[.int .i64 (n : Int), .int .i64 (k : Int), .slice (some ⟨g, 0, none⟩) m m], .int .i64 (l : Int)] W fun e w' => e = .returned (.slice (some ⟨g, o2, none⟩) k (m - o2)) ∧ Below wr.heap.size wr w' ∧
                w'.cell? ⟨w.heap.size, 0, none⟩ = some (.int .i64 (n : Int)) ∧ w'.cell? ⟨w.heap.size, 1, none⟩ = some (.int .i64 (k : Int)) ∧ w'.cell? ⟨w.heap.size, 2, none⟩ = some (.slice (some ⟨g, 0, none⟩) m m) ∧ w'.cell? ⟨g, o2 + c, none⟩ = some (.int .u8 ((F l c).toNat : Nat)) := by
              intro W hW
              refine (row_own rfl hl2 hm hn hC).mono ?_
              rintro e w' ⟨rfl, hb⟩
              have hB := Below.next hW hb
              exact ⟨by rw [ho2.out], hB, cells_on hB y0 y1 y2 y3⟩
            clear e3 X4
            go_wp2
            go_region_with (first | (go_at_call 38; refine (hrow _ (by first | assumption | exact (Below.refl _ _).drew | exact below_draws _ _)).mono ?_; rintro e v1 ⟨rfl, bv, z0, z1, z2, z3⟩) | (go_at_call 39; refine (addt_same (F l c) rfl (F4.turn hbg (Below.turn (by assumption) g)) hbg (hRl.later (by assumption)) hlm hcm (by omega) hd).mono ?_; rintro e v3 ⟨rfl, O5, R5⟩))
            all_goals
              have HN : Hid (Turn g w3 v3 ∧ RowF v3 base 5 g m m (pl k (clrK F c (l + 1)))) := ⟨hT.trans ((Below.turn bv g).trans O5.turn), R5.congr HS.out⟩
              clear R5 O5 hrow HS bv hRl
              go_wp2
              go_roundw
              case rel => exact ⟨l + 1, by omega, by go_num, HN.out.1, HN.out.2⟩
              case measure => simp [intOf]; omega
        · have e : l = n := by omega
          subst e
          go_wp2
          go_end0
          exact ⟨rfl, T3.trans hT, hRl⟩

end Go.Proofs.Ythfimeddfpchpaa.Gf
