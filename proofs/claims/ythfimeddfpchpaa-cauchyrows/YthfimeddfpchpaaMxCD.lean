/-
  THE PROGRAM's 'besideIdentity' AND 'rightHalf' BY CONTRACT.
-/
import Derived.Test.YthfimeddfpchpaaMxCA
import Derived.Deep.RegionHeld3
namespace Go.Proofs.Ythfimeddfpchpaa.Gf
set_option linter.unusedVariables false
set_option linter.unusedSimpArgs false
open Go.RowKit

theorem Box.and {w : World} {b : Nat} {r c : Int} {vs : Value} (h : Box w b r c vs) : w.cell? ⟨b, 0, none⟩ = some (.int .i64 r) ∧ w.cell? ⟨b, 1, none⟩ = some (.int .i64 c) ∧ w.cell? ⟨b, 2, none⟩ = some vs := ⟨h.c0, h.c1, h.c2⟩
theorem info1_u8 : (Try.prog.info? 5).map (·.size) = some 1 := by
  obtain ⟨i0, hi, hz0, hz1, hz2⟩ := info_parts info_u8
  rw [hi]; simp [hz1]

/-- a matrix with the identity to its right -/
def wideF (n : Nat) (A : List UInt8) : Mx := fun i j => if j < n then en n A i j else one i (j - n)
def wideK (n : Nat) (A : List UInt8) (k : Nat) : Mx := fun i j => if i < k then wideF n A i j else 0
/-- .. the next row: the numbers of A alone -/
def wideH (n : Nat) (A : List UInt8) (k : Nat) : Mx := fun i j => if i = k then (if j < n then en n A i j else 0) else wideK n A k i j
theorem pos_of_lt {r C t : Nat} (ht : t < r * C) : 0 < C := by
  rcases Nat.eq_zero_or_pos C with e | e
  · rw [e, Nat.mul_zero] at ht; omega
  · exact e
theorem wideK_zero (n : Nat) (A : List UInt8) (C t : Nat) : pl C (wideK n A 0) t = 0 := by
  show wideK n A 0 (t / C) (t % C) = 0
  unfold wideK
  rw [if_neg (Nat.not_lt_zero _)]
theorem wideH_put {n C k : Nat} {A : List UInt8} {q : Nat → UInt8} (hnC : n ≤ C) (hq : ∀ j, j < n → q j = en n A k j) : ∀ t, t < n * C → putAt (pl C (wideK n A k)) (k * C) n q t = pl C (wideH n A k) t := by
  intro t ht
  have hC := pos_of_lt ht
  show _ = if t / C = k then (if t % C < n then en n A (t / C) (t % C) else 0) else wideK n A k (t / C) (t % C)
  by_cases e : t / C = k
  · rw [if_pos e]
    have h1 := (row_iff hC).2 e
    have h2 : t - k * C = t % C := by subst e; exact row_sub
    by_cases h3 : t % C < n
    · rw [if_pos h3]
      unfold putAt
      rw [if_pos (by omega), h2, hq _ h3, e]
    · rw [if_neg h3]
      unfold putAt
      rw [if_neg (by omega)]
      show (if t / C < k then _ else _) = _
      rw [if_neg (by omega)]
  · rw [if_neg e]
    unfold putAt
    rw [if_neg (fun h => e ((row_iff hC).1 (by omega)))]
    rfl
theorem wideK_step {n C k : Nat} {A : List UInt8} (hC2 : C = n + n) (hk : k < n) : ∀ t, t < n * C → (if t = k * C + (n + k) then 1 else pl C (wideH n A k) t) = pl C (wideK n A (k + 1)) t := by
  intro t ht
  have hC := pos_of_lt ht
  show (if t = k * C + (n + k) then 1 else (if t / C = k then (if t % C < n then en n A (t / C) (t % C) else 0) else (if t / C < k then wideF n A (t / C) (t % C) else 0))) = if t / C < k + 1 then wideF n A (t / C) (t % C) else 0
  by_cases e : t / C = k
  · have h2 : t - k * C = t % C := by subst e; exact row_sub
    have h1 := (row_iff hC).2 e
    have h4 := Nat.mod_lt t hC
    rw [if_pos e, if_pos (show t / C < k + 1 by omega)]
    unfold wideF
    by_cases h3 : t % C < n
    · rw [if_pos h3, if_pos h3, if_neg (by omega)]
    · rw [if_neg h3, if_neg h3]
      unfold one
      by_cases h5 : t = k * C + (n + k)
      · rw [if_pos h5, if_pos (by omega)]
      · rw [if_neg h5, if_neg (by omega)]
  · rw [if_neg (fun h => e (by rw [h]; exact place_div (by omega))), if_neg e]
    by_cases h : t / C < k
    · rw [if_pos h, if_pos (by omega)]
    · rw [if_neg h, if_neg (by omega)]
theorem wideK_all {n C : Nat} {A : List UInt8} : ∀ t, t < n * C → pl C (wideK n A n) t = pl C (wideF n A) t := by
  intro t ht
  exact if_pos ((Nat.div_lt_iff_lt_mul (pos_of_lt ht)).2 ht)

set_option maxRecDepth 100000 in
set_option maxHeartbeats 4000000 in
theorem bes_any {w : World} {n : Nat} {vs : Value} {A : List UInt8} (h : Rd w vs A) (hok : OkM n n A) :
    Calls Try.prog 41 #[.agg #[.int .i64 (n : Int), .int .i64 (n : Int), vs]] w fun e w' => ∃ g m C, Hid (C = n + n) ∧ Hid (m = n * C) ∧ e = .returned (.agg #[.int .i64 (n : Int), .int .i64 (C : Int), .slice (some ⟨g, 0, none⟩) m m]) ∧ w.heap.size ≤ g ∧
      RowF w' w.heap.size 5 g m m (pl C (wideF n A)) ∧ Below w.heap.size w w' := by
  have hn : n ≤ 256 := by have := hok.2.1; omega
  obtain ⟨C, hC⟩ : ∃ C, Hid (C = n + n) := ⟨_, rfl⟩
  have hC2 : C ≤ 512 := by have := hC.out; omega
  go_enter Try.func41, Try.ntmps41
  go_wp2_with fail
  refine (nought_any n C _ hn hC2 rfl (by have := hC.out; omega)).mono ?_
  rintro e w1 ⟨g, m, hm, rfl, hg, R1, b1⟩
  have hg0 : w.heap.size + 1 < g := by simp at hg; omega
  have B1 : Below w.heap.size w w1 := Below.next (by repeat (first | exact Below.refl _ _ | apply below_lit)) b1
  have P2 : Box w1 w.heap.size (n : Int) (n : Int) vs := Below.box b1 (by simp <;> omega) ((Box.new w _ _ vs _).alloc (by simp) _)
  have X3 : Box w1 (w.heap.size + 1) 0 0 (.slice none 0 0) := Below.box b1 (by simp <;> omega) (Box.new1 w _ 0 0 (.slice none 0 0) 30)
  have F3 : Free w1 (w.heap.size + 1) := Below.free b1 (by simp <;> omega) (by have h := Free.new (w.alloc (.cells #[.int .i64 (n : Int), .int .i64 (n : Int), vs] 30)) #[.int .i64 0, .int .i64 0, .slice none 0 0] 30; rwa [World.size_alloc] at h)
  have hA : Below w1.heap.size w1 (w1.alloc (.cells #[.int .i64 (n : Int), .int .i64 (C : Int), .slice (some ⟨g, 0, none⟩) m m] 30)) := (Below.refl _ _).alloc (Nat.le_refl _) _
  have P1 := Box.new w1 (n : Int) (C : Int) (.slice (some ⟨g, 0, none⟩) m m) 30
  have hlt := R1.lt
  have hap : Apart g vs := h.apart (by omega)
  replace R1 := (R1.base (show w.heap.size ≤ _ by simp <;> omega)).later hA
  replace P2 := P2.below (by omega) hA
  replace X3 := X3.below (by omega) hA
  replace F3 := F3.below (by omega) hA
  replace B1 := Below.next B1 hA
  have h1 := h.below B1
  have hms : w1.heap.size < (w1.alloc (.cells #[.int .i64 (n : Int), .int .i64 (C : Int), .slice (some ⟨g, 0, none⟩) m m] 30)).heap.size := by simp
  have hmg : w1.heap.size ≠ g := by omega
  have p20 := P2.c0
  have p21 := P2.c1
  clear hA b1 hg
  go_wp2
  generalize w1.alloc (.cells #[.int .i64 (n : Int), .int .i64 (C : Int), .slice (some ⟨g, 0, none⟩) m m] 30) = w2 at *
  have hmm : m ≤ 256 * 512 := by rw [hm.out]; exact Nat.mul_le_mul hn hC2
  have hnC : n ≤ C := by have := hC.out; omega
  go_loopw [15] (fun i wr => ∃ k : Nat, k ≤ n ∧ i = .int .i64 k ∧ Turn g w2 wr ∧ RowF wr w.heap.size 5 g m m (pl C (wideK n A k))) (fun i _ => n - (intOf i).toNat)
  case atStart => exact ⟨0, by omega, rfl, Turn.refl _ _, R1.congr (fun t _ => (wideK_zero _ _ _ t).symm)⟩
  case round =>
    obtain ⟨k, hk, rfl, hT, hRk⟩ := hrel
    clear R1 p20 p21
    replace P1 := P1.turn hms hmg hT
    replace P2 := P2.turn (by omega) (by omega) hT
    have hs2 := hT.size
    by_cases hlt2 : k < n
    · have hlt2' : (k : Int) < (n : Int) := by omega
      have h2 := h1.turn hap hT
      obtain ⟨o, ho⟩ : ∃ o, Hid (o = k * C) := ⟨_, rfl⟩
      have hom : o + C ≤ m := by rw [ho.out, hm.out, ← Nat.succ_mul]; exact Nat.mul_le_mul_right C hlt2
      have hrowW : ∀ W, Below wr.heap.size wr W → Calls Try.prog 38 #[.agg #[.int .i64 (n : Int), .int .i64 (C : Int), .slice (some ⟨g, 0, none⟩) m m], .int .i64 (k : Int)] W fun e w' => e = .returned (.slice (some ⟨g, o, none⟩) C (m - o)) ∧ Below wr.heap.size wr w' := by
        intro W hW
        rw [ho.out]
        exact (row_own rfl hlt2 hm hn hC2).mono fun e w' he => ⟨he.1, Below.next hW he.2⟩
      have hrowA : ∀ W, Below wr.heap.size wr W → Calls Try.prog 38 #[.agg #[.int .i64 (n : Int), .int .i64 (n : Int), vs], .int .i64 (k : Int)] W fun e w' => ∃ a cap, e = .returned (.slice a n cap) ∧ Rd w' (.slice a n cap) (upto (fun j => en n A k j) n) ∧ Below wr.heap.size wr w' := by
        intro W hW
        refine (row_rd rfl (h2.below hW) hok hlt2).mono ?_
        rintro e w' ⟨a, cap, he, hr, _, hb⟩
        exact ⟨a, cap, he, hr, Below.next hW hb⟩
      have Q1 := P1
      have Q2 := P2
      have l1 : w1.heap.size < wr.heap.size := by omega
      have l2 : w.heap.size < wr.heap.size := by omega
      have n2 : w.heap.size ≠ g := by omega
      go_wp2
      go_region_held3 (fun wx => (wx.cell? ⟨w1.heap.size, 0, none⟩ = some (.int .i64 (n : Int)) ∧ wx.cell? ⟨w1.heap.size, 1, none⟩ = some (.int .i64 (C : Int)) ∧ wx.cell? ⟨w1.heap.size, 2, none⟩ = some (.slice (some ⟨g, 0, none⟩) m m)) ∧ (wx.cell? ⟨w.heap.size, 0, none⟩ = some (.int .i64 (n : Int)) ∧ wx.cell? ⟨w.heap.size, 1, none⟩ = some (.int .i64 (n : Int)) ∧ wx.cell? ⟨w.heap.size, 2, none⟩ = some vs)) (first | exact ⟨Box.and P1, Box.and P2⟩ | exact ⟨Box.and P1.drew, Box.and P2.drew⟩ | exact ⟨Box.and (P1.only hmg O3), Box.and (P2.only n2 O3)⟩) (first | (go_at_call_of 38 (Value.slice (some ⟨g, 0, none⟩) m m); refine (hrowW _ (by first | assumption | exact (Below.refl _ _).drew)).mono ?_; rintro e v1 ⟨rfl, bv1⟩; replace P1 := Q1.below l1 bv1; replace P2 := Q2.below l2 bv1) | (go_at_call_of 38 vs; refine (hrowA _ (by first | assumption | exact (Below.refl _ _).drew)).mono ?_; rintro e v2 ⟨a, cap, rfl, hr2, bv2⟩; replace P1 := Q1.below l1 bv2; replace P2 := Q2.below l2 bv2) | (refine step_copy_rd rfl (.tmp 20) (.tmp 23) 28 28 rfl 5 Try.underlying28 info1_u8 rfl rfl hr2 (upto_length _ _) hnC (hRk.later bv2) (by omega) ?_; intro v3 O3 R3))
      have T3 : Turn g w2 v3 := hT.trans ((Below.turn bv2 g).trans O3.turn)
      have s3 : wr.heap.size ≤ v3.heap.size := by rw [O3.size]; exact bv2.size
      have R4 : RowF v3 w.heap.size 5 g m m (pl C (wideH n A k)) := R3.congr (fun t ht => by rw [ho.out]; exact wideH_put hnC (fun j hj => co_upto_lt hj) t (by rw [← hm.out]; exact ht))
      replace P1 := P1.only hmg O3
      replace P2 := P2.only n2 O3
      clear hRk hT R3 O3 bv2 bv1 hr2 hrowA hrowW Q1 Q2 h2
      obtain ⟨t, ht⟩ : ∃ t, Hid (t = n + k) := ⟨_, rfl⟩
      have g0 : (n : Int) + (k : Int) = (t : Int) := by have := ht.out; omega
      have gw : IntKind.i64.wrap (t : Int) = (t : Int) := by rw [IntKind.wrap_i64]; have := ht.out; omega
      have htC : t < C := by have := ht.out; have := hC.out; omega
      have htC' : (t : Int) < (C : Int) := by omega
      have Q1 := P1
      have Q2 := P2
      have l1 : w1.heap.size < v3.heap.size := by omega
      have l2 : w.heap.size < v3.heap.size := by omega
      have hrowW : ∀ W, Below v3.heap.size v3 W → Calls Try.prog 38 #[.agg #[.int .i64 (n : Int), .int .i64 (C : Int), .slice (some ⟨g, 0, none⟩) m m], .int .i64 (k : Int)] W fun e w' => e = .returned (.slice (some ⟨g, o, none⟩) C (m - o)) ∧ Below v3.heap.size v3 w' := by
        intro W hW
        rw [ho.out]
        exact (row_own rfl hlt2 hm hn hC2).mono fun e w' he => ⟨he.1, Below.next hW he.2⟩
      go_wp2
      go_region_held3 (fun wx => (wx.cell? ⟨w1.heap.size, 0, none⟩ = some (.int .i64 (n : Int)) ∧ wx.cell? ⟨w1.heap.size, 1, none⟩ = some (.int .i64 (C : Int)) ∧ wx.cell? ⟨w1.heap.size, 2, none⟩ = some (.slice (some ⟨g, 0, none⟩) m m)) ∧ (wx.cell? ⟨w.heap.size, 0, none⟩ = some (.int .i64 (n : Int)) ∧ wx.cell? ⟨w.heap.size, 1, none⟩ = some (.int .i64 (n : Int)) ∧ wx.cell? ⟨w.heap.size, 2, none⟩ = some vs)) (first | exact ⟨Box.and P1, Box.and P2⟩ | exact ⟨Box.and P1.drew, Box.and P2.drew⟩ | exact ⟨Box.and (P1.only hmg ((Only.refl _ _).setCell _ _)), Box.and (P2.only n2 ((Only.refl _ _).setCell _ _))⟩) ((go_at_call_of 38 (Value.slice (some ⟨g, 0, none⟩) m m); refine (hrowW _ (by first | assumption | exact (Below.refl _ _).drew)).mono ?_; rintro e v4 ⟨rfl, bv4⟩; replace P1 := Q1.below l1 bv4; replace P2 := Q2.below l2 bv4; have c4 := (R4.later bv4).cell (show o + t < m by omega); have f4 := (R4.later bv4).unfrozen (o + t)))
      have HN : Hid (RowF (v4.setCell ⟨g, o + t, none⟩ (.int .u8 1)) w.heap.size 5 g m m (pl C (wideK n A (k + 1)))) := by
        refine ((R4.later bv4).store (f' := fun s => if s = o + t then 1 else pl C (wideH n A k) s) (show o + t < m by omega) 1 (fun s => rfl)).congr fun s hs => ?_
        rw [ho.out, ht.out]
        exact wideK_step hC.out hlt2 s (by rw [← hm.out]; exact hs)
      have HT : Hid (Turn g w2 (v4.setCell ⟨g, o + t, none⟩ (.int .u8 1))) := T3.trans ((Below.turn bv4 g).trans ((Only.refl _ _).setCell _ _).turn)
      clear T3 R4 bv4 hrowW
      go_wp2
      go_roundw
      case rel => exact ⟨k + 1, by omega, by go_num, HT.out, HN.out⟩
      case measure => simp [intOf]; omega
    · have e : k = n := by omega
      subst e
      have R4 : RowF wr w.heap.size 5 g m m (pl C (wideF k A)) := hRk.congr (fun t ht => wideK_all t (by rw [← hm.out]; exact ht))
      have X4 := X3.turn (by omega) (by omega) hT
      have F4 := F3.turn (by omega) (by omega) hT
      have x30 := X4.c0
      have x31 := X4.c1
      have x32 := X4.c2
      have f30 := F4.f0
      have f31 := F4.f1
      have f32 := F4.f2
      have y0 := P1.c0
      have y1 := P1.c1
      have y2 := P1.c2
      clear hRk
      go_wp2
      have O1 : Only (w.heap.size + 1) wr (((wr.setCell ⟨w.heap.size + 1, 0, none⟩ (.int .i64 (k : Int))).setCell ⟨w.heap.size + 1, 1, none⟩ (.int .i64 (C : Int))).setCell ⟨w.heap.size + 1, 2, none⟩ (.slice (some ⟨g, 0, none⟩) m m)) :=
        (((Only.refl _ _).setCell 0 _).setCell 1 _).setCell 2 _
      refine bodyPost_ret (v := .agg #[.int .i64 (k : Int), .int .i64 (C : Int), .slice (some ⟨g, 0, none⟩) m m]) (by simp [results, Try.results41, go_sem, x30, x31, x32, f30, f31, f32]) rfl ⟨g, m, C, hC, hm, rfl, by omega, R4.only (by omega) O1, (B1.trans (hT.below (by omega) (by omega))).trans (O1.below (by omega))⟩

/-- the first k rows of a matrix, noughts behind them -/
def rowsK (G : Mx) (k : Nat) : Mx := fun i j => if i < k then G i j else 0
theorem rowsK_zero (G : Mx) (c t : Nat) : pl c (rowsK G 0) t = 0 := by
  show rowsK G 0 (t / c) (t % c) = 0
  unfold rowsK
  rw [if_neg (Nat.not_lt_zero _)]
theorem rowsK_put {r c k : Nat} {G : Mx} {q : Nat → UInt8} (hq : ∀ j, j < c → q j = G k j) : ∀ t, t < r * c → putAt (pl c (rowsK G k)) (k * c) c q t = pl c (rowsK G (k + 1)) t := by
  intro t ht
  rw [pl_put _ _ t ht]
  refine pl_congr (r := r) (fun i j _ hj => ?_) t ht
  unfold rowsK
  by_cases e : i = k
  · subst e; rw [if_pos rfl, if_pos (by omega), hq j hj]
  · rw [if_neg e]
    by_cases h : i < k
    · rw [if_pos h, if_pos (by omega)]
    · rw [if_neg h, if_neg (by omega)]
theorem rowsK_all {r c : Nat} {G : Mx} : ∀ t, t < r * c → pl c (rowsK G r) t = pl c G t := by
  intro t ht
  exact if_pos ((Nat.div_lt_iff_lt_mul (pos_of_lt ht)).2 ht)
/-- a part of a row of the call's own -/
theorem RowF.part {w : World} {base e g L C : Nat} {f : Nat → UInt8} (h : RowF w base e g L C f) {lo c cap : Nat} (hc : 0 < c) (hl : lo + c ≤ L) (hcap : c ≤ cap) (hm : cap ≤ maxLen) : Rd w (.slice (some ⟨g, lo, none⟩) c cap) (upto (fun j => f (lo + j)) c) := by
  refine Or.inr ⟨g, lo, cap, fun e => ?_, by rw [upto_length], by rw [upto_length]; exact hcap, hm, h.lt.2, fun i hi => ?_⟩
  · have := upto_length (fun j => f (lo + j)) c
    rw [e] at this; simp at this; omega
  · rw [upto_length] at hi
    rw [co_upto_lt hi]
    exact h.cell (by omega)

set_option maxRecDepth 100000 in
set_option maxHeartbeats 4000000 in
theorem half_any {w : World} {base n C g m : Nat} {F : Mx} (hR : RowF w base 5 g m m (pl C F)) (hC : Hid (C = n + n)) (hm : Hid (m = n * C)) (hn : n ≤ 256) :
    Calls Try.prog 44 #[.agg #[.int .i64 (n : Int), .int .i64 (C : Int), .slice (some ⟨g, 0, none⟩) m m]] w fun e w' => ∃ gh mh, w.heap.size ≤ gh ∧ e = .returned (.agg #[.int .i64 (n : Int), .int .i64 (n : Int), .slice (some ⟨gh, 0, none⟩) mh mh]) ∧ Rd w' (.slice (some ⟨gh, 0, none⟩) mh mh) (flat n n (fun i j => F i (n + j))) ∧ Below w.heap.size w w' := by
  have hC2 : C ≤ 512 := by have := hC.out; omega
  have hmm : m ≤ 256 * 512 := by rw [hm.out]; exact Nat.mul_le_mul hn hC2
  have hlt0 := hR.lt
  go_enter Try.func44, Try.ntmps44
  go_wp2_with fail
  refine (nought_any n n _ hn (by omega) rfl rfl).mono ?_
  rintro e w1 ⟨gh, mh, hmh, rfl, hg, R1, b1⟩
  have hg0 : w.heap.size + 1 < gh := by simp at hg; omega
  have B1 : Below w.heap.size w w1 := Below.next (by repeat (first | exact Below.refl _ _ | apply below_lit)) b1
  have P2 : Box w1 w.heap.size (n : Int) (C : Int) (.slice (some ⟨g, 0, none⟩) m m) := Below.box b1 (by simp <;> omega) ((Box.new w _ _ _ _).alloc (by simp) _)
  have X3 : Box w1 (w.heap.size + 1) 0 0 (.slice none 0 0) := Below.box b1 (by simp <;> omega) (Box.new1 w _ 0 0 (.slice none 0 0) 30)
  have F3 : Free w1 (w.heap.size + 1) := Below.free b1 (by simp <;> omega) (by have h := Free.new (w.alloc (.cells #[.int .i64 (n : Int), .int .i64 (C : Int), .slice (some ⟨g, 0, none⟩) m m] 30)) #[.int .i64 0, .int .i64 0, .slice none 0 0] 30; rwa [World.size_alloc] at h)
  have hA : Below w1.heap.size w1 (w1.alloc (.cells #[.int .i64 (n : Int), .int .i64 (n : Int), .slice (some ⟨gh, 0, none⟩) mh mh] 30)) := (Below.refl _ _).alloc (Nat.le_refl _) _
  have P1 := Box.new w1 (n : Int) (n : Int) (.slice (some ⟨gh, 0, none⟩) mh mh) 30
  have hlt := R1.lt
  have hgg : g ≠ gh := by omega
  replace R1 := (R1.base (show w.heap.size ≤ _ by simp <;> omega)).later hA
  replace P2 := P2.below (by omega) hA
  replace X3 := X3.below (by omega) hA
  replace F3 := F3.below (by omega) hA
  replace B1 := Below.next B1 hA
  have h1 := hR.later B1
  have hms : w1.heap.size < (w1.alloc (.cells #[.int .i64 (n : Int), .int .i64 (n : Int), .slice (some ⟨gh, 0, none⟩) mh mh] 30)).heap.size := by simp
  have hmg : w1.heap.size ≠ gh := by omega
  have p20 := P2.c0
  clear hA b1 hg hR
  go_wp2
  generalize w1.alloc (.cells #[.int .i64 (n : Int), .int .i64 (n : Int), .slice (some ⟨gh, 0, none⟩) mh mh] 30) = w2 at *
  have hmm2 : mh ≤ 256 * 256 := by rw [hmh.out]; exact Nat.mul_le_mul hn hn
  obtain ⟨G, hG⟩ : ∃ G, Hid (G = fun i j => F i (n + j)) := ⟨_, rfl⟩
  go_loopw [12] (fun i wr => ∃ k : Nat, k ≤ n ∧ i = .int .i64 k ∧ Turn gh w2 wr ∧ RowF wr w.heap.size 5 gh mh mh (pl n (rowsK G k))) (fun i _ => n - (intOf i).toNat)
  case atStart => exact ⟨0, by omega, rfl, Turn.refl _ _, R1.congr (fun t _ => (rowsK_zero _ _ t).symm)⟩
  case round =>
    obtain ⟨k, hk, rfl, hT, hRk⟩ := hrel
    clear R1 p20
    replace P1 := P1.turn hms hmg hT
    replace P2 := P2.turn (by omega) (by omega) hT
    have hs2 := hT.size
    by_cases hlt2 : k < n
    · have hlt2' : (k : Int) < (n : Int) := by omega
      have h2 := h1.turn hgg hT
      obtain ⟨o, ho⟩ : ∃ o, Hid (o = k * n) := ⟨_, rfl⟩
      obtain ⟨q, hq⟩ : ∃ q, Hid (q = k * C) := ⟨_, rfl⟩
      have hom : o + n ≤ mh := by rw [ho.out, hmh.out, ← Nat.succ_mul]; exact Nat.mul_le_mul_right n hlt2
      have hqm : q + C ≤ m := by rw [hq.out, hm.out, ← Nat.succ_mul]; exact Nat.mul_le_mul_right C hlt2
      have hrowH : ∀ W, Below wr.heap.size wr W → Calls Try.prog 38 #[.agg #[.int .i64 (n : Int), .int .i64 (n : Int), .slice (some ⟨gh, 0, none⟩) mh mh], .int .i64 (k : Int)] W fun e w' => e = .returned (.slice (some ⟨gh, o, none⟩) n (mh - o)) ∧ Below wr.heap.size wr w' := by
        intro W hW
        rw [ho.out]
        exact (row_own rfl hlt2 hmh hn (by omega)).mono fun e w' he => ⟨he.1, Below.next hW he.2⟩
      obtain ⟨cp, hcp⟩ : ∃ cp, Hid (cp = m - q) := ⟨_, rfl⟩
      have hrowW : ∀ W, Below wr.heap.size wr W → Calls Try.prog 38 #[.agg #[.int .i64 (n : Int), .int .i64 (C : Int), .slice (some ⟨g, 0, none⟩) m m], .int .i64 (k : Int)] W fun e w' => e = .returned (.slice (some ⟨g, q, none⟩) C cp) ∧ Below wr.heap.size wr w' := by
        intro W hW
        rw [hcp.out, hq.out]
        exact (row_own rfl hlt2 hm hn hC2).mono fun e w' he => ⟨he.1, Below.next hW he.2⟩
      have Q1 := P1
      have Q2 := P2
      have l1 : w1.heap.size < wr.heap.size := by omega
      have l2 : w.heap.size < wr.heap.size := by omega
      have n2 : w.heap.size ≠ gh := by omega
      have g0 : (C : Int) - (n : Int) = (n : Int) := by have := hC.out; omega
      have gw : IntKind.i64.wrap (n : Int) = (n : Int) := by rw [IntKind.wrap_i64]; omega
      have hCn : C - n = n := by have := hC.out; omega
      have hnC : n ≤ C := by omega
      have hnC' : (n : Int) ≤ (C : Int) := by omega
      have hcap : n < cp := by have := hC.out; have := hcp.out; omega
      have hcap2 : C ≤ cp := by have := hcp.out; omega
      have hcap3 : cp ≤ m := by have := hcp.out; omega
      have hcapne : ¬ cp = n := by omega
      go_wp2
      go_region_held3 (fun wx => (wx.cell? ⟨w1.heap.size, 0, none⟩ = some (.int .i64 (n : Int)) ∧ wx.cell? ⟨w1.heap.size, 1, none⟩ = some (.int .i64 (n : Int)) ∧ wx.cell? ⟨w1.heap.size, 2, none⟩ = some (.slice (some ⟨gh, 0, none⟩) mh mh)) ∧ (wx.cell? ⟨w.heap.size, 0, none⟩ = some (.int .i64 (n : Int)) ∧ wx.cell? ⟨w.heap.size, 1, none⟩ = some (.int .i64 (C : Int)) ∧ wx.cell? ⟨w.heap.size, 2, none⟩ = some (.slice (some ⟨g, 0, none⟩) m m))) (first | exact ⟨Box.and P1, Box.and P2⟩ | exact ⟨Box.and P1.drew, Box.and P2.drew⟩ | exact ⟨Box.and (P1.only hmg O3), Box.and (P2.only n2 O3)⟩) (first | (go_at_call_of 38 (Value.slice (some ⟨gh, 0, none⟩) mh mh); refine (hrowH _ (by first | assumption | exact (Below.refl _ _).drew)).mono ?_; rintro e v1 ⟨rfl, bv1⟩; replace P1 := Q1.below l1 bv1; replace P2 := Q2.below l2 bv1) | (go_at_call_of 38 (Value.slice (some ⟨g, 0, none⟩) m m); refine (hrowW _ (by first | assumption | exact (Below.refl _ _).drew)).mono ?_; rintro e v2 ⟨rfl, bv2⟩; replace P1 := Q1.below l1 bv2; replace P2 := Q2.below l2 bv2) | (refine step_copy_rd rfl (.tmp 17) (.tmp 26) 28 28 rfl 5 Try.underlying28 info1_u8 rfl rfl ((h2.later bv2).part (lo := q + n) (c := n) (by omega) (by omega) (by omega) (by unfold maxLen; omega)) (upto_length _ _) (Nat.le_refl _) (hRk.later bv2) (by omega) ?_; intro v3 O3 R3))
      have T3 : Hid (Turn gh w2 v3) := hT.trans ((Below.turn bv2 gh).trans O3.turn)
      have R4 : Hid (RowF v3 w.heap.size 5 gh mh mh (pl n (rowsK G (k + 1)))) := R3.congr (fun t ht => by
        rw [ho.out]
        refine rowsK_put (r := n) (fun j hj => ?_) t (by rw [← hmh.out]; exact ht)
        rw [co_upto_lt hj, hG.out, hq.out, Nat.add_assoc]
        exact pl_at F (by omega))
      clear hRk hT R3 O3 bv2 bv1 hrowH hrowW Q1 Q2 h2 P1 P2 hCn g0
      go_wp2
      go_roundw
      case rel => exact ⟨k + 1, by omega, by go_num, T3.out, R4.out⟩
      case measure => simp [intOf]; omega
    · have e : k = n := by omega
      subst e
      have R4 : Rd wr (.slice (some ⟨gh, 0, none⟩) mh mh) (flat k k G) := by
        have := (hRk.congr (f' := pl k G) (fun t ht => rowsK_all t (by rw [← hmh.out]; exact ht))).rd
        rw [← pl_flat, ← hmh.out]
        exact this
      rw [hG.out] at R4
      have X4 := X3.turn (by omega) (by omega) hT
      have F4 := F3.turn (by omega) (by omega) hT
      have x30 := X4.c0
      have x31 := X4.c1
      have x32 := X4.c2
      have f30 := F4.f0
      have f31 := F4.f1
      have f32 := F4.f2
      have y0 := P1.c0
      have y1 := P1.c1
      have y2 := P1.c2
      clear hRk
      go_wp2
      have O1 : Only (w.heap.size + 1) wr (((wr.setCell ⟨w.heap.size + 1, 0, none⟩ (.int .i64 (k : Int))).setCell ⟨w.heap.size + 1, 1, none⟩ (.int .i64 (k : Int))).setCell ⟨w.heap.size + 1, 2, none⟩ (.slice (some ⟨gh, 0, none⟩) mh mh)) :=
        (((Only.refl _ _).setCell 0 _).setCell 1 _).setCell 2 _
      refine bodyPost_ret (v := .agg #[.int .i64 (k : Int), .int .i64 (k : Int), .slice (some ⟨gh, 0, none⟩) mh mh]) (by simp [results, Try.results44, go_sem, x30, x31, x32, f30, f31, f32]) rfl ⟨gh, mh, by omega, rfl, R4.only (apart_block (by omega)) O1, (B1.trans (hT.below (by omega) (by omega))).trans (O1.below (by omega))⟩

end Go.Proofs.Ythfimeddfpchpaa.Gf
