/- TEXTS JOINED: ReRefA, ReCA, ReConv, ReGro. -/
import Derived.Test.YthmoiffkgcnjmaaQome5
import Derived.Laws.IdiomStrings
namespace Go.Proofs.Ythmoiffkgcnjmaa.Gf
set_option linter.unusedVariables false
set_option linter.unusedSimpArgs false
open Go.RowKit
def chR (r : RcS) : Int := if OkR r then 0 else 1
theorem belR (w : World) (o : Obj) : Below w.heap.size w (w.alloc o) := (Below.refl _ _).alloc (Nat.le_refl _) o
theorem _root_.Go.RowKit.Below.step16 {B : Nat} {a b c : World} (h : Below B a b) (k : Below b.heap.size b c) (hB : B ≤ b.heap.size) : Below B a c := h.trans (k.mono hB)
theorem RdI.at16 {w : World} {a : Option Addr} {n c : Nat} {zs : List Int} (h : RdI w (.slice a n c) zs) {i : Nat} (hi : i < zs.length) : ∃ b off, a = some ⟨b, off, none⟩ ∧ w.cell? ⟨b, off + i, none⟩ = some (.int .i64 (zs.getD i 0)) := by
  rcases h with ⟨a', c', rfl, _⟩ | ⟨b, off, c', h1, e, h2, h3, h4⟩
  · simp at hi
  · simp at e
    obtain ⟨rfl, _⟩ := e
    exact ⟨b, off, rfl, h4 i hi⟩
theorem ch_bad {p : Prop} (h : p := by
  go_enter Try.func18, Try.ntmps18
  go_wp2
  go_ret
  exact ⟨rfl, FB _⟩) : p := h
theorem ch_not {kd ln : Int} {ky : List UInt8} {st : List Int} {r : Nat} (hr : r < st.length) (h : st.getD r 0 < 0 ∨ st.getD r 0 ≥ 256) : chR ⟨kd, ky, ln, st⟩ = 1 := if_neg fun q => by
  have e : st.getD r 0 = st[r] := by rw [List.getD_eq_getElem?_getD, List.getElem?_eq_getElem hr]; rfl
  have := q.2.2.2.2.2.2.1 st[r] (List.getElem_mem hr)
  omega
theorem ch_all {st : List Int} (h : ∀ j, j < st.length → 0 ≤ st.getD j 0 ∧ st.getD j 0 < 256) : ∀ s ∈ st, 0 ≤ s ∧ s < 256 := fun s hs => by
  obtain ⟨i, hi, rfl⟩ := List.getElem_of_mem hs
  have e : st.getD i 0 = st[i] := by rw [List.getD_eq_getElem?_getD, List.getElem?_eq_getElem hi]; rfl
  rw [← e]; exact h i hi
theorem ch_loop1 {p : Prop} (h : p := by
  obtain ⟨w1, hw1⟩ : ∃ w1, w1 = w.alloc (.cells #[.int .i64 1, .string ⟨ky.toArray⟩, .int .i64 ln, .slice a st.length cp] 25) := ⟨_, rfl⟩
  have B1 : Below w.heap.size w w1 := by rw [hw1]; exact FB _
  have c0 : w1.cell? ⟨w.heap.size, 0, none⟩ = some (.int .i64 1) := by rw [hw1, World.cell?_alloc_new]; rfl
  have c2 : w1.cell? ⟨w.heap.size, 2, none⟩ = some (.int .i64 ln) := by rw [hw1, World.cell?_alloc_new]; rfl
  have c3 : w1.cell? ⟨w.heap.size, 3, none⟩ = some (.slice a st.length cp) := by rw [hw1, World.cell?_alloc_new]; rfl
  have HR1 := HR.below B1
  go_enter Try.func18, Try.ntmps18
  go_wp2
  rw [← hw1]
  clear hw1 HR FB
  go_loopw [3] (fun i wr => ∃ r : Nat, r ≤ st.length ∧ i = .int .i64 (r : Int) ∧ wr = w1 ∧ Hid (∀ j, j < r → 0 ≤ st.getD j 0 ∧ st.getD j 0 < 256)) (fun i _ => st.length - (intOf i).toNat)
  case atStart => exact ⟨0, Nat.zero_le _, rfl, rfl, fun j hj => absurd hj (Nat.not_lt_zero _)⟩
  case round =>
    obtain ⟨r, hr, rfl, rfl, hall⟩ := hrel
    by_cases hlt : r < st.length
    · have hlt' : (r : Int) < (st.length : Int) := by omega
      have hrl : (r : Int) ≤ (st.length : Int) := by omega
      obtain ⟨b, off, e, cz⟩ := HR1.at16 hlt
      subst e
      have N1 := fun q => @ch_not 1 ln ky st r hlt q
      have hall2 : Hid (0 ≤ st.getD r 0 → st.getD r 0 < 256 → ∀ j, j < r + 1 → 0 ≤ st.getD j 0 ∧ st.getD j 0 < 256) := fun h0 h1 j hj => by
        by_cases e : j = r
        · rw [e]; exact ⟨h0, h1⟩
        · exact hall.out j (by omega)
      generalize st.getD r 0 = z at cz N1 hall2
      by_cases z0 : z < 0
      · obtain rfl : x = 1 := HX.out.symm.trans (N1 (Or.inl z0))
        clear N1 hall2 hall
        go_wp2
        go_ret
        exact ⟨rfl, B1⟩
      by_cases z1 : z ≥ 256
      · obtain rfl : x = 1 := HX.out.symm.trans (N1 (Or.inr z1))
        clear N1 hall2 hall
        go_wp2
        go_ret
        exact ⟨rfl, B1⟩
      · have H3 : Hid _ := hall2.out (by omega) (by omega)
        clear N1 hall2 hall
        go_wp2
        go_roundw
        case rel => exact ⟨r + 1, by omega, by go_num, by first | rfl | trivial, H3.out⟩
        case measure => simp [intOf]; omega
    · obtain rfl : r = st.length := by omega
      have hge : ¬ (st.length : Int) < (st.length : Int) := by omega
      have HA : Hid _ := ch_all hall.out
      clear hall hlt
      obtain rfl : x = 0 := HX.out.symm.trans (if_pos ⟨Or.inl rfl, by simp only; omega, by simp only; omega, by simp only; omega, by simp only; omega, by simp only; omega, HA.out, fun e => by simp at e⟩)
      go_wp2
      go_ret
      exact ⟨rfl, B1⟩) : p := h
theorem ch_loop2 {p : Prop} (h : p := by
  obtain ⟨w1, hw1⟩ : ∃ w1, w1 = w.alloc (.cells #[.int .i64 2, .string ⟨ky.toArray⟩, .int .i64 ln, .slice a st.length cp] 25) := ⟨_, rfl⟩
  have B1 : Below w.heap.size w w1 := by rw [hw1]; exact FB _
  have c0 : w1.cell? ⟨w.heap.size, 0, none⟩ = some (.int .i64 2) := by rw [hw1, World.cell?_alloc_new]; rfl
  have c2 : w1.cell? ⟨w.heap.size, 2, none⟩ = some (.int .i64 ln) := by rw [hw1, World.cell?_alloc_new]; rfl
  have c3 : w1.cell? ⟨w.heap.size, 3, none⟩ = some (.slice a st.length cp) := by rw [hw1, World.cell?_alloc_new]; rfl
  have HR1 := HR.below B1
  go_enter Try.func18, Try.ntmps18
  go_wp2
  rw [← hw1]
  clear hw1 HR FB
  go_loopw [3] (fun i wr => ∃ r : Nat, r ≤ st.length ∧ i = .int .i64 (r : Int) ∧ wr = w1 ∧ Hid (∀ j, j < r → 0 ≤ st.getD j 0 ∧ st.getD j 0 < 256)) (fun i _ => st.length - (intOf i).toNat)
  case atStart => exact ⟨0, Nat.zero_le _, rfl, rfl, fun j hj => absurd hj (Nat.not_lt_zero _)⟩
  case round =>
    obtain ⟨r, hr, rfl, rfl, hall⟩ := hrel
    by_cases hlt : r < st.length
    · have hlt' : (r : Int) < (st.length : Int) := by omega
      have hrl : (r : Int) ≤ (st.length : Int) := by omega
      obtain ⟨b, off, e, cz⟩ := HR1.at16 hlt
      subst e
      have N1 := fun q => @ch_not 2 ln ky st r hlt q
      have hall2 : Hid (0 ≤ st.getD r 0 → st.getD r 0 < 256 → ∀ j, j < r + 1 → 0 ≤ st.getD j 0 ∧ st.getD j 0 < 256) := fun h0 h1 j hj => by
        by_cases e : j = r
        · rw [e]; exact ⟨h0, h1⟩
        · exact hall.out j (by omega)
      generalize st.getD r 0 = z at cz N1 hall2
      by_cases z0 : z < 0
      · obtain rfl : x = 1 := HX.out.symm.trans (N1 (Or.inl z0))
        clear N1 hall2 hall
        go_wp2
        go_ret
        exact ⟨rfl, B1⟩
      by_cases z1 : z ≥ 256
      · obtain rfl : x = 1 := HX.out.symm.trans (N1 (Or.inr z1))
        clear N1 hall2 hall
        go_wp2
        go_ret
        exact ⟨rfl, B1⟩
      · have H3 : Hid _ := hall2.out (by omega) (by omega)
        clear N1 hall2 hall
        go_wp2
        go_roundw
        case rel => exact ⟨r + 1, by omega, by go_num, by first | rfl | trivial, H3.out⟩
        case measure => simp [intOf]; omega
    · obtain rfl : r = st.length := by omega
      have hge : ¬ (st.length : Int) < (st.length : Int) := by omega
      have HA : Hid _ := ch_all hall.out
      clear hall hlt
      by_cases l0 : ln = 0
      rotate_left
      · obtain rfl : x = 1 := HX.out.symm.trans (if_neg fun q => l0 (q.2.2.2.2.2.2.2 rfl).1)
        go_wp2
        go_ret
        exact ⟨rfl, B1⟩
      by_cases s0 : st.length = 0
      rotate_left
      · obtain rfl : x = 1 := HX.out.symm.trans (if_neg fun q => s0 (q.2.2.2.2.2.2.2 rfl).2)
        have s1 : (st.length : Int) > 0 := by omega
        go_wp2
        go_ret
        exact ⟨rfl, B1⟩
      · obtain rfl : x = 0 := HX.out.symm.trans (if_pos ⟨Or.inr rfl, by simp only; omega, by simp only; omega, by simp only; omega, by simp only; omega, by simp only; omega, HA.out, fun _ => ⟨l0, s0⟩⟩)
        have s1 : ¬ (st.length : Int) > 0 := by omega
        go_wp2
        go_ret
        exact ⟨rfl, B1⟩) : p := h
set_option maxRecDepth 100000 in
set_option maxHeartbeats 4000000 in
theorem rchk16_any {w : World} {c : RcV} (h : c.In w) {x : Int} (hx : chR c.r = x) : Calls Try.prog 18 #[aggR c] w fun e w' => e = .returned (.int .i64 x) ∧ Below w.heap.size w w' := by
  obtain ⟨⟨kd, ky, ln, st⟩, vs⟩ := c
  have HR := h.rs
  obtain ⟨a, cp, e⟩ := HR.form
  simp only at e HR hx
  subst e
  have FB := fun o => belR w o
  clear h
  show Calls Try.prog 18 #[.agg #[.int .i64 kd, .string ⟨ky.toArray⟩, .int .i64 ln, .slice a st.length cp]] w _
  by_cases h1 : kd = 1 ∨ kd = 2
  rotate_left
  · rw [show chR ⟨kd, ky, ln, st⟩ = 1 from if_neg (fun q => h1 q.1)] at hx
    subst hx
    have q1 : ¬ kd = 1 := fun e => h1 (Or.inl e)
    have q2 : ¬ kd = 2 := fun e => h1 (Or.inr e)
    clear h1
    exact ch_bad
  by_cases h2 : (ky.length : Int) < 1
  · rw [show chR ⟨kd, ky, ln, st⟩ = 1 from if_neg (fun q => by have := q.2.1; simp only at this; omega)] at hx
    subst hx
    rcases h1 with h1 | h1 <;> subst h1 <;> exact ch_bad
  by_cases h3 : (ky.length : Int) > 64
  · rw [show chR ⟨kd, ky, ln, st⟩ = 1 from if_neg (fun q => by have := q.2.2.1; simp only at this; omega)] at hx
    subst hx
    rcases h1 with h1 | h1 <;> subst h1 <;> exact ch_bad
  by_cases h4 : ln < 0
  · rw [show chR ⟨kd, ky, ln, st⟩ = 1 from if_neg (fun q => by have := q.2.2.2.1; simp only at this; omega)] at hx
    subst hx
    rcases h1 with h1 | h1 <;> subst h1 <;> exact ch_bad
  by_cases h5 : ln > 2147483647
  · rw [show chR ⟨kd, ky, ln, st⟩ = 1 from if_neg (fun q => by have := q.2.2.2.2.1; simp only at this; omega)] at hx
    subst hx
    rcases h1 with h1 | h1 <;> subst h1 <;> exact ch_bad
  by_cases h6 : (st.length : Int) > 256
  · rw [show chR ⟨kd, ky, ln, st⟩ = 1 from if_neg (fun q => by have := q.2.2.2.2.2.1; simp only at this; omega)] at hx
    subst hx
    rcases h1 with h1 | h1 <;> subst h1 <;> exact ch_bad
  have HX : Hid (chR ⟨kd, ky, ln, st⟩ = x) := hx
  clear hx
  rcases h1 with h1 | h1 <;> subst h1
  · exact ch_loop1
  · exact ch_loop2
end Go.Proofs.Ythmoiffkgcnjmaa.Gf

namespace Go.Proofs.Ythmoiffkgcnjmaa.Gf
set_option linter.unusedVariables false
set_option linter.unusedSimpArgs false
open Go.RowKit
def OkN (n : Int) : Prop := 0 ≤ n ∧ n ≤ 2147483647
instance (n : Int) : Decidable (OkN n) := inferInstanceAs (Decidable (_ ∧ _))
def OkT16 (st : List Int) : Prop := st.length ≤ 256 ∧ ∀ s ∈ st, 0 ≤ s ∧ s < 256
instance (st : List Int) : Decidable (OkT16 st) := inferInstanceAs (Decidable (_ ∧ _))
set_option maxRecDepth 100000 in
theorem may16_any {n : Int} {w : World} {x : Bool} (hx : decide (OkN n) = x) : Calls Try.prog 34 #[.int .i64 n] w fun e w' => e = .returned (.bool x) ∧ w' = w := by
  by_cases h0 : 0 ≤ n
  · by_cases h1 : n ≤ 2147483647
    · obtain rfl : x = true := hx.symm.trans (decide_eq_true ⟨h0, h1⟩)
      clear hx
      have h0' : n ≥ 0 := h0
      go_enter Try.func34, Try.ntmps34
      go_wp2
      go_ret
      exact ⟨rfl, rfl⟩
    · obtain rfl : x = false := hx.symm.trans (decide_eq_false fun q => h1 q.2)
      clear hx
      have h0' : n ≥ 0 := h0
      go_enter Try.func34, Try.ntmps34
      go_wp2
      go_ret
      exact ⟨rfl, rfl⟩
  · obtain rfl : x = false := hx.symm.trans (decide_eq_false fun q => h0 q.1)
    clear hx
    have h0' : ¬ n ≥ 0 := h0
    go_enter Try.func34, Try.ntmps34
    go_wp2
    go_ret
    exact ⟨rfl, rfl⟩
set_option maxRecDepth 100000 in
set_option maxHeartbeats 1000000 in
theorem are16_any {st : List Int} {v : Value} {w : World} (h : RdI w v st) {x : Bool} (hx : decide (OkT16 st) = x) : Calls Try.prog 35 #[v] w fun e w' => e = .returned (.bool x) ∧ w' = w := by
  obtain ⟨a, cp, rfl⟩ := h.form
  have HX : Hid (decide (OkT16 st) = x) := hx
  clear hx
  by_cases h6 : (st.length : Int) > 256
  · obtain rfl : x = false := HX.out.symm.trans (decide_eq_false fun q => by have := q.1; omega)
    clear HX h
    go_enter Try.func35, Try.ntmps35
    go_wp2
    go_ret
    exact ⟨rfl, rfl⟩
  go_enter Try.func35, Try.ntmps35
  go_wp2
  go_loopw [10] (fun i wr => ∃ r : Nat, r ≤ st.length ∧ i = .int .i64 (r : Int) ∧ wr = w ∧ Hid (∀ j, j < r → 0 ≤ st.getD j 0 ∧ st.getD j 0 < 256)) (fun i _ => st.length - (intOf i).toNat)
  case atStart => exact ⟨0, Nat.zero_le _, rfl, rfl, fun j hj => absurd hj (Nat.not_lt_zero _)⟩
  case round =>
    obtain ⟨r, hr, rfl, rfl, hall⟩ := hrel
    by_cases hlt : r < st.length
    · have hlt' : (r : Int) < (st.length : Int) := by omega
      have hrl : (r : Int) ≤ (st.length : Int) := by omega
      obtain ⟨b, off, e, cz⟩ := h.at16 hlt
      subst e
      have N1 : Hid (st.getD r 0 < 0 ∨ st.getD r 0 ≥ 256 → decide (OkT16 st) = false) := fun q => decide_eq_false fun k => by
        have e : st.getD r 0 = st[r] := by rw [List.getD_eq_getElem?_getD, List.getElem?_eq_getElem hlt]; rfl
        have := k.2 st[r] (List.getElem_mem hlt)
        omega
      have hall2 : Hid (0 ≤ st.getD r 0 → st.getD r 0 < 256 → ∀ j, j < r + 1 → 0 ≤ st.getD j 0 ∧ st.getD j 0 < 256) := fun h0 h1 j hj => by
        by_cases e : j = r
        · rw [e]; exact ⟨h0, h1⟩
        · exact hall.out j (by omega)
      generalize st.getD r 0 = z at cz N1 hall2
      by_cases z0 : z < 0
      · obtain rfl : x = false := HX.out.symm.trans (N1.out (Or.inl z0))
        clear N1 hall2 hall HX
        go_wp2
        go_ret
        exact ⟨rfl, rfl⟩
      by_cases z1 : z ≥ 256
      · obtain rfl : x = false := HX.out.symm.trans (N1.out (Or.inr z1))
        clear N1 hall2 hall HX
        go_wp2
        go_ret
        exact ⟨rfl, rfl⟩
      · have H3 : Hid _ := hall2.out (by omega) (by omega)
        clear N1 hall2 hall
        go_wp2
        go_roundw
        case rel => exact ⟨r + 1, by omega, by go_num, by first | rfl | trivial, H3.out⟩
        case measure => simp [intOf]; omega
    · obtain rfl : r = st.length := by omega
      have hge : ¬ (st.length : Int) < (st.length : Int) := by omega
      obtain rfl : x = true := HX.out.symm.trans (decide_eq_true ⟨by omega, ch_all hall.out⟩)
      clear hall hlt HX
      go_wp2
      go_ret
      exact ⟨rfl, rfl⟩
theorem chR_parts {kd ln : Int} {ky : List UInt8} {st : List Int} (h1 : 1 ≤ ky.length) (h2 : ky.length ≤ 64) (h3 : OkN ln) (h4 : OkT16 st) : chR ⟨kd, ky, ln, st⟩ = if kd = 1 ∨ kd = 2 ∧ ln = 0 ∧ st.length = 0 then 0 else 1 := by
  unfold chR
  by_cases q : kd = 1 ∨ kd = 2 ∧ ln = 0 ∧ st.length = 0
  · rw [if_pos q, if_pos]
    refine ⟨by simp only; omega, h1, h2, h3.1, h3.2, h4.1, h4.2, fun e => ?_⟩
    simp only at e
    simp only
    omega
  · rw [if_neg q, if_neg]
    rintro ⟨k1, -, -, -, -, -, -, k8⟩
    simp only at k1 k8
    apply q
    rcases k1 with k1 | k1
    · exact Or.inl k1
    · exact Or.inr ⟨k1, k8 k1⟩
set_option maxRecDepth 100000 in
set_option maxHeartbeats 2000000 in
theorem chk16_any {w : World} {c : RcV} (h : c.In w) {x : Int} (hx : chR c.r = x) : Calls Try.prog 17 #[aggR c] w fun e w' => e = .returned (.int .i64 x) ∧ Below w.heap.size w w' := by
  obtain ⟨⟨kd, ky, ln, st⟩, vs⟩ := c
  have HR := h.rs
  obtain ⟨a, cp, e⟩ := HR.form
  simp only at e HR hx
  subst e
  clear h
  have HX : Hid (chR ⟨kd, ky, ln, st⟩ = x) := hx
  clear hx
  show Calls Try.prog 17 #[.agg #[.int .i64 kd, .string ⟨ky.toArray⟩, .int .i64 ln, .slice a st.length cp]] w _
  obtain ⟨w1, hw1⟩ : ∃ w1, w1 = w.alloc (.cells #[.int .i64 kd, .string ⟨ky.toArray⟩, .int .i64 ln, .slice a st.length cp] 25) := ⟨_, rfl⟩
  have B1 : Below w.heap.size w w1 := by rw [hw1]; exact belR _ _
  have c0 : w1.cell? ⟨w.heap.size, 0, none⟩ = some (.int .i64 kd) := by rw [hw1, World.cell?_alloc_new]; rfl
  have c1 : w1.cell? ⟨w.heap.size, 1, none⟩ = some (.string ⟨ky.toArray⟩) := by rw [hw1, World.cell?_alloc_new]; rfl
  have c2 : w1.cell? ⟨w.heap.size, 2, none⟩ = some (.int .i64 ln) := by rw [hw1, World.cell?_alloc_new]; rfl
  have c3 : w1.cell? ⟨w.heap.size, 3, none⟩ = some (.slice a st.length cp) := by rw [hw1, World.cell?_alloc_new]; rfl
  have HR1 := HR.below B1
  clear HR
  by_cases h1 : (ky.length : Int) ≥ 1
  rotate_left
  · obtain rfl : x = 1 := HX.out.symm.trans (if_neg fun q => by have := q.2.1; simp only at this; omega)
    clear HX HR1
    go_enter Try.func17, Try.ntmps17
    go_wp2_with fail
    rw [← hw1]
    clear hw1
    go_ret
    exact ⟨rfl, B1⟩
  by_cases h2 : (ky.length : Int) ≤ 64
  rotate_left
  · obtain rfl : x = 1 := HX.out.symm.trans (if_neg fun q => by have := q.2.2.1; simp only at this; omega)
    clear HX HR1
    go_enter Try.func17, Try.ntmps17
    go_wp2_with fail
    rw [← hw1]
    clear hw1
    go_ret
    exact ⟨rfl, B1⟩
  by_cases h3 : OkN ln
  rotate_left
  · obtain rfl : x = 1 := HX.out.symm.trans (if_neg fun q => h3 ⟨q.2.2.2.1, q.2.2.2.2.1⟩)
    clear HX HR1
    go_enter Try.func17, Try.ntmps17
    go_wp2_with fail
    rw [← hw1]
    clear hw1
    refine (may16_any (decide_eq_false h3)).mono ?_
    rintro _ _ ⟨rfl, rfl⟩
    go_wp2
    go_ret
    exact ⟨rfl, B1⟩
  by_cases h4 : OkT16 st
  rotate_left
  · obtain rfl : x = 1 := HX.out.symm.trans (if_neg fun q => h4 ⟨q.2.2.2.2.2.1, q.2.2.2.2.2.2.1⟩)
    clear HX
    have K4 := are16_any HR1 (decide_eq_false h4)
    go_enter Try.func17, Try.ntmps17
    go_wp2_with fail
    rw [← hw1]
    clear hw1
    refine (may16_any (decide_eq_true h3)).mono ?_
    rintro _ _ ⟨rfl, rfl⟩
    go_wp2_with fail
    refine K4.mono ?_
    rintro _ _ ⟨rfl, rfl⟩
    clear K4
    go_wp2
    go_ret
    exact ⟨rfl, B1⟩
  have HY : Hid _ := (chR_parts (kd := kd) (by omega) (by omega) h3 h4).symm.trans HX.out
  have K4 := are16_any HR1 (decide_eq_true h4)
  clear HX HR1
  go_enter Try.func17, Try.ntmps17
  go_wp2_with fail
  rw [← hw1]
  clear hw1
  refine (may16_any (decide_eq_true h3)).mono ?_
  rintro _ _ ⟨rfl, rfl⟩
  go_wp2_with fail
  refine K4.mono ?_
  rintro _ _ ⟨rfl, rfl⟩
  clear K4 h3 h4 h1 h2
  by_cases k1 : kd = 1
  · obtain rfl : x = 0 := HY.out.symm.trans (if_pos (Or.inl k1))
    clear HY
    subst k1
    go_wp2
    go_ret
    exact ⟨rfl, B1⟩
  by_cases k2 : kd = 2
  rotate_left
  · obtain rfl : x = 1 := HY.out.symm.trans (if_neg (by omega))
    clear HY
    go_wp2
    go_ret
    exact ⟨rfl, B1⟩
  by_cases k3 : ln = 0
  rotate_left
  · obtain rfl : x = 1 := HY.out.symm.trans (if_neg (by omega))
    clear HY
    subst k2
    go_wp2
    go_ret
    exact ⟨rfl, B1⟩
  by_cases k4 : (st.length : Int) = 0
  · obtain rfl : x = 0 := HY.out.symm.trans (if_pos (by omega))
    clear HY
    subst k2 k3
    go_wp2
    go_ret
    exact ⟨rfl, B1⟩
  · obtain rfl : x = 1 := HY.out.symm.trans (if_neg (by omega))
    clear HY
    subst k2 k3
    go_wp2
    go_ret
    exact ⟨rfl, B1⟩
end Go.Proofs.Ythmoiffkgcnjmaa.Gf

namespace Go.Proofs.Ythmoiffkgcnjmaa.Gf
set_option linter.unusedVariables false
set_option linter.unusedSimpArgs false
open Go.RowKit
theorem conv_key (W : World) (y : List UInt8) (h : y.length ≤ maxLen) : ∃ c U, (convert 9 26 (.string ⟨y.toArray⟩)).run Try.prog W = .ok (.slice (some ⟨W.heap.size, 0, none⟩) y.length c) U ∧ Rd U (.slice (some ⟨W.heap.size, 0, none⟩) y.length c) y ∧ Below W.heap.size W U ∧ W.heap.size < U.heap.size := by
  obtain ⟨c, hc⟩ : ∃ c, c = grownCap W y.length 0 5 := ⟨_, rfl⟩
  have r := run_bytes_of_string (P := Try.prog) W 9 26 5 ⟨y.toArray⟩ Try.underlying9 Try.underlying26 Try.underlying5
  have e : (⟨y.toArray⟩ : ByteArray).size = y.length := by show y.toArray.size = _; simp
  rw [e, ← hc] at r
  have c1 : y.length ≤ c := by rw [hc]; exact grownCap_ge _ _ _ _
  have c2 : c ≤ maxLen := by rw [hc]; exact grownCap_le_maxLen _ _ _ _ h
  have B : Below W.heap.size W (W.drew.alloc (.cells (bytesRow ⟨y.toArray⟩ c) 5 ((bytesRow ⟨y.toArray⟩ c).size, (bytesRow ⟨y.toArray⟩ c).size + 1))) := ((Below.refl _ W).drew).alloc (Nat.le_refl _) _
  have s : W.heap.size < (W.drew.alloc (.cells (bytesRow ⟨y.toArray⟩ c) 5 ((bytesRow ⟨y.toArray⟩ c).size, (bytesRow ⟨y.toArray⟩ c).size + 1))).heap.size := by
    show W.heap.size < (W.heap.push _).size
    rw [Array.size_push]; exact Nat.lt_succ_self _
  refine ⟨c, _, r, ?_, B, s⟩
  by_cases h0 : y = []
  · subst h0
    exact Or.inl ⟨_, c, rfl, rfl, c2, fun q => by cases q⟩
  · refine Or.inr ⟨W.heap.size, 0, c, h0, rfl, c1, c2, s, fun i hi => ?_⟩
    rw [Nat.zero_add]
    refine (World.cell?_alloc_mark W.drew _ _ _ i).trans ?_
    have hi' : i < y.toArray.size := by simpa using hi
    rw [bytesRow_at ⟨y.toArray⟩ c i hi']
    have : (⟨y.toArray⟩ : ByteArray).data[i] = co y i := by
      show y.toArray[i] = co y i
      unfold co
      simp [List.getD_eq_getElem?_getD, List.getElem?_eq_getElem hi]
    rw [this]
theorem conv_str {w : World} {v : Value} {p : List UInt8} (h : Rd w v p) : (convert 26 9 v).run Try.prog w = .ok (.string ⟨p.toArray⟩) w := by
  rcases h with ⟨ao, cap, rfl, rfl, _, _⟩ | ⟨b, off, cap, h0, rfl, h1, h2, h3, h4⟩
  · rw [run_convert_bytes_string w 26 9 5 ao 0 cap Try.underlying26 Try.underlying5 Try.underlying9]
    cases ao with
    | none => simp [Conv.bytesToString]; rfl
    | some a => 
      have hl := run_loadCells_list (P := Try.prog) w a [] (fun j v hj => by simp at hj)
      rw [run_bytesToString w a 0 cap [] hl]
      rfl
  · refine run_convert_bytes_back w 26 9 5 ⟨b, off, none⟩ cap p Try.underlying26 Try.underlying5 Try.underlying9 (fun j hj => ?_)
    rw [add_at, h4 j hj]
    have : co p j = p[j] := by
      unfold co
      simp [List.getD_eq_getElem?_getD, List.getElem?_eq_getElem hj]
    rw [this]
end Go.Proofs.Ythmoiffkgcnjmaa.Gf

namespace Go.Proofs.Ythmoiffkgcnjmaa.Gf
set_option linter.unusedVariables false
set_option linter.unusedSimpArgs false
open Go.RowKit
structure Gro (w : World) (v : Value) (w' : World) (v' : Value) : Prop where
  gr : w.grownBy w' v.ownBlock
  pl : v'.ownBlock = v.ownBlock ∨ ∃ k, v'.ownBlock = some k ∧ w.heap.size ≤ k
theorem Gro.refl (w : World) (v : Value) : Gro w v w v := ⟨World.grownBy.refl _ _, Or.inl rfl⟩
theorem Gro.of {w w' : World} {v v' : Value} (h : w.grownBy w' v.ownBlock) (k : v'.ownBlock = v.ownBlock ∨ v'.ownBlock = some w.heap.size) : Gro w v w' v' :=
  ⟨h, k.imp id fun e => ⟨_, e, Nat.le_refl _⟩⟩
theorem Gro.trans {a b c : World} {u v x : Value} (h : Gro a u b v) (k : Gro b v c x) : Gro a u c x := by
  refine ⟨⟨k.gr.os.trans h.gr.os, k.gr.tape.trans h.gr.tape, k.gr.output.trans h.gr.output, Nat.le_trans h.gr.size k.gr.size, fun i hi hne => ?_⟩, ?_⟩
  · refine (k.gr.block i (Nat.lt_of_lt_of_le hi h.gr.size) fun e => ?_).trans (h.gr.block i hi hne)
    rcases h.pl with q | ⟨j, q, hj⟩
    · exact hne (e.trans q)
    · rw [q] at e
      simp at e
      omega
  · rcases k.pl with q | ⟨j, q, hj⟩
    · rcases h.pl with r | ⟨j, r, hj⟩
      · exact Or.inl (q.trans r)
      · exact Or.inr ⟨j, q.trans r, hj⟩
    · exact Or.inr ⟨j, q, Nat.le_trans h.gr.size hj⟩
theorem Gro.bel {w w' : World} (v : Value) (h : Below w.heap.size w w') : Gro w v w' v := ⟨⟨h.os, h.tape, h.output, h.size, fun k hk _ => h.block k hk⟩, Or.inl rfl⟩
theorem Gro.cell {w w' : World} {v v' : Value} (h : Gro w v w' v') {p : Addr} (hp : p.block < w.heap.size) (hn : v.ownBlock ≠ some p.block) : w'.cell? p = w.cell? p := World.cell?_of_block (w := w) (h.gr.block p.block hp fun e => hn e.symm)
theorem Gro.frozen {w w' : World} {v v' : Value} (h : Gro w v w' v') {p : Addr} (hp : p.block < w.heap.size) (hn : v.ownBlock ≠ some p.block) : w'.frozen? p = w.frozen? p := World.frozen?_of_block (w := w) (h.gr.block p.block hp fun e => hn e.symm)
theorem Gro.ne {w w' : World} {v v' : Value} (h : Gro w v w' v') {b : Nat} (hb : b < w.heap.size) (hn : v.ownBlock ≠ some b) : v'.ownBlock ≠ some b := by
  rcases h.pl with q | ⟨j, q, hj⟩
  · rw [q]; exact hn
  · rw [q]; intro e; simp at e; omega
theorem Gro.below {B e n : Nat} {w0 w w' : World} {v v' : Value} {xs : List Value} (h : Gro w v w' v') (hB : Below B w0 w) (hs : B ≤ w.heap.size) (ho : w.ownsRow B e 1 v n xs) : Below B w0 w' :=
  hB.grown h.gr hs fun q hq => (World.ownsRow.lt ho q hq).1
theorem own_ne {w : World} {B e n : Nat} {v : Value} {xs : List Value} (ho : w.ownsRow B e 1 v n xs) {b : Nat} (hb : w.heap.size ≤ b) : v.ownBlock ≠ some b := fun e => by
  have := (World.ownsRow.lt ho b e).2
  omega
theorem cat16 {w : World} {base e : Nat} {v : Value} {p q : List UInt8} (h : w.ownsRow base e 1 v (p.length + q.length) (p.map vb ++ q.map vb)) : OwnP w base e v (p ++ q) := by
  unfold OwnP
  rw [List.length_append, List.map_append]; exact h
theorem set4 {w : World} {g : Nat} {a b c d x0 x1 x2 x3 : Value} (m0 : w.cell? ⟨g, 0, none⟩ = some x0) (m1 : w.cell? ⟨g, 1, none⟩ = some x1) (m2 : w.cell? ⟨g, 2, none⟩ = some x2) (m3 : w.cell? ⟨g, 3, none⟩ = some x3) :
    Only g w ((((w.setCell ⟨g, 0, none⟩ a).setCell ⟨g, 1, none⟩ b).setCell ⟨g, 2, none⟩ c).setCell ⟨g, 3, none⟩ d) ∧ ((((w.setCell ⟨g, 0, none⟩ a).setCell ⟨g, 1, none⟩ b).setCell ⟨g, 2, none⟩ c).setCell ⟨g, 3, none⟩ d).cell? ⟨g, 0, none⟩ = some a ∧ ((((w.setCell ⟨g, 0, none⟩ a).setCell ⟨g, 1, none⟩ b).setCell ⟨g, 2, none⟩ c).setCell ⟨g, 3, none⟩ d).cell? ⟨g, 1, none⟩ = some b ∧ ((((w.setCell ⟨g, 0, none⟩ a).setCell ⟨g, 1, none⟩ b).setCell ⟨g, 2, none⟩ c).setCell ⟨g, 3, none⟩ d).cell? ⟨g, 2, none⟩ = some c ∧ ((((w.setCell ⟨g, 0, none⟩ a).setCell ⟨g, 1, none⟩ b).setCell ⟨g, 2, none⟩ c).setCell ⟨g, 3, none⟩ d).cell? ⟨g, 3, none⟩ = some d := by
  refine ⟨((((Only.refl _ _).setCell _ _).setCell _ _).setCell _ _).setCell _ _, ?_, ?_, ?_, ?_⟩
  · rw [World.cell?_setCell_other _ _ _ _ (by simp), World.cell?_setCell_other _ _ _ _ (by simp), World.cell?_setCell_other _ _ _ _ (by simp), World.cell?_setCell_same _ _ _ m0]
  · rw [World.cell?_setCell_other _ _ _ _ (by simp), World.cell?_setCell_other _ _ _ _ (by simp), World.cell?_setCell_same _ _ _ ((World.cell?_setCell_other _ _ _ _ (by simp)).trans m1)]
  · rw [World.cell?_setCell_other _ _ _ _ (by simp), World.cell?_setCell_same _ _ _ ((World.cell?_setCell_other _ _ _ _ (by simp)).trans ((World.cell?_setCell_other _ _ _ _ (by simp)).trans m2))]
  · exact World.cell?_setCell_same _ _ _ ((World.cell?_setCell_other _ _ _ _ (by simp)).trans ((World.cell?_setCell_other _ _ _ _ (by simp)).trans ((World.cell?_setCell_other _ _ _ _ (by simp)).trans m3)))
end Go.Proofs.Ythmoiffkgcnjmaa.Gf
