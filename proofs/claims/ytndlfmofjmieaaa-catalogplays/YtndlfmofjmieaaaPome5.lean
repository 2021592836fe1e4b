/- TEXTS JOINED: ReCA, ReInt, ReSay, ReRefQ, ReRefA, ReRefH. -/
import Derived.Test.YtndlfmofjmieaaaPome4
import Derived.Test.YtndlfmofjmieaaaPome2
namespace Go.Proofs.Ytndlfmofjmieaaa.Gf
set_option linter.unusedVariables false
set_option linter.unusedSimpArgs false
open Go.RowKit
def OkN (n : Int) : Prop := 0 ≤ n ∧ n ≤ 2147483647
instance (n : Int) : Decidable (OkN n) := inferInstanceAs (Decidable (_ ∧ _))
def OkT16 (st : List Int) : Prop := st.length ≤ 256 ∧ ∀ s ∈ st, 0 ≤ s ∧ s < 256
instance (st : List Int) : Decidable (OkT16 st) := inferInstanceAs (Decidable (_ ∧ _))
set_option maxRecDepth 100000 in
theorem may16_any {n : Int} {w : World} {x : Bool} (hx : decide (OkN n) = x) : Calls Try.prog 62 #[.int .i64 n] w fun e w' => e = .returned (.bool x) ∧ w' = w := by
  by_cases h0 : 0 ≤ n
  · by_cases h1 : n ≤ 2147483647
    · obtain rfl : x = true := hx.symm.trans (decide_eq_true ⟨h0, h1⟩)
      clear hx
      have h0' : n ≥ 0 := h0
      go_enter Try.func62, Try.ntmps62
      go_wp2
      go_ret
      exact ⟨rfl, rfl⟩
    · obtain rfl : x = false := hx.symm.trans (decide_eq_false fun q => h1 q.2)
      clear hx
      have h0' : n ≥ 0 := h0
      go_enter Try.func62, Try.ntmps62
      go_wp2
      go_ret
      exact ⟨rfl, rfl⟩
  · obtain rfl : x = false := hx.symm.trans (decide_eq_false fun q => h0 q.1)
    clear hx
    have h0' : ¬ n ≥ 0 := h0
    go_enter Try.func62, Try.ntmps62
    go_wp2
    go_ret
    exact ⟨rfl, rfl⟩
set_option maxRecDepth 100000 in
set_option maxHeartbeats 1000000 in
theorem are16_any {st : List Int} {v : Value} {w : World} (h : RdI w v st) {x : Bool} (hx : decide (OkT16 st) = x) : Calls Try.prog 63 #[v] w fun e w' => e = .returned (.bool x) ∧ w' = w := by
  obtain ⟨a, cp, rfl⟩ := h.form
  have HX : Hid (decide (OkT16 st) = x) := hx
  clear hx
  by_cases h6 : (st.length : Int) > 256
  · obtain rfl : x = false := HX.out.symm.trans (decide_eq_false fun q => by have := q.1; omega)
    clear HX h
    go_enter Try.func63, Try.ntmps63
    go_wp2
    go_ret
    exact ⟨rfl, rfl⟩
  go_enter Try.func63, Try.ntmps63
  go_wp2
  go_loopw [10] (fun i wr => ∃ r : Nat, r ≤ st.length ∧ i = .int .i64 (r : Int) ∧ wr = w ∧ Hid (∀ j, j < r → 0 ≤ st.getD j 0 ∧ st.getD j 0 < 256)) (fun i _ => st.length - (intOf i).toNat)
  case atStart => exact ⟨0, Nat.zero_le _, rfl, rfl, fun j hj => absurd hj (Nat.not_lt_zero _)⟩
  case round =>
    obtain ⟨r, hr, rfl, rfl, hall⟩ := hrel
    by_cases hlt : r < st.length
    · have hlt' : (r : Int) < (st.length : Int) := by omega
      have hrl : (r : Int) ≤ (st.length : Int) := by omega
      obtain ⟨b, off, e, cz⟩ := h.at16 hlt
      subst e
      have N1 : Hid (st.getD r 0 < 0 ∨ st.getD r 0 ≥ 256 → decide (OkT16 st) = false) := fun q => decide_eq_false fun k => by
        have e : st.getD r 0 = st[r] := by rw [List.getD_eq_getElem?_getD, List.getElem?_eq_getElem hlt]; rfl
        have := k.2 st[r] (List.getElem_mem hlt)
        omega
      have hall2 : Hid (0 ≤ st.getD r 0 → st.getD r 0 < 256 → ∀ j, j < r + 1 → 0 ≤ st.getD j 0 ∧ st.getD j 0 < 256) := fun h0 h1 j hj => by
        by_cases e : j = r
        · rw [e]; exact ⟨h0, h1⟩
        · exact hall.out j (by omega)
      generalize st.getD r 0 = z at cz N1 hall2
      by_cases z0 : z < 0
      · obtain rfl : x = false := HX.out.symm.trans (N1.out (Or.inl z0))
        clear N1 hall2 hall HX
        go_wp2
        go_ret
        exact ⟨rfl, rfl⟩
      by_cases z1 : z ≥ 256
      · obtain rfl : x = false := HX.out.symm.trans (N1.out (Or.inr z1))
        clear N1 hall2 hall HX
        go_wp2
        go_ret
        exact ⟨rfl, rfl⟩
      · have H3 : Hid _ := hall2.out (by omega) (by omega)
        clear N1 hall2 hall
        go_wp2
        go_roundw
        case rel => exact ⟨r + 1, by omega, by go_num, by first | rfl | trivial, H3.out⟩
        case measure => simp [intOf]; omega
    · obtain rfl : r = st.length := by omega
      have hge : ¬ (st.length : Int) < (st.length : Int) := by omega
      obtain rfl : x = true := HX.out.symm.trans (decide_eq_true ⟨by omega, ch_all hall.out⟩)
      clear hall hlt HX
      go_wp2
      go_ret
      exact ⟨rfl, rfl⟩
theorem chR_parts {kd ln : Int} {ky : List UInt8} {st : List Int} (h1 : 1 ≤ ky.length) (h2 : ky.length ≤ 64) (h3 : OkN ln) (h4 : OkT16 st) : chR ⟨kd, ky, ln, st⟩ = if kd = 1 ∨ kd = 2 ∧ ln = 0 ∧ st.length = 0 then 0 else 1 := by
  unfold chR
  by_cases q : kd = 1 ∨ kd = 2 ∧ ln = 0 ∧ st.length = 0
  · rw [if_pos q, if_pos]
    refine ⟨by simp only; omega, h1, h2, h3.1, h3.2, h4.1, h4.2, fun e => ?_⟩
    simp only at e
    simp only
    omega
  · rw [if_neg q, if_neg]
    rintro ⟨k1, -, -, -, -, -, -, k8⟩
    simp only at k1 k8
    apply q
    rcases k1 with k1 | k1
    · exact Or.inl k1
    · exact Or.inr ⟨k1, k8 k1⟩
set_option maxRecDepth 100000 in
set_option maxHeartbeats 2000000 in
theorem chk16_any {w : World} {c : RcV} (h : c.In w) {x : Int} (hx : chR c.r = x) : Calls Try.prog 50 #[aggR c] w fun e w' => e = .returned (.int .i64 x) ∧ Below w.heap.size w w' := by
  obtain ⟨⟨kd, ky, ln, st⟩, vs⟩ := c
  have HR := h.rs
  obtain ⟨a, cp, e⟩ := HR.form
  simp only at e HR hx
  subst e
  clear h
  have HX : Hid (chR ⟨kd, ky, ln, st⟩ = x) := hx
  clear hx
  show Calls Try.prog 50 #[.agg #[.int .i64 kd, .string ⟨ky.toArray⟩, .int .i64 ln, .slice a st.length cp]] w _
  obtain ⟨w1, hw1⟩ : ∃ w1, w1 = w.alloc (.cells #[.int .i64 kd, .string ⟨ky.toArray⟩, .int .i64 ln, .slice a st.length cp] 39) := ⟨_, rfl⟩
  have B1 : Below w.heap.size w w1 := by rw [hw1]; exact belR _ _
  have c0 : w1.cell? ⟨w.heap.size, 0, none⟩ = some (.int .i64 kd) := by rw [hw1, World.cell?_alloc_new]; rfl
  have c1 : w1.cell? ⟨w.heap.size, 1, none⟩ = some (.string ⟨ky.toArray⟩) := by rw [hw1, World.cell?_alloc_new]; rfl
  have c2 : w1.cell? ⟨w.heap.size, 2, none⟩ = some (.int .i64 ln) := by rw [hw1, World.cell?_alloc_new]; rfl
  have c3 : w1.cell? ⟨w.heap.size, 3, none⟩ = some (.slice a st.length cp) := by rw [hw1, World.cell?_alloc_new]; rfl
  have HR1 := HR.below B1
  clear HR
  by_cases h1 : (ky.length : Int) ≥ 1
  rotate_left
  · obtain rfl : x = 1 := HX.out.symm.trans (if_neg fun q => by have := q.2.1; simp only at this; omega)
    clear HX HR1
    go_enter Try.func50, Try.ntmps50
    go_wp2_with fail
    rw [← hw1]
    clear hw1
    go_ret
    exact ⟨rfl, B1⟩
  by_cases h2 : (ky.length : Int) ≤ 64
  rotate_left
  · obtain rfl : x = 1 := HX.out.symm.trans (if_neg fun q => by have := q.2.2.1; simp only at this; omega)
    clear HX HR1
    go_enter Try.func50, Try.ntmps50
    go_wp2_with fail
    rw [← hw1]
    clear hw1
    go_ret
    exact ⟨rfl, B1⟩
  by_cases h3 : OkN ln
  rotate_left
  · obtain rfl : x = 1 := HX.out.symm.trans (if_neg fun q => h3 ⟨q.2.2.2.1, q.2.2.2.2.1⟩)
    clear HX HR1
    go_enter Try.func50, Try.ntmps50
    go_wp2_with fail
    rw [← hw1]
    clear hw1
    refine (may16_any (decide_eq_false h3)).mono ?_
    rintro _ _ ⟨rfl, rfl⟩
    go_wp2
    go_ret
    exact ⟨rfl, B1⟩
  by_cases h4 : OkT16 st
  rotate_left
  · obtain rfl : x = 1 := HX.out.symm.trans (if_neg fun q => h4 ⟨q.2.2.2.2.2.1, q.2.2.2.2.2.2.1⟩)
    clear HX
    have K4 := are16_any HR1 (decide_eq_false h4)
    go_enter Try.func50, Try.ntmps50
    go_wp2_with fail
    rw [← hw1]
    clear hw1
    refine (may16_any (decide_eq_true h3)).mono ?_
    rintro _ _ ⟨rfl, rfl⟩
    go_wp2_with fail
    refine K4.mono ?_
    rintro _ _ ⟨rfl, rfl⟩
    clear K4
    go_wp2
    go_ret
    exact ⟨rfl, B1⟩
  have HY : Hid _ := (chR_parts (kd := kd) (by omega) (by omega) h3 h4).symm.trans HX.out
  have K4 := are16_any HR1 (decide_eq_true h4)
  clear HX HR1
  go_enter Try.func50, Try.ntmps50
  go_wp2_with fail
  rw [← hw1]
  clear hw1
  refine (may16_any (decide_eq_true h3)).mono ?_
  rintro _ _ ⟨rfl, rfl⟩
  go_wp2_with fail
  refine K4.mono ?_
  rintro _ _ ⟨rfl, rfl⟩
  clear K4 h3 h4 h1 h2
  by_cases k1 : kd = 1
  · obtain rfl : x = 0 := HY.out.symm.trans (if_pos (Or.inl k1))
    clear HY
    subst k1
    go_wp2
    go_ret
    exact ⟨rfl, B1⟩
  by_cases k2 : kd = 2
  rotate_left
  · obtain rfl : x = 1 := HY.out.symm.trans (if_neg (by omega))
    clear HY
    go_wp2
    go_ret
    exact ⟨rfl, B1⟩
  by_cases k3 : ln = 0
  rotate_left
  · obtain rfl : x = 1 := HY.out.symm.trans (if_neg (by omega))
    clear HY
    subst k2
    go_wp2
    go_ret
    exact ⟨rfl, B1⟩
  by_cases k4 : (st.length : Int) = 0
  · obtain rfl : x = 0 := HY.out.symm.trans (if_pos (by omega))
    clear HY
    subst k2 k3
    go_wp2
    go_ret
    exact ⟨rfl, B1⟩
  · obtain rfl : x = 1 := HY.out.symm.trans (if_neg (by omega))
    clear HY
    subst k2 k3
    go_wp2
    go_ret
    exact ⟨rfl, B1⟩
end Go.Proofs.Ytndlfmofjmieaaa.Gf

namespace Go.Proofs.Ytndlfmofjmieaaa.Gf
set_option linter.unusedVariables false
set_option linter.unusedSimpArgs false
open Go.RowKit
def vz (z : Int) : Value := .int .i64 z
def OwnZ (w : World) (base e : Nat) (v : Value) (zs : List Int) : Prop := w.ownsRow base e 1 v zs.length (zs.map vz)
theorem OwnZ.cell {w : World} {base e : Nat} {a : Option Addr} {n c : Nat} {zs : List Int} (h : OwnZ w base e (.slice a n c) zs) {i : Nat} (hi : i < zs.length) : ∃ g, a = some ⟨g, 0, none⟩ ∧ g < w.heap.size ∧ base ≤ g ∧ w.cell? ⟨g, i, none⟩ = some (.int .i64 (zs.getD i 0)) := by
  have h' := h
  obtain ⟨_, ⟨e, hn⟩ | ⟨g, cap, cur, e, hg, hh, hc, hm, hs, ht⟩⟩ := h
  · omega
  · simp at e
    obtain ⟨rfl, rfl, rfl⟩ := e
    have hlt := World.ownsRow.lt h' g rfl
    refine ⟨g, rfl, hlt.2, hlt.1, ?_⟩
    rw [World.ownsRow.cellAt h' i (by omega), List.getElem?_map, List.getElem?_eq_getElem hi]
    simp [vz, List.getD, hi]
theorem OwnZ.rd {w : World} {base e : Nat} {v : Value} {zs : List Int} (h : OwnZ w base e v zs) (hl : zs.length ≤ 1000000) : RdI w v zs := by
  obtain ⟨a, c, rfl⟩ := owns_form h
  by_cases h0 : zs = []
  · subst h0; exact Or.inl ⟨a, c, rfl, rfl⟩
  · have hpos : 0 < zs.length := List.length_pos_iff.2 h0
    obtain ⟨g, rfl, hg, _, _⟩ := h.cell hpos
    refine Or.inr ⟨g, 0, c, h0, rfl, by unfold maxLen; omega, hg, fun i hi => ?_⟩
    obtain ⟨g', e, _, _, hc⟩ := h.cell hi
    simp at e
    subst e
    rw [Nat.zero_add, hc]
theorem info_int16 : (Try.prog.info? 3).map (fun i => (i.zero, i.size, i.bytes)) = some (some (.int .i64 0), 1, 8) := by kernel_rfl
theorem info_int16' : ∃ i, Try.prog.info? 3 = some i ∧ i.zero = some (.int .i64 0) ∧ i.size = 1 ∧ i.bytes = 8 := by
  have h := info_int16
  cases e : Try.prog.info? 3 with
  | none => rw [e] at h; cases h
  | some i =>
    rw [e] at h
    simp only [Option.map_some, Option.some.injEq, Prod.mk.injEq] at h
    exact ⟨i, rfl, h.1, h.2.1, h.2.2⟩
end Go.Proofs.Ytndlfmofjmieaaa.Gf

namespace Go.Proofs.Ytndlfmofjmieaaa.Gf
set_option linter.unusedVariables false
set_option linter.unusedSimpArgs false
open Go.RowKit
/-- a bool that says so -/
def Says16 (p : Prop) (w : World) (e : Ending) (w' : World) : Prop := ∃ x : Bool, e = .returned (.bool x) ∧ (x = true ↔ p) ∧ Below w.heap.size w w'
theorem Says16.yes {p : Prop} (h : p) {w w' : World} {x : Bool} (e : x = true) (b : Below w.heap.size w w') : Says16 p w (.returned (.bool x)) w' := ⟨x, rfl, ⟨fun _ => h, fun _ => e⟩, b⟩
theorem Says16.no {p : Prop} (h : ¬ p) {w w' : World} {x : Bool} (e : x = false) (b : Below w.heap.size w w') : Says16 p w (.returned (.bool x)) w' := ⟨x, rfl, ⟨fun q => (by rw [e] at q; cases q), fun q => absurd q h⟩, b⟩
end Go.Proofs.Ytndlfmofjmieaaa.Gf

namespace Go.Proofs.Ytndlfmofjmieaaa.Gf
set_option linter.unusedVariables false
set_option linter.unusedSimpArgs false
open Go.RowKit
set_option maxRecDepth 100000 in
theorem rput_any {c : ObV} {w : World} (h : RdI w c.vs c.o.st) : Calls Try.prog 42 #[aggO c] w fun e w' => e = .returned (aggR ⟨putR c.o, c.vs⟩) ∧ Below w.heap.size w w' := by
  obtain ⟨⟨ky, ln, ep, st⟩, vs⟩ := c
  obtain ⟨a, n, e⟩ := h.form
  simp only at e
  subst e
  clear h
  show Calls Try.prog 42 #[.agg #[.string ⟨ky.toArray⟩, .int .i64 ln, .int .i64 ep, .slice a st.length n]] w _
  go_enter Try.func42, Try.ntmps42
  go_wp2
  obtain ⟨W, hW⟩ : ∃ W, W = (w.alloc (.cells #[.string ⟨ky.toArray⟩, .int .i64 ln, .int .i64 ep, .slice a st.length n] 52)).alloc (.cells #[.int .i64 1, .string ⟨ky.toArray⟩, .int .i64 ln, .slice a st.length n] 39) := ⟨_, rfl⟩
  have z : ∀ j, W.cell? ⟨w.heap.size + 1, j, none⟩ = #[Value.int .i64 1, .string ⟨ky.toArray⟩, .int .i64 ln, .slice a st.length n][j]? := fun j => by
    rw [hW, show w.heap.size + 1 = (w.alloc (.cells #[.string ⟨ky.toArray⟩, .int .i64 ln, .int .i64 ep, .slice a st.length n] 52)).heap.size by simp, World.cell?_alloc_new]
  have b : Below w.heap.size w W := by rw [hW]; exact (belR _ _).trans ((belR _ _).mono (by simp))
  have z0 := z 0
  have z1 := z 1
  have z2 := z 2
  have z3 := z 3
  simp at z0 z1 z2 z3
  rw [← hW]
  exact bodyPost_ret (v := .agg #[.int .i64 1, .string ⟨ky.toArray⟩, .int .i64 ln, .slice a st.length n]) (by simp [results, Try.results42, go_sem, z0, z1, z2, z3]) rfl ⟨rfl, b⟩
end Go.Proofs.Ytndlfmofjmieaaa.Gf

namespace Go.Proofs.Ytndlfmofjmieaaa.Gf
set_option linter.unusedVariables false
set_option linter.unusedSimpArgs false
open Go.RowKit
theorem ch_bad {p : Prop} (h : p := by
  go_enter Try.func54, Try.ntmps54
  go_wp2
  go_ret
  exact ⟨rfl, FB _⟩) : p := h
theorem ch_loop1 {p : Prop} (h : p := by
  obtain ⟨w1, hw1⟩ : ∃ w1, w1 = w.alloc (.cells #[.int .i64 1, .string ⟨ky.toArray⟩, .int .i64 ln, .slice a st.length cp] 39) := ⟨_, rfl⟩
  have B1 : Below w.heap.size w w1 := by rw [hw1]; exact FB _
  have c0 : w1.cell? ⟨w.heap.size, 0, none⟩ = some (.int .i64 1) := by rw [hw1, World.cell?_alloc_new]; rfl
  have c2 : w1.cell? ⟨w.heap.size, 2, none⟩ = some (.int .i64 ln) := by rw [hw1, World.cell?_alloc_new]; rfl
  have c3 : w1.cell? ⟨w.heap.size, 3, none⟩ = some (.slice a st.length cp) := by rw [hw1, World.cell?_alloc_new]; rfl
  have HR1 := HR.below B1
  go_enter Try.func54, Try.ntmps54
  go_wp2
  rw [← hw1]
  clear hw1 HR FB
  go_loopw [3] (fun i wr => ∃ r : Nat, r ≤ st.length ∧ i = .int .i64 (r : Int) ∧ wr = w1 ∧ Hid (∀ j, j < r → 0 ≤ st.getD j 0 ∧ st.getD j 0 < 256)) (fun i _ => st.length - (intOf i).toNat)
  case atStart => exact ⟨0, Nat.zero_le _, rfl, rfl, fun j hj => absurd hj (Nat.not_lt_zero _)⟩
  case round =>
    obtain ⟨r, hr, rfl, rfl, hall⟩ := hrel
    by_cases hlt : r < st.length
    · have hlt' : (r : Int) < (st.length : Int) := by omega
      have hrl : (r : Int) ≤ (st.length : Int) := by omega
      obtain ⟨b, off, e, cz⟩ := HR1.at16 hlt
      subst e
      have N1 := fun q => @ch_not 1 ln ky st r hlt q
      have hall2 : Hid (0 ≤ st.getD r 0 → st.getD r 0 < 256 → ∀ j, j < r + 1 → 0 ≤ st.getD j 0 ∧ st.getD j 0 < 256) := fun h0 h1 j hj => by
        by_cases e : j = r
        · rw [e]; exact ⟨h0, h1⟩
        · exact hall.out j (by omega)
      generalize st.getD r 0 = z at cz N1 hall2
      by_cases z0 : z < 0
      · obtain rfl : x = 1 := HX.out.symm.trans (N1 (Or.inl z0))
        clear N1 hall2 hall
        go_wp2
        go_ret
        exact ⟨rfl, B1⟩
      by_cases z1 : z ≥ 256
      · obtain rfl : x = 1 := HX.out.symm.trans (N1 (Or.inr z1))
        clear N1 hall2 hall
        go_wp2
        go_ret
        exact ⟨rfl, B1⟩
      · have H3 : Hid _ := hall2.out (by omega) (by omega)
        clear N1 hall2 hall
        go_wp2
        go_roundw
        case rel => exact ⟨r + 1, by omega, by go_num, by first | rfl | trivial, H3.out⟩
        case measure => simp [intOf]; omega
    · obtain rfl : r = st.length := by omega
      have hge : ¬ (st.length : Int) < (st.length : Int) := by omega
      have HA : Hid _ := ch_all hall.out
      clear hall hlt
      obtain rfl : x = 0 := HX.out.symm.trans (if_pos ⟨Or.inl rfl, by simp only; omega, by simp only; omega, by simp only; omega, by simp only; omega, by simp only; omega, HA.out, fun e => by simp at e⟩)
      go_wp2
      go_ret
      exact ⟨rfl, B1⟩) : p := h
theorem ch_loop2 {p : Prop} (h : p := by
  obtain ⟨w1, hw1⟩ : ∃ w1, w1 = w.alloc (.cells #[.int .i64 2, .string ⟨ky.toArray⟩, .int .i64 ln, .slice a st.length cp] 39) := ⟨_, rfl⟩
  have B1 : Below w.heap.size w w1 := by rw [hw1]; exact FB _
  have c0 : w1.cell? ⟨w.heap.size, 0, none⟩ = some (.int .i64 2) := by rw [hw1, World.cell?_alloc_new]; rfl
  have c2 : w1.cell? ⟨w.heap.size, 2, none⟩ = some (.int .i64 ln) := by rw [hw1, World.cell?_alloc_new]; rfl
  have c3 : w1.cell? ⟨w.heap.size, 3, none⟩ = some (.slice a st.length cp) := by rw [hw1, World.cell?_alloc_new]; rfl
  have HR1 := HR.below B1
  go_enter Try.func54, Try.ntmps54
  go_wp2
  rw [← hw1]
  clear hw1 HR FB
  go_loopw [3] (fun i wr => ∃ r : Nat, r ≤ st.length ∧ i = .int .i64 (r : Int) ∧ wr = w1 ∧ Hid (∀ j, j < r → 0 ≤ st.getD j 0 ∧ st.getD j 0 < 256)) (fun i _ => st.length - (intOf i).toNat)
  case atStart => exact ⟨0, Nat.zero_le _, rfl, rfl, fun j hj => absurd hj (Nat.not_lt_zero _)⟩
  case round =>
    obtain ⟨r, hr, rfl, rfl, hall⟩ := hrel
    by_cases hlt : r < st.length
    · have hlt' : (r : Int) < (st.length : Int) := by omega
      have hrl : (r : Int) ≤ (st.length : Int) := by omega
      obtain ⟨b, off, e, cz⟩ := HR1.at16 hlt
      subst e
      have N1 := fun q => @ch_not 2 ln ky st r hlt q
      have hall2 : Hid (0 ≤ st.getD r 0 → st.getD r 0 < 256 → ∀ j, j < r + 1 → 0 ≤ st.getD j 0 ∧ st.getD j 0 < 256) := fun h0 h1 j hj => by
        by_cases e : j = r
        · rw [e]; exact ⟨h0, h1⟩
        · exact hall.out j (by omega)
      generalize st.getD r 0 = z at cz N1 hall2
      by_cases z0 : z < 0
      · obtain rfl : x = 1 := HX.out.symm.trans (N1 (Or.inl z0))
        clear N1 hall2 hall
        go_wp2
        go_ret
        exact ⟨rfl, B1⟩
      by_cases z1 : z ≥ 256
      · obtain rfl : x = 1 := HX.out.symm.trans (N1 (Or.inr z1))
        clear N1 hall2 hall
        go_wp2
        go_ret
        exact ⟨rfl, B1⟩
      · have H3 : Hid _ := hall2.out (by omega) (by omega)
        clear N1 hall2 hall
        go_wp2
        go_roundw
        case rel => exact ⟨r + 1, by omega, by go_num, by first | rfl | trivial, H3.out⟩
        case measure => simp [intOf]; omega
    · obtain rfl : r = st.length := by omega
      have hge : ¬ (st.length : Int) < (st.length : Int) := by omega
      have HA : Hid _ := ch_all hall.out
      clear hall hlt
      by_cases l0 : ln = 0
      rotate_left
      · obtain rfl : x = 1 := HX.out.symm.trans (if_neg fun q => l0 (q.2.2.2.2.2.2.2 rfl).1)
        go_wp2
        go_ret
        exact ⟨rfl, B1⟩
      by_cases s0 : st.length = 0
      rotate_left
      · obtain rfl : x = 1 := HX.out.symm.trans (if_neg fun q => s0 (q.2.2.2.2.2.2.2 rfl).2)
        have s1 : (st.length : Int) > 0 := by omega
        go_wp2
        go_ret
        exact ⟨rfl, B1⟩
      · obtain rfl : x = 0 := HX.out.symm.trans (if_pos ⟨Or.inr rfl, by simp only; omega, by simp only; omega, by simp only; omega, by simp only; omega, by simp only; omega, HA.out, fun _ => ⟨l0, s0⟩⟩)
        have s1 : ¬ (st.length : Int) > 0 := by omega
        go_wp2
        go_ret
        exact ⟨rfl, B1⟩) : p := h
set_option maxRecDepth 100000 in
set_option maxHeartbeats 4000000 in
theorem rchk16_any {w : World} {c : RcV} (h : c.In w) {x : Int} (hx : chR c.r = x) : Calls Try.prog 54 #[aggR c] w fun e w' => e = .returned (.int .i64 x) ∧ Below w.heap.size w w' := by
  obtain ⟨⟨kd, ky, ln, st⟩, vs⟩ := c
  have HR := h.rs
  obtain ⟨a, cp, e⟩ := HR.form
  simp only at e HR hx
  subst e
  have FB := fun o => belR w o
  clear h
  show Calls Try.prog 54 #[.agg #[.int .i64 kd, .string ⟨ky.toArray⟩, .int .i64 ln, .slice a st.length cp]] w _
  by_cases h1 : kd = 1 ∨ kd = 2
  rotate_left
  · rw [show chR ⟨kd, ky, ln, st⟩ = 1 from if_neg (fun q => h1 q.1)] at hx
    subst hx
    have q1 : ¬ kd = 1 := fun e => h1 (Or.inl e)
    have q2 : ¬ kd = 2 := fun e => h1 (Or.inr e)
    clear h1
    exact ch_bad
  by_cases h2 : (ky.length : Int) < 1
  · rw [show chR ⟨kd, ky, ln, st⟩ = 1 from if_neg (fun q => by have := q.2.1; simp only at this; omega)] at hx
    subst hx
    rcases h1 with h1 | h1 <;> subst h1 <;> exact ch_bad
  by_cases h3 : (ky.length : Int) > 64
  · rw [show chR ⟨kd, ky, ln, st⟩ = 1 from if_neg (fun q => by have := q.2.2.1; simp only at this; omega)] at hx
    subst hx
    rcases h1 with h1 | h1 <;> subst h1 <;> exact ch_bad
  by_cases h4 : ln < 0
  · rw [show chR ⟨kd, ky, ln, st⟩ = 1 from if_neg (fun q => by have := q.2.2.2.1; simp only at this; omega)] at hx
    subst hx
    rcases h1 with h1 | h1 <;> subst h1 <;> exact ch_bad
  by_cases h5 : ln > 2147483647
  · rw [show chR ⟨kd, ky, ln, st⟩ = 1 from if_neg (fun q => by have := q.2.2.2.2.1; simp only at this; omega)] at hx
    subst hx
    rcases h1 with h1 | h1 <;> subst h1 <;> exact ch_bad
  by_cases h6 : (st.length : Int) > 256
  · rw [show chR ⟨kd, ky, ln, st⟩ = 1 from if_neg (fun q => by have := q.2.2.2.2.2.1; simp only at this; omega)] at hx
    subst hx
    rcases h1 with h1 | h1 <;> subst h1 <;> exact ch_bad
  have HX : Hid (chR ⟨kd, ky, ln, st⟩ = x) := hx
  clear hx
  rcases h1 with h1 | h1 <;> subst h1
  · exact ch_loop1
  · exact ch_loop2
end Go.Proofs.Ytndlfmofjmieaaa.Gf

namespace Go.Proofs.Ytndlfmofjmieaaa.Gf
set_option linter.unusedVariables false
set_option linter.unusedSimpArgs false
open Go.RowKit
/-- two records are one -/
def sameR (a b : RcS) : Bool := decide (a.st = b.st) && (a.kind == b.kind) && (a.key == b.key) && (a.len == b.len)
theorem sameR_iff {a b : RcS} : sameR a b = true ↔ a = b := by
  obtain ⟨k, y, n, s⟩ := a
  obtain ⟨k', y', n', s'⟩ := b
  unfold sameR
  simp only [Bool.and_eq_true, decide_eq_true_iff, beq_iff_eq, RcS.mk.injEq]
  constructor
  · rintro ⟨⟨⟨h1, h2⟩, h3⟩, h4⟩; exact ⟨h2, h3, h4, h1⟩
  · rintro ⟨h2, h3, h4, h1⟩; exact ⟨⟨⟨h1, h2⟩, h3⟩, h4⟩
set_option maxRecDepth 100000 in
set_option maxHeartbeats 2000000 in
theorem same16_any {w : World} {c d : RcV} (h : c.In w) (k : d.In w) (hl : c.r.st.length ≤ 1000000) (hl2 : d.r.st.length ≤ 1000000) {x : Bool} (hx : sameR c.r d.r = x) : Calls Try.prog 41 #[aggR c, aggR d] w fun e w' => e = .returned (.bool x) ∧ Below w.heap.size w w' := by
  obtain ⟨⟨kd, ky, ln, st⟩, vs⟩ := c
  obtain ⟨⟨kd', ky', ln', st'⟩, vs'⟩ := d
  have HR := h.rs
  obtain ⟨a, cp, e⟩ := HR.form
  have KR := k.rs
  obtain ⟨a', cp', e'⟩ := KR.form
  simp only at e e' hl hl2 hx
  have HX : Hid (sameR ⟨kd, ky, ln, st⟩ ⟨kd', ky', ln', st'⟩ = x) := hx
  clear hx
  subst e e'
  clear h k
  show Calls Try.prog 41 #[.agg #[.int .i64 kd, .string ⟨ky.toArray⟩, .int .i64 ln, .slice a st.length cp], .agg #[.int .i64 kd', .string ⟨ky'.toArray⟩, .int .i64 ln', .slice a' st'.length cp']] w _
  obtain ⟨w1, hw1⟩ : ∃ w1, w1 = (w.alloc (.cells #[.int .i64 kd, .string ⟨ky.toArray⟩, .int .i64 ln, .slice a st.length cp] 39)).alloc (.cells #[.int .i64 kd', .string ⟨ky'.toArray⟩, .int .i64 ln', .slice a' st'.length cp'] 39) := ⟨_, rfl⟩
  have B1 : Below w.heap.size w w1 := by rw [hw1]; exact (belR _ _).trans ((belR _ _).mono (by simp))
  have s1 : w.heap.size + 2 = w1.heap.size := by rw [hw1]; simp
  have K := rints_any (HR.below B1) (KR.below B1) hl hl2
  have c0 : ∀ W, Below w1.heap.size w1 W → (W.cell? ⟨w.heap.size, 0, none⟩ = some (.int .i64 kd) ∧ W.cell? ⟨w.heap.size, 1, none⟩ = some (.string ⟨ky.toArray⟩) ∧ W.cell? ⟨w.heap.size, 2, none⟩ = some (.int .i64 ln)) ∧ W.cell? ⟨w.heap.size + 1, 0, none⟩ = some (.int .i64 kd') ∧ W.cell? ⟨w.heap.size + 1, 1, none⟩ = some (.string ⟨ky'.toArray⟩) ∧ W.cell? ⟨w.heap.size + 1, 2, none⟩ = some (.int .i64 ln') := by
    have g : ∀ j, w1.cell? ⟨w.heap.size, j, none⟩ = #[Value.int .i64 kd, .string ⟨ky.toArray⟩, .int .i64 ln, .slice a st.length cp][j]? := fun j => by
      rw [hw1, World.cell?_alloc_lt _ _ _ (by simp), World.cell?_alloc_new]
    have g' : ∀ j, w1.cell? ⟨w.heap.size + 1, j, none⟩ = #[Value.int .i64 kd', .string ⟨ky'.toArray⟩, .int .i64 ln', .slice a' st'.length cp'][j]? := fun j => by
      rw [hw1, show w.heap.size + 1 = (w.alloc (.cells #[.int .i64 kd, .string ⟨ky.toArray⟩, .int .i64 ln, .slice a st.length cp] 39)).heap.size by simp, World.cell?_alloc_new]
    exact fun W b => ⟨⟨(b.cell (p := ⟨w.heap.size, 0, none⟩) (by show w.heap.size < _; omega)).trans (g 0), (b.cell (p := ⟨w.heap.size, 1, none⟩) (by show w.heap.size < _; omega)).trans (g 1), (b.cell (p := ⟨w.heap.size, 2, none⟩) (by show w.heap.size < _; omega)).trans (g 2)⟩, (b.cell (p := ⟨w.heap.size + 1, 0, none⟩) (by show w.heap.size + 1 < _; omega)).trans (g' 0), (b.cell (p := ⟨w.heap.size + 1, 1, none⟩) (by show w.heap.size + 1 < _; omega)).trans (g' 1), (b.cell (p := ⟨w.heap.size + 1, 2, none⟩) (by show w.heap.size + 1 < _; omega)).trans (g' 2)⟩
  have KP : Hid _ := c0
  clear HR KR c0
  go_enter Try.func41, Try.ntmps41
  go_wp2_with fail
  rw [← hw1]
  clear hw1
  refine K.mono ?_
  rintro _ w2 ⟨rfl, B2⟩
  obtain ⟨⟨x0, x1, x2⟩, y0, y1, y2⟩ := KP.out w2 B2
  have BF := B1.trans (B2.mono (by omega))
  clear K KP
  by_cases h1 : st = st'
  · by_cases h2 : kd = kd'
    · by_cases h3 : ky = ky'
      · by_cases h4 : ln = ln'
        · obtain rfl : x = true := HX.out.symm.trans (sameR_iff.2 (by rw [h1, h2, h3, h4]))
          clear HX
          subst h1 h2 h3 h4
          go_wp2
          go_ret
          exact ⟨by rfl, BF⟩
        · obtain rfl : x = false := HX.out.symm.trans (by simp [sameR, h4])
          clear HX
          subst h1 h2 h3
          have h4' : (ln == ln') = false := beq_eq_false_iff_ne.2 h4
          go_wp2
          go_ret
          exact ⟨by first | rfl | (rw [h4']; rfl), BF⟩
      · obtain rfl : x = false := HX.out.symm.trans (by simp [sameR, h3])
        clear HX
        subst h1 h2
        have h3' : ¬ ky.toArray.toList = ky'.toArray.toList := by simpa using h3
        go_wp2
        go_ret
        exact ⟨by rfl, BF⟩
    · obtain rfl : x = false := HX.out.symm.trans (by simp [sameR, h2])
      clear HX
      subst h1
      go_wp2
      go_ret
      exact ⟨by rfl, BF⟩
  · obtain rfl : x = false := HX.out.symm.trans (by simp [sameR, h1])
    clear HX
    have h1' : decide (st = st') = false := decide_eq_false h1
    rw [h1']
    go_wp2
    go_ret
    exact ⟨by rfl, BF⟩
end Go.Proofs.Ytndlfmofjmieaaa.Gf
