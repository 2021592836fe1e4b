/- TEXTS JOINED: WdInts, ReRefH. -/
import Derived.Test.YthmoiffkgcnjmaaTome5
namespace Go.Proofs.Ythmoiffkgcnjmaa.Gf
set_option linter.unusedVariables false
set_option linter.unusedSimpArgs false
open Go.RowKit
theorem ints_ext {xs ys : List Int} (hl : xs.length = ys.length) (h : ∀ i, i < xs.length → xs.getD i 0 = ys.getD i 0) : xs = ys := by
  refine List.ext_getElem hl fun i h1 h2 => ?_
  have := h i h1
  simpa [List.getD, h1, h2] using this
set_option maxRecDepth 100000 in
set_option maxHeartbeats 1000000 in
theorem rints_any {va vb : Value} {xs ys : List Int} {w : World} (ha : RdI w va xs) (hb : RdI w vb ys) (hl : xs.length ≤ 1000000) (hl2 : ys.length ≤ 1000000) :
    Calls Try.prog 33 #[va, vb] w fun e w' => e = .returned (.bool (decide (xs = ys))) ∧ Below w.heap.size w w' := by
  obtain ⟨a1, c1, rfl⟩ := ha.form
  obtain ⟨a2, c2, rfl⟩ := hb.form
  by_cases hlen : xs.length = ys.length
  · have hn : (((xs.length : Nat) : Int) != ((ys.length : Nat) : Int)) = false := by simp [hlen]
    have hlen' : Hid _ := hlen
    clear hlen
    go_enter Try.func33, Try.ntmps33
    go_wp2
    go_loopw [5] (fun i wr => ∃ k : Nat, k ≤ xs.length ∧ i = .int .i64 k ∧ Hid (∀ j, j < k → xs.getD j 0 = ys.getD j 0) ∧ Below w.heap.size w wr) (fun i _ => xs.length - (intOf i).toNat)
    case atStart => exact ⟨0, by omega, rfl, fun j hj => by omega, Below.refl _ _⟩
    case round =>
      obtain ⟨k, hk, rfl, hs, hB⟩ := hrel
      by_cases hlt : k < xs.length
      · obtain ⟨b1, o1, rfl, _, k1⟩ := (ha.below hB).at hlt
        obtain ⟨b2, o2, rfl, _, k2⟩ := (hb.below hB).at (show k < ys.length by have := hlen'.out; omega)
        have hlt1 : (k : Int) < (xs.length : Int) := by omega
        have hlt2 : (k : Int) < (ys.length : Int) := by have := hlen'.out; omega
        by_cases e : xs.getD k 0 = ys.getD k 0
        · have HS : Hid (∀ j, j < k + 1 → xs.getD j 0 = ys.getD j 0) := fun j hj => by
            by_cases e2 : j = k
            · rw [e2]; exact e
            · exact hs.out j (by omega)
          rw [e] at k1
          generalize ys.getD k 0 = y at k1 k2
          clear e hs ha hb
          go_wp2_with fail
          try go_quiet (fail)
          try go_wp2
          go_roundw
          case rel => exact ⟨k + 1, by omega, by go_num, HS, by first | exact hB | exact hB.drewN _⟩
          case measure => simp [intOf]; omega
        · have hne : (xs.getD k 0 != ys.getD k 0) = true := bne_iff_ne.2 e
          have E : Hid (decide (xs = ys) = false) := decide_eq_false fun q => e (by rw [q])
          generalize ys.getD k 0 = y at k2 hne
          generalize xs.getD k 0 = x at k1 hne
          clear e hs ha hb
          go_wp2_with fail
          try go_quiet (fail)
          try go_wp2
          go_ret
          exact ⟨by rw [E.out]; rfl, by first | exact hB | exact hB.drewN _⟩
      · have hge : ¬ (k : Int) < (xs.length : Int) := by omega
        have E : Hid (decide (xs = ys) = true) := decide_eq_true (ints_ext hlen'.out fun i hi => hs.out i (by omega))
        clear hs ha hb
        go_wp2
        go_ret
        exact ⟨by rw [E.out]; rfl, hB⟩
  · have hn : (((xs.length : Nat) : Int) != ((ys.length : Nat) : Int)) = true := by simp; omega
    have E : Hid (decide (xs = ys) = false) := decide_eq_false fun q => hlen (by rw [q])
    clear ha hb hlen
    go_enter Try.func33, Try.ntmps33
    go_wp2
    go_ret
    exact ⟨by rw [E.out]; rfl, Below.refl _ _⟩
end Go.Proofs.Ythmoiffkgcnjmaa.Gf

namespace Go.Proofs.Ythmoiffkgcnjmaa.Gf
set_option linter.unusedVariables false
set_option linter.unusedSimpArgs false
open Go.RowKit
set_option maxRecDepth 100000 in
set_option maxHeartbeats 1000000 in
theorem few16_any {w : World} {c : RcV} (h : c.In w) : Calls Try.prog 10 #[aggR c] w fun e w' => e = .returned (.bool (decide (c.r.key.length ≤ 300 ∧ c.r.st.length ≤ 300))) ∧ Below w.heap.size w w' := by
  obtain ⟨⟨kd, ky, ln, st⟩, vs⟩ := c
  have HR := h.rs
  obtain ⟨a, cp, e⟩ := HR.form
  simp only at e
  subst e
  have FB := fun o => belR w o
  clear h HR
  show Calls Try.prog 10 #[.agg #[.int .i64 kd, .string ⟨ky.toArray⟩, .int .i64 ln, .slice a st.length cp]] w _
  by_cases h1 : (ky.length : Int) ≤ 300
  · by_cases h2 : (st.length : Int) ≤ 300
    · rw [show decide ((⟨⟨kd, ky, ln, st⟩, .slice a st.length cp⟩ : RcV).r.key.length ≤ 300 ∧ (⟨⟨kd, ky, ln, st⟩, .slice a st.length cp⟩ : RcV).r.st.length ≤ 300) = true from decide_eq_true ⟨by simp only; omega, by simp only; omega⟩]
      go_enter Try.func10, Try.ntmps10
      go_wp2
      go_ret
      exact ⟨rfl, FB _⟩
    · rw [show decide ((⟨⟨kd, ky, ln, st⟩, .slice a st.length cp⟩ : RcV).r.key.length ≤ 300 ∧ (⟨⟨kd, ky, ln, st⟩, .slice a st.length cp⟩ : RcV).r.st.length ≤ 300) = false from decide_eq_false (fun q => by have := q.2; simp only at this; omega)]
      go_enter Try.func10, Try.ntmps10
      go_wp2
      go_ret
      exact ⟨rfl, FB _⟩
  · rw [show decide ((⟨⟨kd, ky, ln, st⟩, .slice a st.length cp⟩ : RcV).r.key.length ≤ 300 ∧ (⟨⟨kd, ky, ln, st⟩, .slice a st.length cp⟩ : RcV).r.st.length ≤ 300) = false from decide_eq_false (fun q => by have := q.1; simp only at this; omega)]
    go_enter Try.func10, Try.ntmps10
    go_wp2
    go_ret
    exact ⟨rfl, FB _⟩
/-- two records are one -/
def sameR (a b : RcS) : Bool := decide (a.st = b.st) && (a.kind == b.kind) && (a.key == b.key) && (a.len == b.len)
theorem sameR_iff {a b : RcS} : sameR a b = true ↔ a = b := by
  obtain ⟨k, y, n, s⟩ := a
  obtain ⟨k', y', n', s'⟩ := b
  unfold sameR
  simp only [Bool.and_eq_true, decide_eq_true_iff, beq_iff_eq, RcS.mk.injEq]
  constructor
  · rintro ⟨⟨⟨h1, h2⟩, h3⟩, h4⟩; exact ⟨h2, h3, h4, h1⟩
  · rintro ⟨h2, h3, h4, h1⟩; exact ⟨⟨⟨h1, h2⟩, h3⟩, h4⟩
set_option maxRecDepth 100000 in
set_option maxHeartbeats 2000000 in
theorem same16_any {w : World} {c d : RcV} (h : c.In w) (k : d.In w) (hl : c.r.st.length ≤ 1000000) (hl2 : d.r.st.length ≤ 1000000) {x : Bool} (hx : sameR c.r d.r = x) : Calls Try.prog 16 #[aggR c, aggR d] w fun e w' => e = .returned (.bool x) ∧ Below w.heap.size w w' := by
  obtain ⟨⟨kd, ky, ln, st⟩, vs⟩ := c
  obtain ⟨⟨kd', ky', ln', st'⟩, vs'⟩ := d
  have HR := h.rs
  obtain ⟨a, cp, e⟩ := HR.form
  have KR := k.rs
  obtain ⟨a', cp', e'⟩ := KR.form
  simp only at e e' hl hl2 hx
  have HX : Hid (sameR ⟨kd, ky, ln, st⟩ ⟨kd', ky', ln', st'⟩ = x) := hx
  clear hx
  subst e e'
  clear h k
  show Calls Try.prog 16 #[.agg #[.int .i64 kd, .string ⟨ky.toArray⟩, .int .i64 ln, .slice a st.length cp], .agg #[.int .i64 kd', .string ⟨ky'.toArray⟩, .int .i64 ln', .slice a' st'.length cp']] w _
  obtain ⟨w1, hw1⟩ : ∃ w1, w1 = (w.alloc (.cells #[.int .i64 kd, .string ⟨ky.toArray⟩, .int .i64 ln, .slice a st.length cp] 25)).alloc (.cells #[.int .i64 kd', .string ⟨ky'.toArray⟩, .int .i64 ln', .slice a' st'.length cp'] 25) := ⟨_, rfl⟩
  have B1 : Below w.heap.size w w1 := by rw [hw1]; exact (belR _ _).trans ((belR _ _).mono (by simp))
  have s1 : w.heap.size + 2 = w1.heap.size := by rw [hw1]; simp
  have K := rints_any (HR.below B1) (KR.below B1) hl hl2
  have c0 : ∀ W, Below w1.heap.size w1 W → (W.cell? ⟨w.heap.size, 0, none⟩ = some (.int .i64 kd) ∧ W.cell? ⟨w.heap.size, 1, none⟩ = some (.string ⟨ky.toArray⟩) ∧ W.cell? ⟨w.heap.size, 2, none⟩ = some (.int .i64 ln)) ∧ W.cell? ⟨w.heap.size + 1, 0, none⟩ = some (.int .i64 kd') ∧ W.cell? ⟨w.heap.size + 1, 1, none⟩ = some (.string ⟨ky'.toArray⟩) ∧ W.cell? ⟨w.heap.size + 1, 2, none⟩ = some (.int .i64 ln') := by
    have g : ∀ j, w1.cell? ⟨w.heap.size, j, none⟩ = #[Value.int .i64 kd, .string ⟨ky.toArray⟩, .int .i64 ln, .slice a st.length cp][j]? := fun j => by
      rw [hw1, World.cell?_alloc_lt _ _ _ (by simp), World.cell?_alloc_new]
    have g' : ∀ j, w1.cell? ⟨w.heap.size + 1, j, none⟩ = #[Value.int .i64 kd', .string ⟨ky'.toArray⟩, .int .i64 ln', .slice a' st'.length cp'][j]? := fun j => by
      rw [hw1, show w.heap.size + 1 = (w.alloc (.cells #[.int .i64 kd, .string ⟨ky.toArray⟩, .int .i64 ln, .slice a st.length cp] 25)).heap.size by simp, World.cell?_alloc_new]
    exact fun W b => ⟨⟨(b.cell (p := ⟨w.heap.size, 0, none⟩) (by show w.heap.size < _; omega)).trans (g 0), (b.cell (p := ⟨w.heap.size, 1, none⟩) (by show w.heap.size < _; omega)).trans (g 1), (b.cell (p := ⟨w.heap.size, 2, none⟩) (by show w.heap.size < _; omega)).trans (g 2)⟩, (b.cell (p := ⟨w.heap.size + 1, 0, none⟩) (by show w.heap.size + 1 < _; omega)).trans (g' 0), (b.cell (p := ⟨w.heap.size + 1, 1, none⟩) (by show w.heap.size + 1 < _; omega)).trans (g' 1), (b.cell (p := ⟨w.heap.size + 1, 2, none⟩) (by show w.heap.size + 1 < _; omega)).trans (g' 2)⟩
  have KP : Hid _ := c0
  clear HR KR c0
  go_enter Try.func16, Try.ntmps16
  go_wp2_with fail
  rw [← hw1]
  clear hw1
  refine K.mono ?_
  rintro _ w2 ⟨rfl, B2⟩
  obtain ⟨⟨x0, x1, x2⟩, y0, y1, y2⟩ := KP.out w2 B2
  have BF := B1.trans (B2.mono (by omega))
  clear K KP
  by_cases h1 : st = st'
  · by_cases h2 : kd = kd'
    · by_cases h3 : ky = ky'
      · by_cases h4 : ln = ln'
        · obtain rfl : x = true := HX.out.symm.trans (sameR_iff.2 (by rw [h1, h2, h3, h4]))
          clear HX
          subst h1 h2 h3 h4
          go_wp2
          go_ret
          exact ⟨by rfl, BF⟩
        · obtain rfl : x = false := HX.out.symm.trans (by simp [sameR, h4])
          clear HX
          subst h1 h2 h3
          have h4' : (ln == ln') = false := beq_eq_false_iff_ne.2 h4
          go_wp2
          go_ret
          exact ⟨by first | rfl | (rw [h4']; rfl), BF⟩
      · obtain rfl : x = false := HX.out.symm.trans (by simp [sameR, h3])
        clear HX
        subst h1 h2
        have h3' : ¬ ky.toArray.toList = ky'.toArray.toList := by simpa using h3
        go_wp2
        go_ret
        exact ⟨by rfl, BF⟩
    · obtain rfl : x = false := HX.out.symm.trans (by simp [sameR, h2])
      clear HX
      subst h1
      go_wp2
      go_ret
      exact ⟨by rfl, BF⟩
  · obtain rfl : x = false := HX.out.symm.trans (by simp [sameR, h1])
    clear HX
    have h1' : decide (st = st') = false := decide_eq_false h1
    rw [h1']
    go_wp2
    go_ret
    exact ⟨by rfl, BF⟩
end Go.Proofs.Ythmoiffkgcnjmaa.Gf
