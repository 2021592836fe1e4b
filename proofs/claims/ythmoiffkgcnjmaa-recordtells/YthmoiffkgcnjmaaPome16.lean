/- TEXTS JOINED: ReRefD. -/
import Derived.Test.YthmoiffkgcnjmaaPome15
namespace Go.Proofs.Ythmoiffkgcnjmaa.Gf
set_option linter.unusedVariables false
set_option linter.unusedSimpArgs false
open Go.RowKit
theorem RdI.onlyD {g : Nat} {w w' : World} {v : Value} {zs : List Int} (h : RdI w v zs) (hne : v.ownBlock ≠ some g) (o : Only g w w') : RdI w' v zs := by
  rcases h with h | ⟨b, off, cap, h1, rfl, h3, h5, h6⟩
  · exact Or.inl h
  · have hb : b ≠ g := fun e => hne (by rw [e]; rfl)
    exact Or.inr ⟨b, off, cap, h1, rfl, h3, by rw [o.size]; exact h5, fun i hi => (o.cell (p := ⟨b, off + i, none⟩) hb).trans (h6 i hi)⟩
theorem de_fail {p : Prop} (h : p := by
  obtain ⟨W, hW⟩ : ∃ W, W = (((w3.setCell ⟨w.heap.size, 0, none⟩ (.int .i64 0)).setCell ⟨w.heap.size, 1, none⟩ (.string ⟨#[]⟩)).setCell ⟨w.heap.size, 2, none⟩ (.int .i64 0)).setCell ⟨w.heap.size, 3, none⟩ (.slice none 0 0) := ⟨_, rfl⟩
  obtain ⟨m0, m1, m2, m3⟩ := And.intro (cA.out 0).1 (And.intro (cA.out 1).1 (And.intro (cA.out 2).1 (cA.out 3).1))
  obtain ⟨f0, f1, f2, f3⟩ := And.intro (cA.out 0).2 (And.intro (cA.out 1).2 (And.intro (cA.out 2).2 (cA.out 3).2))
  simp at m0 m1 m2 m3
  obtain ⟨OA, n0, n1, n2, n3⟩ := set4 (a := .int .i64 0) (b := .string ⟨#[]⟩) (c := .int .i64 0) (d := .slice none 0 0) m0 m1 m2 m3
  rw [← hW] at OA n0 n1 n2 n3
  have HX1 := HX.out
  have HR1 := HR.out
  rw [if_neg nI.out] at HX1 HR1
  subst HX1 HR1
  have FIN : Hid (MakesD16 w 160 noR (.returned (.tuple #[.agg #[.int .i64 0, .string ⟨#[]⟩, .int .i64 0, .slice none 0 0], .int .i64 160])) W) := ⟨⟨noR, .slice none 0 0⟩, rfl, rfl, noR_in _, T3.trans (OA.below (Nat.le_refl _)), fun k hk => by cases hk⟩
  rw [hw3] at m0 m1 m2 m3 f0 f1 f2 f3 hW
  clear OA T3 cA hw3
  go_wp2
  rw [← hW]
  clear hW
  exact bodyPost_ret (v := .tuple #[.agg #[.int .i64 0, .string ⟨#[]⟩, .int .i64 0, .slice none 0 0], .int .i64 160]) (by simp [results, Try.results14, go_sem, n0, n1, n2, n3]) rfl FIN.out) : p := h
set_option maxRecDepth 100000 in
set_option maxHeartbeats 2000000 in
theorem rdec16_any {w : World} {v : Value} {p : List UInt8} (R : Rd w v p) (hp : p.length ≤ 100000) {X : Int} (hX : (if IsR p then (0 : Int) else 160) = X) {r : RcS} (hr : (if IsR p then raR p else noR) = r) : Calls Try.prog 14 #[v] w (MakesD16 w X r) := by
  obtain ⟨a, cp, e⟩ := R.form
  subst e
  obtain ⟨w1, hw1⟩ : ∃ w1, w1 = w.alloc (.cells #[.int .i64 0, .string ⟨#[]⟩, .int .i64 0, .slice none 0 0] 25) := ⟨_, rfl⟩
  have B1 : Below w.heap.size w w1 := by rw [hw1]; exact belR _ _
  have s1 : w.heap.size < w1.heap.size := by rw [hw1]; show w.heap.size < (w.heap.push _).size; rw [Array.size_push]; exact Nat.lt_succ_self _
  have cA1 : Hid (∀ W, Below w1.heap.size w1 W → ∀ j, W.cell? ⟨w.heap.size, j, none⟩ = #[Value.int .i64 0, .string ⟨#[]⟩, .int .i64 0, .slice none 0 0][j]? ∧ W.frozen? ⟨w.heap.size, j, none⟩ = false) := fun W b j => ⟨(b.cell (p := ⟨w.heap.size, j, none⟩) s1).trans (by rw [hw1, World.cell?_alloc_new]), (b.frozen (p := ⟨w.heap.size, j, none⟩) s1).trans (by rw [hw1]; simp [go_sem])⟩
  have HX : Hid ((if IsR p then (0 : Int) else 160) = X) := hX
  have HR : Hid ((if IsR p then raR p else noR) = r) := hr
  have K := rnxt16_any (R.below B1) hp
  clear hX hr R
  go_enter Try.func14, Try.ntmps14
  go_wp2_with fail
  rw [← hw1]
  clear hw1
  refine K.mono ?_
  rintro _ w2 (⟨hn, c, ra, rm, rq, rfl, hc, hi, hf, Rr, B2⟩ | ⟨hn, k, n, y, va, ra, vn, vc, rm, rq, rfl, B2⟩)
  rotate_left
  · obtain ⟨w3, hw3⟩ : ∃ w3, w3 = w2.alloc (.cells #[.int .i64 k, .string ⟨y.toArray⟩, .int .i64 n, .slice va vn vc] 25) := ⟨_, rfl⟩
    have B3 : Below w1.heap.size w1 w3 := B2.step16 (by rw [hw3]; exact belR _ _) B2.size
    have T3 := B1.step16 B3 B1.size
    have cA : Hid (∀ j, w3.cell? ⟨w.heap.size, j, none⟩ = #[Value.int .i64 0, .string ⟨#[]⟩, .int .i64 0, .slice none 0 0][j]? ∧ w3.frozen? ⟨w.heap.size, j, none⟩ = false) := cA1.out _ B3
    have nI : Hid (¬ IsR p) := fun q => hn q.1
    clear K B2 B3 cA1 hn
    exact de_fail
  clear K
  obtain ⟨⟨kd, ky, ln, st⟩, vs⟩ := c
  obtain ⟨va, vc, ev⟩ := hi.rs.form
  simp only at ev hc
  subst ev
  rw [show aggR ⟨⟨kd, ky, ln, st⟩, .slice va st.length vc⟩ = .agg #[.int .i64 kd, .string ⟨ky.toArray⟩, .int .i64 ln, .slice va st.length vc] from rfl]
  obtain ⟨w3, hw3⟩ : ∃ w3, w3 = w2.alloc (.cells #[.int .i64 kd, .string ⟨ky.toArray⟩, .int .i64 ln, .slice va st.length vc] 25) := ⟨_, rfl⟩
  have b3 : Below w2.heap.size w2 w3 := by rw [hw3]; exact belR _ _
  have B3 : Below w1.heap.size w1 w3 := B2.step16 b3 B2.size
  have T3 := B1.step16 B3 B1.size
  have cA : Hid (∀ j, w3.cell? ⟨w.heap.size, j, none⟩ = #[Value.int .i64 0, .string ⟨#[]⟩, .int .i64 0, .slice none 0 0][j]? ∧ w3.frozen? ⟨w.heap.size, j, none⟩ = false) := cA1.out _ B3
  have i3 := hi.below b3
  have lr := (rd_cap Rr).1
  have EN : Hid (IsR p ↔ rm = 0) := ⟨fun q => by rw [lr, q.2]; rfl, fun q => ⟨hn, List.length_eq_zero_iff.1 (by omega)⟩⟩
  clear B2 cA1 hi b3 lr Rr
  by_cases h0 : (rm : Int) > 0
  · have nI : Hid (¬ IsR p) := fun q => by have := EN.out.1 q; omega
    clear B3 EN i3 hn hf hc
    exact de_fail
  have yI : Hid (IsR p) := EN.out.2 (by omega)
  have HX1 := HX.out
  have HR1 := HR.out
  rw [if_pos yI.out] at HX1 HR1
  subst HX1 HR1
  have g0 : w3.cell? ⟨w2.heap.size, 0, none⟩ = some (.int .i64 kd) := by rw [hw3, World.cell?_alloc_new]; rfl
  have g1 : w3.cell? ⟨w2.heap.size, 1, none⟩ = some (.string ⟨ky.toArray⟩) := by rw [hw3, World.cell?_alloc_new]; rfl
  have g2 : w3.cell? ⟨w2.heap.size, 2, none⟩ = some (.int .i64 ln) := by rw [hw3, World.cell?_alloc_new]; rfl
  have g3 : w3.cell? ⟨w2.heap.size, 3, none⟩ = some (.slice va st.length vc) := by rw [hw3, World.cell?_alloc_new]; rfl
  obtain ⟨m0, m1, m2, m3⟩ := And.intro (cA.out 0).1 (And.intro (cA.out 1).1 (And.intro (cA.out 2).1 (cA.out 3).1))
  obtain ⟨f0, f1, f2, f3⟩ := And.intro (cA.out 0).2 (And.intro (cA.out 1).2 (And.intro (cA.out 2).2 (cA.out 3).2))
  simp at m0 m1 m2 m3
  obtain ⟨W, hW⟩ : ∃ W, W = (((w3.setCell ⟨w.heap.size, 0, none⟩ (.int .i64 kd)).setCell ⟨w.heap.size, 1, none⟩ (.string ⟨ky.toArray⟩)).setCell ⟨w.heap.size, 2, none⟩ (.int .i64 ln)).setCell ⟨w.heap.size, 3, none⟩ (.slice va st.length vc) := ⟨_, rfl⟩
  obtain ⟨OA, n0, n1, n2, n3⟩ := set4 (a := .int .i64 kd) (b := .string ⟨ky.toArray⟩) (c := .int .i64 ln) (d := .slice va st.length vc) m0 m1 m2 m3
  rw [← hW] at OA n0 n1 n2 n3
  have FIN : Hid (MakesD16 w 0 (raR p) (.returned (.tuple #[.agg #[.int .i64 kd, .string ⟨ky.toArray⟩, .int .i64 ln, .slice va st.length vc], .int .i64 0])) W) := ⟨⟨⟨kd, ky, ln, st⟩, .slice va st.length vc⟩, rfl, hc, ⟨i3.wk, i3.wl, i3.ky, i3.rs.onlyD (fun e => by have := (hf _ e).1; omega) OA, i3.wi⟩, T3.trans (OA.below (Nat.le_refl _)), fun k hk => by have := (hf k hk).1; omega⟩
  rw [hw3] at g0 g1 g2 g3 m0 m1 m2 m3 f0 f1 f2 f3 hW
  clear OA T3 cA B3 i3 hf hw3
  go_wp2
  rw [← hW]
  clear hW
  exact bodyPost_ret (v := .tuple #[.agg #[.int .i64 kd, .string ⟨ky.toArray⟩, .int .i64 ln, .slice va st.length vc], .int .i64 0]) (by simp [results, Try.results14, go_sem, n0, n1, n2, n3]) rfl FIN.out
end Go.Proofs.Ythmoiffkgcnjmaa.Gf
