/- TEXTS JOINED: ReCG, ReOw, ReXO. -/
import Derived.Recover
import Derived.Test.YthmoiffkgcnjmaaQome11
import Derived.Maps.AppendAt
namespace Go.Proofs.Ythmoiffkgcnjmaa.Gf
set_option linter.unusedVariables false
set_option linter.unusedSimpArgs false
open Go.RowKit
theorem rcl16_pan {eb : Nat} {x : Int} {w : World} (hc : w.cell? ⟨eb, 0, none⟩ = some (.int .i64 x)) (hz : w.frozen? ⟨eb, 0, none⟩ = false) :
    CallsD Try.prog 47 #[.pointer (some ⟨eb, 0, none⟩)] (.panicking pz16) w fun e u' w' => e = .returned (.tuple #[]) ∧ u' = .panicking [{ v := .iface 28 (.int .i64 160), recovered := true }] ∧ w' = w.setCell ⟨eb, 0, none⟩ (.int .i64 160) := by
  have hta : ∀ w, (Instr.typeAssert (.iface 28 (.int .i64 160)) 20 28 false).run Try.prog w = .ok (.int .i64 160) w := fun _ => by kernel_rfl
  refine callsD_of_wpS Try.func47 rfl fun c₀ cs hu => ?_
  unfold pz16 at hu
  apply wpS_seq
  apply wpS_region
  simp [wpOpsS, go_sem, recoverD, hu, Try.ntmps47, Exit.thenS]
  refine wpS_of_wp ?_
  rw [show (#[Value.pointer (some ⟨eb, 0, none⟩)] ++ ((Array.replicate 6 undef).setIfInBounds 1 (Value.iface 28 (.int .i64 160))).setIfInBounds 0 (Value.iface 28 (.int .i64 160))) = #[Value.pointer (some ⟨eb, 0, none⟩), .iface 28 (.int .i64 160), .iface 28 (.int .i64 160), undef, undef, undef, undef] from rfl]
  go_wp2
  exact ⟨rfl, _, rfl, .tuple #[], by simp [results, Try.results47, go_sem], rfl, rfl, rfl⟩
theorem rcl16_ret {eb : Nat} {w : World} :
    CallsD Try.prog 47 #[.pointer (some ⟨eb, 0, none⟩)] .returning w fun e u' w' => e = .returned (.tuple #[]) ∧ u' = .returning ∧ w' = w := by
  refine callsD_of_wpS Try.func47 rfl fun c₀ cs hu => ?_
  apply wpS_seq
  apply wpS_region
  simp [wpOpsS, go_sem, recoverD, hu, Try.ntmps47, Exit.thenS]
  refine wpS_of_wp ?_
  rw [show (#[Value.pointer (some ⟨eb, 0, none⟩)] ++ ((Array.replicate 6 undef).setIfInBounds 1 Value.nilIface).setIfInBounds 0 Value.nilIface) = #[Value.pointer (some ⟨eb, 0, none⟩), .nilIface, .nilIface, undef, undef, undef, undef] from rfl]
  go_wp2
  cases c₀
  simp_all [bodyPostS, results, Try.results47]
theorem RdI.only {g : Nat} {w w' : World} {v : Value} {zs : List Int} (h : RdI w v zs) (hne : v.ownBlock ≠ some g) (o : Only g w w') : RdI w' v zs := by
  rcases h with h | ⟨b, off, cap, h1, rfl, h3, h5, h6⟩
  · exact Or.inl h
  · have hb : b ≠ g := fun e => hne (by rw [e]; rfl)
    exact Or.inr ⟨b, off, cap, h1, rfl, h3, by rw [o.size]; exact h5, fun i hi => (o.cell (p := ⟨b, off + i, none⟩) hb).trans (h6 i hi)⟩
theorem rw_pan {p : Prop} (h : p := by
  obtain ⟨kA, kE, fE, B4⟩ := AF.out w4 t4
  have HX1 := HX.out
  have HR1 := HR.out
  rw [if_neg nI.out] at HX1 HR1
  subst HX1 HR1
  have kB : ∀ j, (w4.setCell ⟨w.heap.size + 1, 0, none⟩ (.int .i64 160)).cell? ⟨w.heap.size, j, none⟩ = #[Value.int .i64 0, .string ⟨#[]⟩, .int .i64 0, .slice none 0 0][j]? := fun j => (World.cell?_setCell_other _ _ _ _ (by simp)).trans (kA j).1
  have k0 := kB 0
  have k1 := kB 1
  have k2 := kB 2
  have k3 := kB 3
  have kZ := World.cell?_setCell_same w4 ⟨w.heap.size + 1, 0, none⟩ (.int .i64 160) kE
  simp at k0 k1 k2 k3
  have FIN : Hid (MakesD16 w 160 noR (.returned (.tuple #[.agg #[.int .i64 0, .string ⟨#[]⟩, .int .i64 0, .slice none 0 0], .int .i64 160])) (w4.setCell ⟨w.heap.size + 1, 0, none⟩ (.int .i64 160))) := ⟨⟨noR, .slice none 0 0⟩, rfl, rfl, noR_in _, B4.setCell (Nat.le_succ _) _, fun k hk => by cases hk⟩
  refine leaves_cons (f := 47) (args := #[.pointer (some ⟨w.heap.size + 1, 0, none⟩)]) (by simp) (by simp [go_sem]) ?_
  refine (rcl16_pan kE fE).mono ?_
  rintro e u' w'' ⟨rfl, rfl, rfl⟩
  exact ⟨.tuple #[.agg #[.int .i64 0, .string ⟨#[]⟩, .int .i64 0, .slice none 0 0], .int .i64 160], by simp [results, Try.results30, go_sem, k0, k1, k2, k3, kZ], FIN.out⟩) : p := h
set_option maxRecDepth 100000 in
set_option maxHeartbeats 4000000 in
theorem rw16_any {w : World} {v : Value} {p : List UInt8} (R : Rd w v p) (hp : p.length ≤ 100000) {X : Int} (hX : (if IsR p then (0 : Int) else 160) = X) {r : RcS} (hr : (if IsR p then raR p else noR) = r) : Calls Try.prog 30 #[v, .func (.func 31) #[] #[]] w (MakesD16 w X r) := by
  obtain ⟨a, cp, e⟩ := R.form
  subst e
  have HX : Hid ((if IsR p then (0 : Int) else 160) = X) := hX
  have HR : Hid ((if IsR p then raR p else noR) = r) := hr
  clear hX hr
  have hmf : ∀ (fn : Fn) (first cap : Array Value) (w : World), (Instr.makeFunc fn first cap).run Try.prog w = .ok (.func fn first cap) w := fun _ _ _ _ => rfl
  obtain ⟨w3, hw3⟩ : ∃ w3, w3 = ((w.alloc (.cells #[.int .i64 0, .string ⟨#[]⟩, .int .i64 0, .slice none 0 0] 25)).alloc (.cells #[.int .i64 0] 28)).alloc (.cells #[.slice a p.length cp] 73) := ⟨_, rfl⟩
  have s3 : w3.heap.size = w.heap.size + 3 := by rw [hw3]; simp
  have B3 : Below w.heap.size w w3 := by rw [hw3]; exact ((belR _ _).trans ((belR _ _).mono (by simp))).trans ((belR _ _).mono (by simp; omega))
  have cA : ∀ j, w3.cell? ⟨w.heap.size, j, none⟩ = #[Value.int .i64 0, .string ⟨#[]⟩, .int .i64 0, .slice none 0 0][j]? := fun j => by
    rw [hw3, World.cell?_alloc_lt _ _ _ (by simp; omega), World.cell?_alloc_lt _ _ _ (by simp), World.cell?_alloc_new]
  have cE : w3.cell? ⟨w.heap.size + 1, 0, none⟩ = some (.int .i64 0) := by
    rw [hw3, World.cell?_alloc_lt _ _ _ (by simp), show w.heap.size + 1 = (w.alloc (.cells #[.int .i64 0, .string ⟨#[]⟩, .int .i64 0, .slice none 0 0] 25)).heap.size by simp, World.cell?_alloc_new]
    rfl
  have cR : w3.cell? ⟨w.heap.size + 1 + 1, 0, none⟩ = some (.slice a p.length cp) := by
    rw [hw3, show w.heap.size + 1 + 1 = ((w.alloc (.cells #[.int .i64 0, .string ⟨#[]⟩, .int .i64 0, .slice none 0 0] 25)).alloc (.cells #[.int .i64 0] 28)).heap.size by simp, World.cell?_alloc_new]
    rfl
  have fA : ∀ j, w3.frozen? ⟨w.heap.size, j, none⟩ = false := fun j => by rw [hw3]; simp [go_sem]
  have fE : w3.frozen? ⟨w.heap.size + 1, 0, none⟩ = false := by rw [hw3]; simp [go_sem]
  have fR : w3.frozen? ⟨w.heap.size + 1 + 1, 0, none⟩ = false := by rw [hw3]; simp [go_sem]
  have r3 : RdrAt w (w.heap.size + 1 + 1) w3 p := ⟨⟨_, cR, R⟩, fR, B3, by omega⟩
  have AF : Hid (∀ W, Turn (w.heap.size + 1 + 1) w3 W → (∀ j, W.cell? ⟨w.heap.size, j, none⟩ = #[Value.int .i64 0, .string ⟨#[]⟩, .int .i64 0, .slice none 0 0][j]? ∧ W.frozen? ⟨w.heap.size, j, none⟩ = false) ∧ W.cell? ⟨w.heap.size + 1, 0, none⟩ = some (.int .i64 0) ∧ W.frozen? ⟨w.heap.size + 1, 0, none⟩ = false ∧ Below w.heap.size w W) := fun W t => ⟨fun j => ⟨(t.cell (p := ⟨w.heap.size, j, none⟩) (by show w.heap.size < _; omega) (by show w.heap.size ≠ _; omega)).trans (cA j), (t.frozen (p := ⟨w.heap.size, j, none⟩) (by show w.heap.size < _; omega) (by show w.heap.size ≠ _; omega)).trans (fA j)⟩, (t.cell (p := ⟨w.heap.size + 1, 0, none⟩) (by show w.heap.size + 1 < _; omega) (by show w.heap.size + 1 ≠ _; omega)).trans cE, (t.frozen (p := ⟨w.heap.size + 1, 0, none⟩) (by show w.heap.size + 1 < _; omega) (by show w.heap.size + 1 ≠ _; omega)).trans fE, B3.trans (t.below (by omega) (by omega))⟩
  have S3 : Hid (w3.heap.size = w.heap.size + 3) := s3
  have K := rrec16_any r3 hp
  clear cA cE cR fA fE fR R s3
  go_enter_defers Try.func30, Try.ntmps30
  go_wp2_with fail
  rw [← hw3]
  clear hw3
  refine K.mono ?_
  rintro _ w4 (⟨hn, c, rfl, hc, hi, hf, r4, t4⟩ | ⟨hn, rfl, t4⟩)
  rotate_left
  · have nI : Hid (¬ IsR p) := fun q => hn q.1
    exact rw_pan
  obtain ⟨⟨kd, ky, ln, st⟩, vs⟩ := c
  obtain ⟨va, vc, ev⟩ := hi.rs.form
  simp only at ev hc
  subst ev
  have HF : Hid (∀ g, g < w.heap.size + 3 → (Value.slice va st.length vc).ownBlock ≠ some g) := fun g hg e => by
    have := (hf g e).1
    have := S3.out
    omega
  clear hf
  rw [show aggR ⟨⟨kd, ky, ln, st⟩, .slice va st.length vc⟩ = .agg #[.int .i64 kd, .string ⟨ky.toArray⟩, .int .i64 ln, .slice va st.length vc] from rfl]
  obtain ⟨w5, hw5⟩ : ∃ w5, w5 = w4.alloc (.cells #[.int .i64 kd, .string ⟨ky.toArray⟩, .int .i64 ln, .slice va st.length vc] 25) := ⟨_, rfl⟩
  have B5 : Below w4.heap.size w4 w5 := by rw [hw5]; exact belR _ _
  have r5 := r4.below B5
  have t5 : Turn (w.heap.size + 1 + 1) w3 w5 := t4.trans (Below.turn B5 _)
  have g0 : w5.cell? ⟨w4.heap.size, 0, none⟩ = some (.int .i64 kd) := by rw [hw5, World.cell?_alloc_new]; rfl
  have g1 : w5.cell? ⟨w4.heap.size, 1, none⟩ = some (.string ⟨ky.toArray⟩) := by rw [hw5, World.cell?_alloc_new]; rfl
  have g2 : w5.cell? ⟨w4.heap.size, 2, none⟩ = some (.int .i64 ln) := by rw [hw5, World.cell?_alloc_new]; rfl
  have g3 : w5.cell? ⟨w4.heap.size, 3, none⟩ = some (.slice va st.length vc) := by rw [hw5, World.cell?_alloc_new]; rfl
  have i5 := hi.below B5
  obtain ⟨u, cu, Ru⟩ := r5.at0
  obtain ⟨ua, uc, eu⟩ := Ru.form
  subst eu
  rw [hw5] at cu
  have EN : Hid (IsR p ↔ (reR p).length = 0) := ⟨fun q => by rw [q.2]; rfl, fun q => ⟨hn, List.length_eq_zero_iff.1 q⟩⟩
  have RD5 : Hid (Rd w (.slice ua (reR p).length uc) (reR p)) := Ru
  generalize hm : (reR p).length = m at cu EN
  clear Ru RD5 hm r4 hi K r3
  by_cases h0 : (m : Int) = 0
  rotate_left
  · have nI : Hid (¬ IsR p) := fun q => h0 (by rw [EN.out.1 q]; rfl)
    clear r5 g0 g1 g2 g3 i5 t4
    go_wp2_with fail
    rw [← hw5]
    clear hw5 cu
    refine (ask16_no (beq_eq_false_iff_ne.2 h0)).mono ?_
    rintro _ w4 ⟨rfl, rfl⟩
    have t4 := t5
    exact rw_pan
  · have yI : Hid (IsR p) := EN.out.2 (by omega)
    have HX1 := HX.out
    have HR1 := HR.out
    rw [if_pos yI.out] at HX1 HR1
    subst HX1 HR1
    obtain ⟨kA, kE, fE, BW⟩ := AF.out w5 t5
    obtain ⟨m0, f0⟩ := kA 0
    obtain ⟨m1, f1⟩ := kA 1
    obtain ⟨m2, f2⟩ := kA 2
    obtain ⟨m3, f3⟩ := kA 3
    simp at m0 m1 m2 m3
    clear kA r5 t4
    go_wp2_with fail
    rw [← hw5]
    clear hw5 cu
    refine (ask16_yes rfl).mono ?_
    rintro _ w6 ⟨rfl, rfl⟩
    obtain ⟨W, hW⟩ : ∃ W, W = (((w6.setCell ⟨w.heap.size, 0, none⟩ (.int .i64 kd)).setCell ⟨w.heap.size, 1, none⟩ (.string ⟨ky.toArray⟩)).setCell ⟨w.heap.size, 2, none⟩ (.int .i64 ln)).setCell ⟨w.heap.size, 3, none⟩ (.slice va st.length vc) := ⟨_, rfl⟩
    obtain ⟨OA, n0, n1, n2, n3⟩ := set4 (a := .int .i64 kd) (b := .string ⟨ky.toArray⟩) (c := .int .i64 ln) (d := .slice va st.length vc) m0 m1 m2 m3
    rw [← hW] at OA n0 n1 n2 n3
    have OE : Only (w.heap.size + 1) W (W.setCell ⟨w.heap.size + 1, 0, none⟩ (.int .i64 0)) := (Only.refl _ _).setCell _ _
    have kE2 : W.cell? ⟨w.heap.size + 1, 0, none⟩ = some (.int .i64 0) := (OA.cell (p := ⟨w.heap.size + 1, 0, none⟩) (Nat.succ_ne_self _)).trans kE
    have fE2 : W.frozen? ⟨w.heap.size + 1, 0, none⟩ = false := (OA.frozen (p := ⟨w.heap.size + 1, 0, none⟩) (Nat.succ_ne_self _)).trans fE
    have e5 := World.cell?_setCell_same W ⟨w.heap.size + 1, 0, none⟩ (.int .i64 0) kE2
    have n0' := (OE.cell (p := ⟨w.heap.size, 0, none⟩) (Nat.succ_ne_self _).symm).trans n0
    have n1' := (OE.cell (p := ⟨w.heap.size, 1, none⟩) (Nat.succ_ne_self _).symm).trans n1
    have n2' := (OE.cell (p := ⟨w.heap.size, 2, none⟩) (Nat.succ_ne_self _).symm).trans n2
    have n3' := (OE.cell (p := ⟨w.heap.size, 3, none⟩) (Nat.succ_ne_self _).symm).trans n3
    have FIN : Hid (MakesD16 w 0 (raR p) (.returned (.tuple #[.agg #[.int .i64 kd, .string ⟨ky.toArray⟩, .int .i64 ln, .slice va st.length vc], .int .i64 0])) (W.setCell ⟨w.heap.size + 1, 0, none⟩ (.int .i64 0))) := by
      refine ⟨⟨⟨kd, ky, ln, st⟩, .slice va st.length vc⟩, rfl, hc, ⟨i5.wk, i5.wl, i5.ky, ?_, i5.wi⟩, (BW.trans (OA.below (Nat.le_refl _))).trans (OE.below (Nat.le_succ _)), fun k hk => Nat.le_of_not_lt fun q => HF.out k (by omega) hk⟩
      exact (i5.rs.only (HF.out _ (by omega)) OA).only (HF.out _ (by omega)) OE
    clear i5 OA OE BW
    go_wp2
    rw [← hW]
    clear hW
    refine leaves_cons (f := 47) (args := #[.pointer (some ⟨w.heap.size + 1, 0, none⟩)]) (by simp) (by simp [go_sem]) ?_
    refine rcl16_ret.mono ?_
    rintro e u' w'' ⟨rfl, rfl, rfl⟩
    exact ⟨.tuple #[.agg #[.int .i64 kd, .string ⟨ky.toArray⟩, .int .i64 ln, .slice va st.length vc], .int .i64 0], by simp [results, Try.results30, go_sem, n0', n1', n2', n3', e5], FIN.out⟩
set_option maxRecDepth 100000 in
set_option maxHeartbeats 1000000 in
theorem dec16_any {w : World} {v : Value} {p : List UInt8} (R : Rd w v p) (hp : p.length ≤ 100000) {X : Int} (hX : (if IsR p then (0 : Int) else 160) = X) {r : RcS} (hr : (if IsR p then raR p else noR) = r) : Calls Try.prog 13 #[v] w (MakesD16 w X r) := by
  obtain ⟨a, cp, e⟩ := R.form
  subst e
  obtain ⟨w1, hw1⟩ : ∃ w1, w1 = w.alloc (.cells #[.int .i64 0, .string ⟨#[]⟩, .int .i64 0, .slice none 0 0] 25) := ⟨_, rfl⟩
  have B1 : Below w.heap.size w w1 := by rw [hw1]; exact belR _ _
  have s1 : w.heap.size < w1.heap.size := by rw [hw1]; show w.heap.size < (w.heap.push _).size; rw [Array.size_push]; exact Nat.lt_succ_self _
  have cA : ∀ j, w1.cell? ⟨w.heap.size, j, none⟩ = #[Value.int .i64 0, .string ⟨#[]⟩, .int .i64 0, .slice none 0 0][j]? := fun j => by rw [hw1, World.cell?_alloc_new]
  have fA : ∀ j, w1.frozen? ⟨w.heap.size, j, none⟩ = false := fun j => by rw [hw1]; simp [go_sem]
  have K := rw16_any (R.below B1) hp hX hr
  clear hX hr R
  go_enter Try.func13, Try.ntmps13
  go_wp2_with fail
  rw [← hw1]
  clear hw1
  refine K.mono ?_
  rintro _ w2 ⟨c, rfl, hc, hi, B2, hf⟩
  clear K
  obtain ⟨⟨kd, ky, ln, st⟩, vs⟩ := c
  obtain ⟨va, vc, ev⟩ := hi.rs.form
  simp only at ev hc
  subst ev
  rw [show aggR ⟨⟨kd, ky, ln, st⟩, .slice va st.length vc⟩ = .agg #[.int .i64 kd, .string ⟨ky.toArray⟩, .int .i64 ln, .slice va st.length vc] from rfl]
  have m0 := (B2.cell (p := ⟨w.heap.size, 0, none⟩) s1).trans (cA 0)
  have m1 := (B2.cell (p := ⟨w.heap.size, 1, none⟩) s1).trans (cA 1)
  have m2 := (B2.cell (p := ⟨w.heap.size, 2, none⟩) s1).trans (cA 2)
  have m3 := (B2.cell (p := ⟨w.heap.size, 3, none⟩) s1).trans (cA 3)
  have f0 := (B2.frozen (p := ⟨w.heap.size, 0, none⟩) s1).trans (fA 0)
  have f1 := (B2.frozen (p := ⟨w.heap.size, 1, none⟩) s1).trans (fA 1)
  have f2 := (B2.frozen (p := ⟨w.heap.size, 2, none⟩) s1).trans (fA 2)
  have f3 := (B2.frozen (p := ⟨w.heap.size, 3, none⟩) s1).trans (fA 3)
  simp at m0 m1 m2 m3
  clear cA fA
  obtain ⟨W, hW⟩ : ∃ W, W = (((w2.setCell ⟨w.heap.size, 0, none⟩ (.int .i64 kd)).setCell ⟨w.heap.size, 1, none⟩ (.string ⟨ky.toArray⟩)).setCell ⟨w.heap.size, 2, none⟩ (.int .i64 ln)).setCell ⟨w.heap.size, 3, none⟩ (.slice va st.length vc) := ⟨_, rfl⟩
  obtain ⟨OA, n0, n1, n2, n3⟩ := set4 (a := .int .i64 kd) (b := .string ⟨ky.toArray⟩) (c := .int .i64 ln) (d := .slice va st.length vc) m0 m1 m2 m3
  rw [← hW] at OA n0 n1 n2 n3
  have FIN : Hid (MakesD16 w X r (.returned (.tuple #[.agg #[.int .i64 kd, .string ⟨ky.toArray⟩, .int .i64 ln, .slice va st.length vc], .int .i64 X])) W) := ⟨⟨⟨kd, ky, ln, st⟩, .slice va st.length vc⟩, rfl, hc, ⟨hi.wk, hi.wl, hi.ky, hi.rs.only (fun e => by have := hf _ e; omega) OA, hi.wi⟩, (B1.step16 B2 (Nat.le_of_lt s1)).trans (OA.below (Nat.le_refl _)), fun k hk => by have := hf k hk; omega⟩
  clear OA B1 B2 hi hf
  go_wp2
  rw [← hW]
  clear hW
  exact bodyPost_ret (v := .tuple #[.agg #[.int .i64 kd, .string ⟨ky.toArray⟩, .int .i64 ln, .slice va st.length vc], .int .i64 X]) (by simp [results, Try.results13, go_sem, n0, n1, n2, n3]) rfl FIN.out
end Go.Proofs.Ythmoiffkgcnjmaa.Gf

namespace Go.Proofs.Ythmoiffkgcnjmaa.Gf
set_option linter.unusedVariables false
set_option linter.unusedSimpArgs false
open Go.RowKit
theorem RdI.gro {w w' : World} {v v' x : Value} {zs : List Int} (h : RdI w x zs) (g : Gro w v w' v') (hne : ∀ k, x.ownBlock = some k → v.ownBlock ≠ some k) : RdI w' x zs := by
  rcases h with h | ⟨b, off, cap, h1, rfl, h3, h5, h6⟩
  · exact Or.inl h
  · exact Or.inr ⟨b, off, cap, h1, rfl, h3, Nat.lt_of_lt_of_le h5 g.gr.size, fun i hi => (g.cell (p := ⟨b, off + i, none⟩) h5 (hne b rfl)).trans (h6 i hi)⟩
theorem RdI.turn {w w' : World} {g : Nat} {x : Value} {zs : List Int} (h : RdI w x zs) (t : Turn g w w') (hne : ∀ k, x.ownBlock = some k → k ≠ g) : RdI w' x zs := by
  rcases h with h | ⟨b, off, cap, h1, rfl, h3, h5, h6⟩
  · exact Or.inl h
  · exact Or.inr ⟨b, off, cap, h1, rfl, h3, Nat.lt_of_lt_of_le h5 t.size, fun i hi => (t.cell (p := ⟨b, off + i, none⟩) h5 (hne b rfl)).trans (h6 i hi)⟩
/-- an object's limbs -/
structure ObOk (w : World) (c : ObV) : Prop where
  wl : (Lit.int .i64 c.o.len).wf = true
  we : (Lit.int .i64 c.o.ep).wf = true
  ky : c.o.key.length ≤ maxLen
  rs : RdI w c.vs c.o.st
  wi : ∀ z ∈ c.o.st, (Lit.int .i64 z).wf = true
def four (c : ObV) : List Value := [sv c.o.key, .int .i64 c.o.len, .int .i64 c.o.ep, c.vs]
def cellsO : List ObV → List Value
  | [] => []
  | c :: L => four c ++ cellsO L
theorem cellsO_append (L M : List ObV) : cellsO (L ++ M) = cellsO L ++ cellsO M := by
  induction L with
  | nil => rfl
  | cons c L ih => show four c ++ cellsO (L ++ M) = four c ++ cellsO L ++ cellsO M; rw [ih, List.append_assoc]
theorem cellsO_at (L : List ObV) {i j : Nat} (hi : i < L.length) (hj : j < 4) : (cellsO L)[i * 4 + j]? = (four (L.getD i default))[j]? := by
  induction L generalizing i with
  | nil => simp at hi
  | cons c L ih =>
    show (four c ++ cellsO L)[i * 4 + j]? = _
    have h4 : (four c).length = 4 := rfl
    rcases i with _ | i
    · rw [List.getElem?_append_left (by rw [h4]; omega), Nat.zero_mul, Nat.zero_add]; rfl
    · rw [List.getElem?_append_right (by rw [h4]; omega), h4, show (i + 1) * 4 + j - 4 = i * 4 + j by omega, ih (by simpa using hi)]
      rfl
structure OwnO (w : World) (base : Nat) (v : Value) (L : List ObV) : Prop where
  row : w.ownsRow base 62 4 v L.length (cellsO L)
  ea : ∀ c ∈ L, ObOk w c
  ap : ∀ c ∈ L, ∀ k, c.vs.ownBlock = some k → base ≤ k ∧ k < w.heap.size ∧ v.ownBlock ≠ some k
theorem OwnO.nil (w : World) (base : Nat) : OwnO w base (.slice none 0 0) [] := ⟨World.ownsRow_nil _ _ _ _, (fun c hc => by cases hc), (fun c hc => by cases hc)⟩
theorem OwnO.rd {w : World} {base : Nat} {v : Value} {L : List ObV} (h : OwnO w base v L) (hl : L.length ≤ 1000000) : RdO w v L := by
  by_cases h0 : L = []
  · subst h0
    obtain ⟨_, ⟨e, _⟩ | ⟨g, cap, cur, e, _⟩⟩ := h.row
    · exact Or.inl ⟨none, 0, rfl, e⟩
    · exact Or.inl ⟨_, cap, rfl, e⟩
  · have hpos : 0 < L.length := List.length_pos_iff.2 h0
    have hr := h.row
    obtain ⟨_, ⟨e, hn⟩ | ⟨g, cap, cur, rfl, hg, hh, hc, hm, hs, ht⟩⟩ := h.row
    · omega
    · refine Or.inr ⟨g, 0, cap, h0, rfl, by unfold maxLen; omega, (World.ownsRow.lt hr g rfl).2, fun i hi => ?_⟩
      have hmem : L.getD i default ∈ L := by rw [List.getD_eq_getElem?_getD, List.getElem?_eq_getElem hi]; exact List.getElem_mem hi
      have k := h.ea _ hmem
      have cc : ∀ j, j < 4 → w.cell? ⟨g, i * 4 + j, none⟩ = (four (L.getD i default))[j]? := fun j hj => (World.ownsRow.cellAt hr (i * 4 + j) (by omega)).trans (cellsO_at L hi hj)
      refine ⟨?_, ?_, ?_, ?_, k.wl, k.we, k.ky, k.rs, k.wi⟩
      · rw [Nat.zero_add]; exact cc 0 (by omega)
      · rw [Nat.zero_add]; exact cc 1 (by omega)
      · rw [Nat.zero_add]; exact cc 2 (by omega)
      · rw [Nat.zero_add]; exact cc 3 (by omega)
theorem row_turn {w w' : World} {g base e s n : Nat} {v : Value} {xs : List Value} (h : w.ownsRow base e s v n xs) (t : Turn g w w') (hg : g < base) : w'.ownsRow base e s v n xs := by
  obtain ⟨h0, h | ⟨g2, cap, cur, hv, hgg, hh, r⟩⟩ := h
  · exact ⟨h0, Or.inl h⟩
  · have hlt : g2 < w.heap.size := (Array.getElem?_eq_some_iff.1 hh).1
    exact ⟨h0, Or.inr ⟨g2, cap, cur, hv, hgg, by rw [t.block g2 hlt (by omega)]; exact hh, r⟩⟩
theorem OwnO.turn {w w' : World} {g base : Nat} {v : Value} {L : List ObV} (h : OwnO w base v L) (t : Turn g w w') (hg : g < base) : OwnO w' base v L :=
  ⟨row_turn h.row t hg, fun c hc => ⟨(h.ea c hc).wl, (h.ea c hc).we, (h.ea c hc).ky, (h.ea c hc).rs.turn t (fun k hk => by have := (h.ap c hc k hk).1; omega), (h.ea c hc).wi⟩, fun c hc k hk => ⟨(h.ap c hc k hk).1, Nat.lt_of_lt_of_le (h.ap c hc k hk).2.1 t.size, (h.ap c hc k hk).2.2⟩⟩
theorem info_obj16 : (Try.prog.info? 62).map (fun i => (i.zero, i.size, i.bytes)) = some (some (.agg #[.string ⟨#[]⟩, .int .i64 0, .int .i64 0, .slice none 0 0]), 4, 56) := by kernel_rfl
theorem info_obj16' : ∃ i, Try.prog.info? 62 = some i ∧ i.zero = some (.agg #[.string ⟨#[]⟩, .int .i64 0, .int .i64 0, .slice none 0 0]) ∧ i.size = 4 ∧ i.bytes = 56 := by
  have h := info_obj16
  cases e : Try.prog.info? 62 with
  | none => rw [e] at h; cases h
  | some i =>
    rw [e] at h
    simp only [Option.map_some, Option.some.injEq, Prod.mk.injEq] at h
    exact ⟨i, rfl, h.1, h.2.1, h.2.2⟩
/-- 'append(l, o)', as a run -/
theorem run_append_o {w W : World} {base b : Nat} {v : Value} {L : List ObV} {c : ObV} (ty : TypeId) (h : OwnO w base v L) (hc : ObOk w c) (ha : ∀ k, c.vs.ownBlock = some k → base ≤ k ∧ k < w.heap.size ∧ v.ownBlock ≠ some k) (hv1 : c.vs.oneCell' = true) (hW : W = w.alloc (.cells #[sv c.o.key, .int .i64 c.o.len, .int .i64 c.o.ep, c.vs] 62)) (hb : b = w.heap.size) (hl : L.length ≤ 100000) (hbase : base ≤ w.heap.size) :
    ∃ v' w', (Builtin.append_ #[37, 37] ty #[v, .slice (some ⟨b, 0, none⟩) 1 1]).run Try.prog W = .ok v' w' ∧ OwnO w' base v' (L ++ [c]) ∧ Gro w v w' v' := by
  subst hW hb
  obtain ⟨i, hi, hz, hs, hy⟩ := info_obj16'
  obtain ⟨v', w', hrun, h2, h3, _, h5⟩ := run_append_own_at (P := Try.prog) (w.alloc (.cells #[sv c.o.key, .int .i64 c.o.len, .int .i64 c.o.ep, c.vs] 62)) base 37 ty 62 i (.agg #[.string ⟨#[]⟩, .int .i64 0, .int .i64 0, .slice none 0 0]) 4 56 Try.underlying37 hi hz hs hy rfl (by decide) v L.length (cellsO L) (World.ownsRow.alloc h.row _) ⟨w.heap.size, 0, none⟩ 1 1 (four c) rfl
    (by intro j y hj; rw [add_at, Nat.zero_add, World.cell?_alloc_new, ← hj]; unfold four; simp) (by
      intro y hy
      simp only [four, List.mem_cons, List.not_mem_nil, or_false] at hy
      rcases hy with rfl | rfl | rfl | rfl
      · rfl
      · rfl
      · rfl
      · exact hv1) (by unfold maxLen; omega) (by omega) (by simp; omega)
  have G : Gro w v w' v' := (Gro.bel v (belR w _)).trans (Gro.of h3 h5)
  refine ⟨v', w', hrun, ⟨?_, ?_, ?_⟩, G⟩
  · rw [List.length_append, cellsO_append]
    have : cellsO [c] = four c := by show four c ++ [] = _; rw [List.append_nil]
    rw [this]; exact h2
  · intro d hd
    rcases List.mem_append.1 hd with hd | hd
    · have k := h.ea d hd
      exact ⟨k.wl, k.we, k.ky, k.rs.gro G (fun q hq => (h.ap d hd q hq).2.2), k.wi⟩
    · simp only [List.mem_singleton] at hd
      subst hd
      exact ⟨hc.wl, hc.we, hc.ky, hc.rs.gro G (fun q hq => (ha q hq).2.2), hc.wi⟩
  · intro d hd q hq
    have key : base ≤ q ∧ q < w.heap.size ∧ v.ownBlock ≠ some q := by
      rcases List.mem_append.1 hd with hd | hd
      · exact h.ap d hd q hq
      · simp only [List.mem_singleton] at hd
        subst hd
        exact ha q hq
    exact ⟨key.1, Nat.lt_of_lt_of_le key.2.1 G.gr.size, G.ne key.2.1 key.2.2⟩
theorem wpList_append_o {w W : World} {base b : Nat} {v : Value} {L : List ObV} {c : ObV} {ops : Array Oper} {rest : List Oper} {o : Oper} {a : Act} {Q : Exit → Act → World → Prop} (hgd : o.guard = none) (s x : Operand)
    (ho : o.op = .call { callee := .builtin .append, args := #[s, x], argTypes := #[37, 37] }) (hs : a.eval s = v) (hx : a.eval x = .slice (some ⟨b, 0, none⟩) 1 1)
    (h : OwnO w base v L) (hc : ObOk w c) (ha : ∀ k, c.vs.ownBlock = some k → base ≤ k ∧ k < w.heap.size ∧ v.ownBlock ≠ some k) (hv1 : c.vs.oneCell' = true) (hW : W = w.alloc (.cells #[sv c.o.key, .int .i64 c.o.len, .int .i64 c.o.ep, c.vs] 62)) (hb : b = w.heap.size) (hl : L.length ≤ 100000) (hbase : base ≤ w.heap.size)
    (k : ∀ v' w', OwnO w' base v' (L ++ [c]) → Gro w v w' v' → wpList Try.prog ops Q rest (a.put o.dst v') w') : wpList Try.prog ops Q (o :: rest) a W := by
  refine wpList_plain hgd fun K hK => ?_
  obtain ⟨v', w', hrun, h2, h3⟩ := run_append_o o.type h hc ha hv1 hW hb hl hbase
  unfold Oper.wp execOp
  simp only [ho, resolve, invoke, builtin, Sem.run_bind, Sem.run_pure, Result.andThen_ok, List.map_toArray, List.map_cons, List.map_nil, hs, hx, hrun]
  exact hK _ _ (k v' w' h2 h3)
end Go.Proofs.Ythmoiffkgcnjmaa.Gf

namespace Go.Proofs.Ythmoiffkgcnjmaa.Gf
set_option linter.unusedVariables false
set_option linter.unusedSimpArgs false
open Go.RowKit
/-- bytes begin with an object, whatever its epoch -/
def LxO (b : List UInt8) : Prop := 4 ≤ b.length ∧ NxR (b.drop 4) ∧ (raR (b.drop 4)).kind = 1
instance (b : List UInt8) : Decidable (LxO b) := inferInstanceAs (Decidable (_ ∧ _ ∧ _))
def unX : Nat → List UInt8 → Option (List ObS × List UInt8)
  | 0, b => some ([], b)
  | n + 1, b => if LxO b then (unX n (reO b)).map (fun x => (raO b :: x.1, x.2)) else none
theorem nx_lx {b : List UInt8} : NxO b ↔ LxO b ∧ (raO b).ep ≤ 2147483647 := by
  show _ ↔ _ ∧ ((nu b : Nat) : Int) ≤ _
  unfold NxO LxO
  constructor
  · rintro ⟨h1, h2, h3, h4⟩; exact ⟨⟨h1, h2, h4⟩, by omega⟩
  · rintro ⟨⟨h1, h2, h4⟩, h3⟩; exact ⟨h1, h2, by omega, h4⟩
theorem unX_unO {n : Nat} {b : List UInt8} {l : List ObS} {r : List UInt8} (h : unX n b = some (l, r)) (he : ∀ o ∈ l, o.ep ≤ 2147483647) : unO n b = some (l, r) := by
  induction n generalizing b l with
  | zero => exact h
  | succ n ih =>
    unfold unX at h
    by_cases q : LxO b
    · rw [if_pos q] at h
      cases e : unX n (reO b) with
      | none => rw [e] at h; cases h
      | some x =>
        obtain ⟨l', r'⟩ := x
        rw [e] at h
        simp only [Option.map_some, Option.some.injEq, Prod.mk.injEq] at h
        obtain ⟨rfl, rfl⟩ := h
        unfold unO
        rw [if_pos (nx_lx.2 ⟨q, he _ (List.mem_cons_self ..)⟩), ih e fun o ho => he o (List.mem_cons_of_mem _ ho)]
        rfl
    · rw [if_neg q] at h; cases h
theorem unO_unX {n : Nat} {b : List UInt8} {x : List ObS × List UInt8} (h : unO n b = some x) : unX n b = some x := by
  induction n generalizing b x with
  | zero => exact h
  | succ n ih =>
    unfold unO at h
    by_cases q : NxO b
    · rw [if_pos q] at h
      cases e : unO n (reO b) with
      | none => rw [e] at h; cases h
      | some y =>
        rw [e] at h
        unfold unX
        rw [if_pos (nx_lx.1 q).1, ih e]
        exact h
    · rw [if_neg q] at h; cases h
/-- one object more, behind those that were read -/
theorem unX_snoc {n : Nat} {b : List UInt8} {l : List ObS} {r : List UInt8} (h : unX n b = some (l, r)) : unX (n + 1) b = if LxO r then some (l ++ [raO r], reO r) else none := by
  induction n generalizing b l with
  | zero =>
    have h : some (([] : List ObS), b) = some (l, r) := h
    simp only [Option.some.injEq, Prod.mk.injEq] at h
    obtain ⟨rfl, rfl⟩ := h
    rfl
  | succ n ih =>
    unfold unX at h
    by_cases q : LxO b
    · rw [if_pos q] at h
      cases e : unX n (reO b) with
      | none => rw [e] at h; cases h
      | some x =>
        obtain ⟨l', r'⟩ := x
        rw [e] at h
        simp only [Option.map_some, Option.some.injEq, Prod.mk.injEq] at h
        obtain ⟨rfl, rfl⟩ := h
        show (if LxO b then (unX (n + 1) (reO b)).map (fun x => (raO b :: x.1, x.2)) else none) = _
        rw [if_pos q, ih e]
        by_cases q2 : LxO r'
        · rw [if_pos q2, if_pos q2]; rfl
        · rw [if_neg q2, if_neg q2]; rfl
    · rw [if_neg q] at h; cases h
theorem unX_none {n m : Nat} {b : List UInt8} (h : unX n b = none) (hm : n ≤ m) : unX m b = none := by
  induction n generalizing b m with
  | zero => cases h
  | succ n ih =>
    obtain ⟨m, rfl⟩ : ∃ k, m = k + 1 := ⟨m - 1, by omega⟩
    unfold unX at h ⊢
    by_cases q : LxO b
    · rw [if_pos q] at h ⊢
      cases e : unX n (reO b) with
      | none => rw [ih e (by omega)]; rfl
      | some x => rw [e] at h; cases h
    · rw [if_neg q]
theorem unX_rest {n : Nat} {b : List UInt8} {l : List ObS} {r : List UInt8} (h : unX n b = some (l, r)) : r.length ≤ b.length ∧ l.length = n := by
  induction n generalizing b l with
  | zero =>
    have h : some (([] : List ObS), b) = some (l, r) := h
    simp only [Option.some.injEq, Prod.mk.injEq] at h
    obtain ⟨rfl, rfl⟩ := h
    exact ⟨Nat.le_refl _, rfl⟩
  | succ n ih =>
    unfold unX at h
    by_cases q : LxO b
    · rw [if_pos q] at h
      cases e : unX n (reO b) with
      | none => rw [e] at h; cases h
      | some x =>
        obtain ⟨l', r'⟩ := x
        rw [e] at h
        simp only [Option.map_some, Option.some.injEq, Prod.mk.injEq] at h
        obtain ⟨rfl, rfl⟩ := h
        have := ih e
        refine ⟨Nat.le_trans this.1 ?_, by rw [List.length_cons, this.2]⟩
        unfold reO reR
        rw [List.length_drop, List.length_drop]
        omega
    · rw [if_neg q] at h; cases h
/-- what all bytes of a snap are read as -/
def IsB (p : List UInt8) (l : List ObS) : Prop := 2 ≤ p.length ∧ unX (un p) (p.drop 2) = some (l, []) ∧ MayL l
theorem isB_isP {p q : List UInt8} {l : List ObS} : IsP [p, q] l ↔ CutP p q ∧ IsB (p ++ q) l := by
  constructor
  · rintro ⟨p', q', e, h1, h2, h3, h4⟩
    simp only [List.cons.injEq, and_true] at e
    obtain ⟨rfl, rfl⟩ := e
    exact ⟨h1, h2, unO_unX h3, h4⟩
  · rintro ⟨h1, h2, h3, h4⟩
    exact ⟨p, q, rfl, h1, h2, unX_unO h3 fun o ho => (h4.all ho).2.2, h4⟩
end Go.Proofs.Ythmoiffkgcnjmaa.Gf
