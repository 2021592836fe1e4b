/- TEXTS JOINED: ReCG, ReXO, ReCK. -/
import Derived.Recover
import Derived.Test.YtclieefpnbdbjaaGreatRome24
namespace Go.Proofs.YtclieefpnbdbjaaGreat.Gf
set_option linter.unusedVariables false
set_option linter.unusedSimpArgs false
open Go.RowKit
theorem rcl16_pan {eb : Nat} {x : Int} {w : World} (hc : w.cell? ⟨eb, 0, none⟩ = some (.int .i64 x)) (hz : w.frozen? ⟨eb, 0, none⟩ = false) :
    CallsD Tryz.prog 191 #[.pointer (some ⟨eb, 0, none⟩)] (.panicking pz16) w fun e u' w' => e = .returned (.tuple #[]) ∧ u' = .panicking [{ v := .iface 28 (.int .i64 160), recovered := true }] ∧ w' = w.setCell ⟨eb, 0, none⟩ (.int .i64 160) := by
  have hta : ∀ w, (Instr.typeAssert (.iface 28 (.int .i64 160)) 20 28 false).run Tryz.prog w = .ok (.int .i64 160) w := fun _ => by kernel_rfl
  refine callsD_of_wpS Tryz.func191 rfl fun c₀ cs hu => ?_
  unfold pz16 at hu
  apply wpS_seq
  apply wpS_region
  simp [wpOpsS, go_sem, recoverD, hu, Tryz.ntmps191, Exit.thenS]
  refine wpS_of_wp ?_
  rw [show (#[Value.pointer (some ⟨eb, 0, none⟩)] ++ ((Array.replicate 6 undef).setIfInBounds 1 (Value.iface 28 (.int .i64 160))).setIfInBounds 0 (Value.iface 28 (.int .i64 160))) = #[Value.pointer (some ⟨eb, 0, none⟩), .iface 28 (.int .i64 160), .iface 28 (.int .i64 160), undef, undef, undef, undef] from rfl]
  go_wp2
  exact ⟨rfl, _, rfl, .tuple #[], by simp [results, Tryz.results191, go_sem], rfl, rfl, rfl⟩
theorem rcl16_ret {eb : Nat} {w : World} :
    CallsD Tryz.prog 191 #[.pointer (some ⟨eb, 0, none⟩)] .returning w fun e u' w' => e = .returned (.tuple #[]) ∧ u' = .returning ∧ w' = w := by
  refine callsD_of_wpS Tryz.func191 rfl fun c₀ cs hu => ?_
  apply wpS_seq
  apply wpS_region
  simp [wpOpsS, go_sem, recoverD, hu, Tryz.ntmps191, Exit.thenS]
  refine wpS_of_wp ?_
  rw [show (#[Value.pointer (some ⟨eb, 0, none⟩)] ++ ((Array.replicate 6 undef).setIfInBounds 1 Value.nilIface).setIfInBounds 0 Value.nilIface) = #[Value.pointer (some ⟨eb, 0, none⟩), .nilIface, .nilIface, undef, undef, undef, undef] from rfl]
  go_wp2
  cases c₀
  simp_all [bodyPostS, results, Tryz.results191]
theorem RdI.only {g : Nat} {w w' : World} {v : Value} {zs : List Int} (h : RdI w v zs) (hne : v.ownBlock ≠ some g) (o : Only g w w') : RdI w' v zs := by
  rcases h with h | ⟨b, off, cap, h1, rfl, h3, h5, h6⟩
  · exact Or.inl h
  · have hb : b ≠ g := fun e => hne (by rw [e]; rfl)
    exact Or.inr ⟨b, off, cap, h1, rfl, h3, by rw [o.size]; exact h5, fun i hi => (o.cell (p := ⟨b, off + i, none⟩) hb).trans (h6 i hi)⟩
theorem rw_pan {p : Prop} (h : p := by
  obtain ⟨kA, kE, fE, B4⟩ := AF.out w4 t4
  have HX1 := HX.out
  have HR1 := HR.out
  rw [if_neg nI.out] at HX1 HR1
  subst HX1 HR1
  have kB : ∀ j, (w4.setCell ⟨w.heap.size + 1, 0, none⟩ (.int .i64 160)).cell? ⟨w.heap.size, j, none⟩ = #[Value.int .i64 0, .string ⟨#[]⟩, .int .i64 0, .slice none 0 0][j]? := fun j => (World.cell?_setCell_other _ _ _ _ (by simp)).trans (kA j).1
  have k0 := kB 0
  have k1 := kB 1
  have k2 := kB 2
  have k3 := kB 3
  have kZ := World.cell?_setCell_same w4 ⟨w.heap.size + 1, 0, none⟩ (.int .i64 160) kE
  simp at k0 k1 k2 k3
  have FIN : Hid (MakesD16 w 160 noR (.returned (.tuple #[.agg #[.int .i64 0, .string ⟨#[]⟩, .int .i64 0, .slice none 0 0], .int .i64 160])) (w4.setCell ⟨w.heap.size + 1, 0, none⟩ (.int .i64 160))) := ⟨⟨noR, .slice none 0 0⟩, rfl, rfl, noR_in _, B4.setCell (Nat.le_succ _) _, fun k hk => by cases hk⟩
  refine leaves_cons (f := 191) (args := #[.pointer (some ⟨w.heap.size + 1, 0, none⟩)]) (by simp) (by simp [go_sem]) ?_
  refine (rcl16_pan kE fE).mono ?_
  rintro e u' w'' ⟨rfl, rfl, rfl⟩
  exact ⟨.tuple #[.agg #[.int .i64 0, .string ⟨#[]⟩, .int .i64 0, .slice none 0 0], .int .i64 160], by simp [results, Tryz.results166, go_sem, k0, k1, k2, k3, kZ], FIN.out⟩) : p := h
set_option maxRecDepth 100000 in
set_option maxHeartbeats 4000000 in
theorem rw16_any {w : World} {v : Value} {p : List UInt8} (R : Rd w v p) (hp : p.length ≤ 100000) {X : Int} (hX : (if IsR p then (0 : Int) else 160) = X) {r : RcS} (hr : (if IsR p then raR p else noR) = r) : Calls Tryz.prog 166 #[v, .func (.func 167) #[] #[]] w (MakesD16 w X r) := by
  obtain ⟨a, cp, e⟩ := R.form
  subst e
  have HX : Hid ((if IsR p then (0 : Int) else 160) = X) := hX
  have HR : Hid ((if IsR p then raR p else noR) = r) := hr
  clear hX hr
  have hmf : ∀ (fn : Fn) (first cap : Array Value) (w : World), (Instr.makeFunc fn first cap).run Tryz.prog w = .ok (.func fn first cap) w := fun _ _ _ _ => rfl
  obtain ⟨w3, hw3⟩ : ∃ w3, w3 = ((w.alloc (.cells #[.int .i64 0, .string ⟨#[]⟩, .int .i64 0, .slice none 0 0] 38)).alloc (.cells #[.int .i64 0] 28)).alloc (.cells #[.slice a p.length cp] 238) := ⟨_, rfl⟩
  have s3 : w3.heap.size = w.heap.size + 3 := by rw [hw3]; simp
  have B3 : Below w.heap.size w w3 := by rw [hw3]; exact ((belR _ _).trans ((belR _ _).mono (by simp))).trans ((belR _ _).mono (by simp; omega))
  have cA : ∀ j, w3.cell? ⟨w.heap.size, j, none⟩ = #[Value.int .i64 0, .string ⟨#[]⟩, .int .i64 0, .slice none 0 0][j]? := fun j => by
    rw [hw3, World.cell?_alloc_lt _ _ _ (by simp; omega), World.cell?_alloc_lt _ _ _ (by simp), World.cell?_alloc_new]
  have cE : w3.cell? ⟨w.heap.size + 1, 0, none⟩ = some (.int .i64 0) := by
    rw [hw3, World.cell?_alloc_lt _ _ _ (by simp), show w.heap.size + 1 = (w.alloc (.cells #[.int .i64 0, .string ⟨#[]⟩, .int .i64 0, .slice none 0 0] 38)).heap.size by simp, World.cell?_alloc_new]
    rfl
  have cR : w3.cell? ⟨w.heap.size + 1 + 1, 0, none⟩ = some (.slice a p.length cp) := by
    rw [hw3, show w.heap.size + 1 + 1 = ((w.alloc (.cells #[.int .i64 0, .string ⟨#[]⟩, .int .i64 0, .slice none 0 0] 38)).alloc (.cells #[.int .i64 0] 28)).heap.size by simp, World.cell?_alloc_new]
    rfl
  have fA : ∀ j, w3.frozen? ⟨w.heap.size, j, none⟩ = false := fun j => by rw [hw3]; simp [go_sem]
  have fE : w3.frozen? ⟨w.heap.size + 1, 0, none⟩ = false := by rw [hw3]; simp [go_sem]
  have fR : w3.frozen? ⟨w.heap.size + 1 + 1, 0, none⟩ = false := by rw [hw3]; simp [go_sem]
  have r3 : RdrAt w (w.heap.size + 1 + 1) w3 p := ⟨⟨_, cR, R⟩, fR, B3, by omega⟩
  have AF : Hid (∀ W, Turn (w.heap.size + 1 + 1) w3 W → (∀ j, W.cell? ⟨w.heap.size, j, none⟩ = #[Value.int .i64 0, .string ⟨#[]⟩, .int .i64 0, .slice none 0 0][j]? ∧ W.frozen? ⟨w.heap.size, j, none⟩ = false) ∧ W.cell? ⟨w.heap.size + 1, 0, none⟩ = some (.int .i64 0) ∧ W.frozen? ⟨w.heap.size + 1, 0, none⟩ = false ∧ Below w.heap.size w W) := fun W t => ⟨fun j => ⟨(t.cell (p := ⟨w.heap.size, j, none⟩) (by show w.heap.size < _; omega) (by show w.heap.size ≠ _; omega)).trans (cA j), (t.frozen (p := ⟨w.heap.size, j, none⟩) (by show w.heap.size < _; omega) (by show w.heap.size ≠ _; omega)).trans (fA j)⟩, (t.cell (p := ⟨w.heap.size + 1, 0, none⟩) (by show w.heap.size + 1 < _; omega) (by show w.heap.size + 1 ≠ _; omega)).trans cE, (t.frozen (p := ⟨w.heap.size + 1, 0, none⟩) (by show w.heap.size + 1 < _; omega) (by show w.heap.size + 1 ≠ _; omega)).trans fE, B3.trans (t.below (by omega) (by omega))⟩
  have S3 : Hid (w3.heap.size = w.heap.size + 3) := s3
  have K := rrec16_any r3 hp
  clear cA cE cR fA fE fR R s3
  go_enter_defers Tryz.func166, Tryz.ntmps166
  go_wp2_with fail
  rw [← hw3]
  clear hw3
  refine K.mono ?_
  rintro _ w4 (⟨hn, c, rfl, hc, hi, hf, r4, t4⟩ | ⟨hn, rfl, t4⟩)
  rotate_left
  · have nI : Hid (¬ IsR p) := fun q => hn q.1
    exact rw_pan
  obtain ⟨⟨kd, ky, ln, st⟩, vs⟩ := c
  obtain ⟨va, vc, ev⟩ := hi.rs.form
  simp only at ev hc
  subst ev
  have HF : Hid (∀ g, g < w.heap.size + 3 → (Value.slice va st.length vc).ownBlock ≠ some g) := fun g hg e => by
    have := (hf g e).1
    have := S3.out
    omega
  clear hf
  rw [show aggR ⟨⟨kd, ky, ln, st⟩, .slice va st.length vc⟩ = .agg #[.int .i64 kd, .string ⟨ky.toArray⟩, .int .i64 ln, .slice va st.length vc] from rfl]
  obtain ⟨w5, hw5⟩ : ∃ w5, w5 = w4.alloc (.cells #[.int .i64 kd, .string ⟨ky.toArray⟩, .int .i64 ln, .slice va st.length vc] 38) := ⟨_, rfl⟩
  have B5 : Below w4.heap.size w4 w5 := by rw [hw5]; exact belR _ _
  have r5 := r4.below B5
  have t5 : Turn (w.heap.size + 1 + 1) w3 w5 := t4.trans (Below.turn B5 _)
  have g0 : w5.cell? ⟨w4.heap.size, 0, none⟩ = some (.int .i64 kd) := by rw [hw5, World.cell?_alloc_new]; rfl
  have g1 : w5.cell? ⟨w4.heap.size, 1, none⟩ = some (.string ⟨ky.toArray⟩) := by rw [hw5, World.cell?_alloc_new]; rfl
  have g2 : w5.cell? ⟨w4.heap.size, 2, none⟩ = some (.int .i64 ln) := by rw [hw5, World.cell?_alloc_new]; rfl
  have g3 : w5.cell? ⟨w4.heap.size, 3, none⟩ = some (.slice va st.length vc) := by rw [hw5, World.cell?_alloc_new]; rfl
  have i5 := hi.below B5
  obtain ⟨u, cu, Ru⟩ := r5.at0
  obtain ⟨ua, uc, eu⟩ := Ru.form
  subst eu
  rw [hw5] at cu
  have EN : Hid (IsR p ↔ (reR p).length = 0) := ⟨fun q => by rw [q.2]; rfl, fun q => ⟨hn, List.length_eq_zero_iff.1 q⟩⟩
  have RD5 : Hid (Rd w (.slice ua (reR p).length uc) (reR p)) := Ru
  generalize hm : (reR p).length = m at cu EN
  clear Ru RD5 hm r4 hi K r3
  by_cases h0 : (m : Int) = 0
  rotate_left
  · have nI : Hid (¬ IsR p) := fun q => h0 (by rw [EN.out.1 q]; rfl)
    clear r5 g0 g1 g2 g3 i5 t4
    go_wp2_with fail
    rw [← hw5]
    clear hw5 cu
    refine (ask16_no (beq_eq_false_iff_ne.2 h0)).mono ?_
    rintro _ w4 ⟨rfl, rfl⟩
    have t4 := t5
    exact rw_pan
  · have yI : Hid (IsR p) := EN.out.2 (by omega)
    have HX1 := HX.out
    have HR1 := HR.out
    rw [if_pos yI.out] at HX1 HR1
    subst HX1 HR1
    obtain ⟨kA, kE, fE, BW⟩ := AF.out w5 t5
    obtain ⟨m0, f0⟩ := kA 0
    obtain ⟨m1, f1⟩ := kA 1
    obtain ⟨m2, f2⟩ := kA 2
    obtain ⟨m3, f3⟩ := kA 3
    simp at m0 m1 m2 m3
    clear kA r5 t4
    go_wp2_with fail
    rw [← hw5]
    clear hw5 cu
    refine (ask16_yes rfl).mono ?_
    rintro _ w6 ⟨rfl, rfl⟩
    obtain ⟨W, hW⟩ : ∃ W, W = (((w6.setCell ⟨w.heap.size, 0, none⟩ (.int .i64 kd)).setCell ⟨w.heap.size, 1, none⟩ (.string ⟨ky.toArray⟩)).setCell ⟨w.heap.size, 2, none⟩ (.int .i64 ln)).setCell ⟨w.heap.size, 3, none⟩ (.slice va st.length vc) := ⟨_, rfl⟩
    obtain ⟨OA, n0, n1, n2, n3⟩ := set4 (a := .int .i64 kd) (b := .string ⟨ky.toArray⟩) (c := .int .i64 ln) (d := .slice va st.length vc) m0 m1 m2 m3
    rw [← hW] at OA n0 n1 n2 n3
    have OE : Only (w.heap.size + 1) W (W.setCell ⟨w.heap.size + 1, 0, none⟩ (.int .i64 0)) := (Only.refl _ _).setCell _ _
    have kE2 : W.cell? ⟨w.heap.size + 1, 0, none⟩ = some (.int .i64 0) := (OA.cell (p := ⟨w.heap.size + 1, 0, none⟩) (Nat.succ_ne_self _)).trans kE
    have fE2 : W.frozen? ⟨w.heap.size + 1, 0, none⟩ = false := (OA.frozen (p := ⟨w.heap.size + 1, 0, none⟩) (Nat.succ_ne_self _)).trans fE
    have e5 := World.cell?_setCell_same W ⟨w.heap.size + 1, 0, none⟩ (.int .i64 0) kE2
    have n0' := (OE.cell (p := ⟨w.heap.size, 0, none⟩) (Nat.succ_ne_self _).symm).trans n0
    have n1' := (OE.cell (p := ⟨w.heap.size, 1, none⟩) (Nat.succ_ne_self _).symm).trans n1
    have n2' := (OE.cell (p := ⟨w.heap.size, 2, none⟩) (Nat.succ_ne_self _).symm).trans n2
    have n3' := (OE.cell (p := ⟨w.heap.size, 3, none⟩) (Nat.succ_ne_self _).symm).trans n3
    have FIN : Hid (MakesD16 w 0 (raR p) (.returned (.tuple #[.agg #[.int .i64 kd, .string ⟨ky.toArray⟩, .int .i64 ln, .slice va st.length vc], .int .i64 0])) (W.setCell ⟨w.heap.size + 1, 0, none⟩ (.int .i64 0))) := by
      refine ⟨⟨⟨kd, ky, ln, st⟩, .slice va st.length vc⟩, rfl, hc, ⟨i5.wk, i5.wl, i5.ky, ?_, i5.wi⟩, (BW.trans (OA.below (Nat.le_refl _))).trans (OE.below (Nat.le_succ _)), fun k hk => Nat.le_of_not_lt fun q => HF.out k (by omega) hk⟩
      exact (i5.rs.only (HF.out _ (by omega)) OA).only (HF.out _ (by omega)) OE
    clear i5 OA OE BW
    go_wp2
    rw [← hW]
    clear hW
    refine leaves_cons (f := 191) (args := #[.pointer (some ⟨w.heap.size + 1, 0, none⟩)]) (by simp) (by simp [go_sem]) ?_
    refine rcl16_ret.mono ?_
    rintro e u' w'' ⟨rfl, rfl, rfl⟩
    exact ⟨.tuple #[.agg #[.int .i64 kd, .string ⟨ky.toArray⟩, .int .i64 ln, .slice va st.length vc], .int .i64 0], by simp [results, Tryz.results166, go_sem, n0', n1', n2', n3', e5], FIN.out⟩
set_option maxRecDepth 100000 in
set_option maxHeartbeats 1000000 in
theorem dec16_any {w : World} {v : Value} {p : List UInt8} (R : Rd w v p) (hp : p.length ≤ 100000) {X : Int} (hX : (if IsR p then (0 : Int) else 160) = X) {r : RcS} (hr : (if IsR p then raR p else noR) = r) : Calls Tryz.prog 118 #[v] w (MakesD16 w X r) := by
  obtain ⟨a, cp, e⟩ := R.form
  subst e
  obtain ⟨w1, hw1⟩ : ∃ w1, w1 = w.alloc (.cells #[.int .i64 0, .string ⟨#[]⟩, .int .i64 0, .slice none 0 0] 38) := ⟨_, rfl⟩
  have B1 : Below w.heap.size w w1 := by rw [hw1]; exact belR _ _
  have s1 : w.heap.size < w1.heap.size := by rw [hw1]; show w.heap.size < (w.heap.push _).size; rw [Array.size_push]; exact Nat.lt_succ_self _
  have cA : ∀ j, w1.cell? ⟨w.heap.size, j, none⟩ = #[Value.int .i64 0, .string ⟨#[]⟩, .int .i64 0, .slice none 0 0][j]? := fun j => by rw [hw1, World.cell?_alloc_new]
  have fA : ∀ j, w1.frozen? ⟨w.heap.size, j, none⟩ = false := fun j => by rw [hw1]; simp [go_sem]
  have K := rw16_any (R.below B1) hp hX hr
  clear hX hr R
  go_enter Tryz.func118, Tryz.ntmps118
  go_wp2_with fail
  rw [← hw1]
  clear hw1
  refine K.mono ?_
  rintro _ w2 ⟨c, rfl, hc, hi, B2, hf⟩
  clear K
  obtain ⟨⟨kd, ky, ln, st⟩, vs⟩ := c
  obtain ⟨va, vc, ev⟩ := hi.rs.form
  simp only at ev hc
  subst ev
  rw [show aggR ⟨⟨kd, ky, ln, st⟩, .slice va st.length vc⟩ = .agg #[.int .i64 kd, .string ⟨ky.toArray⟩, .int .i64 ln, .slice va st.length vc] from rfl]
  have m0 := (B2.cell (p := ⟨w.heap.size, 0, none⟩) s1).trans (cA 0)
  have m1 := (B2.cell (p := ⟨w.heap.size, 1, none⟩) s1).trans (cA 1)
  have m2 := (B2.cell (p := ⟨w.heap.size, 2, none⟩) s1).trans (cA 2)
  have m3 := (B2.cell (p := ⟨w.heap.size, 3, none⟩) s1).trans (cA 3)
  have f0 := (B2.frozen (p := ⟨w.heap.size, 0, none⟩) s1).trans (fA 0)
  have f1 := (B2.frozen (p := ⟨w.heap.size, 1, none⟩) s1).trans (fA 1)
  have f2 := (B2.frozen (p := ⟨w.heap.size, 2, none⟩) s1).trans (fA 2)
  have f3 := (B2.frozen (p := ⟨w.heap.size, 3, none⟩) s1).trans (fA 3)
  simp at m0 m1 m2 m3
  clear cA fA
  obtain ⟨W, hW⟩ : ∃ W, W = (((w2.setCell ⟨w.heap.size, 0, none⟩ (.int .i64 kd)).setCell ⟨w.heap.size, 1, none⟩ (.string ⟨ky.toArray⟩)).setCell ⟨w.heap.size, 2, none⟩ (.int .i64 ln)).setCell ⟨w.heap.size, 3, none⟩ (.slice va st.length vc) := ⟨_, rfl⟩
  obtain ⟨OA, n0, n1, n2, n3⟩ := set4 (a := .int .i64 kd) (b := .string ⟨ky.toArray⟩) (c := .int .i64 ln) (d := .slice va st.length vc) m0 m1 m2 m3
  rw [← hW] at OA n0 n1 n2 n3
  have FIN : Hid (MakesD16 w X r (.returned (.tuple #[.agg #[.int .i64 kd, .string ⟨ky.toArray⟩, .int .i64 ln, .slice va st.length vc], .int .i64 X])) W) := ⟨⟨⟨kd, ky, ln, st⟩, .slice va st.length vc⟩, rfl, hc, ⟨hi.wk, hi.wl, hi.ky, hi.rs.only (fun e => by have := hf _ e; omega) OA, hi.wi⟩, (B1.step16 B2 (Nat.le_of_lt s1)).trans (OA.below (Nat.le_refl _)), fun k hk => by have := hf k hk; omega⟩
  clear OA B1 B2 hi hf
  go_wp2
  rw [← hW]
  clear hW
  exact bodyPost_ret (v := .tuple #[.agg #[.int .i64 kd, .string ⟨ky.toArray⟩, .int .i64 ln, .slice va st.length vc], .int .i64 X]) (by simp [results, Tryz.results118, go_sem, n0, n1, n2, n3]) rfl FIN.out
end Go.Proofs.YtclieefpnbdbjaaGreat.Gf

namespace Go.Proofs.YtclieefpnbdbjaaGreat.Gf
set_option linter.unusedVariables false
set_option linter.unusedSimpArgs false
open Go.RowKit
/-- bytes begin with an object, whatever its epoch -/
def LxO (b : List UInt8) : Prop := 4 ≤ b.length ∧ NxR (b.drop 4) ∧ (raR (b.drop 4)).kind = 1
instance (b : List UInt8) : Decidable (LxO b) := inferInstanceAs (Decidable (_ ∧ _ ∧ _))
def unX : Nat → List UInt8 → Option (List ObS × List UInt8)
  | 0, b => some ([], b)
  | n + 1, b => if LxO b then (unX n (reO b)).map (fun x => (raO b :: x.1, x.2)) else none
theorem nx_lx {b : List UInt8} : NxO b ↔ LxO b ∧ (raO b).ep ≤ 2147483647 := by
  show _ ↔ _ ∧ ((nu b : Nat) : Int) ≤ _
  unfold NxO LxO
  constructor
  · rintro ⟨h1, h2, h3, h4⟩; exact ⟨⟨h1, h2, h4⟩, by omega⟩
  · rintro ⟨⟨h1, h2, h4⟩, h3⟩; exact ⟨h1, h2, by omega, h4⟩
theorem unX_unO {n : Nat} {b : List UInt8} {l : List ObS} {r : List UInt8} (h : unX n b = some (l, r)) (he : ∀ o ∈ l, o.ep ≤ 2147483647) : unO n b = some (l, r) := by
  induction n generalizing b l with
  | zero => exact h
  | succ n ih =>
    unfold unX at h
    by_cases q : LxO b
    · rw [if_pos q] at h
      cases e : unX n (reO b) with
      | none => rw [e] at h; cases h
      | some x =>
        obtain ⟨l', r'⟩ := x
        rw [e] at h
        simp only [Option.map_some, Option.some.injEq, Prod.mk.injEq] at h
        obtain ⟨rfl, rfl⟩ := h
        unfold unO
        rw [if_pos (nx_lx.2 ⟨q, he _ (List.mem_cons_self ..)⟩), ih e fun o ho => he o (List.mem_cons_of_mem _ ho)]
        rfl
    · rw [if_neg q] at h; cases h
theorem unO_unX {n : Nat} {b : List UInt8} {x : List ObS × List UInt8} (h : unO n b = some x) : unX n b = some x := by
  induction n generalizing b x with
  | zero => exact h
  | succ n ih =>
    unfold unO at h
    by_cases q : NxO b
    · rw [if_pos q] at h
      cases e : unO n (reO b) with
      | none => rw [e] at h; cases h
      | some y =>
        rw [e] at h
        unfold unX
        rw [if_pos (nx_lx.1 q).1, ih e]
        exact h
    · rw [if_neg q] at h; cases h
/-- one object more, behind those that were read -/
theorem unX_snoc {n : Nat} {b : List UInt8} {l : List ObS} {r : List UInt8} (h : unX n b = some (l, r)) : unX (n + 1) b = if LxO r then some (l ++ [raO r], reO r) else none := by
  induction n generalizing b l with
  | zero =>
    have h : some (([] : List ObS), b) = some (l, r) := h
    simp only [Option.some.injEq, Prod.mk.injEq] at h
    obtain ⟨rfl, rfl⟩ := h
    rfl
  | succ n ih =>
    unfold unX at h
    by_cases q : LxO b
    · rw [if_pos q] at h
      cases e : unX n (reO b) with
      | none => rw [e] at h; cases h
      | some x =>
        obtain ⟨l', r'⟩ := x
        rw [e] at h
        simp only [Option.map_some, Option.some.injEq, Prod.mk.injEq] at h
        obtain ⟨rfl, rfl⟩ := h
        show (if LxO b then (unX (n + 1) (reO b)).map (fun x => (raO b :: x.1, x.2)) else none) = _
        rw [if_pos q, ih e]
        by_cases q2 : LxO r'
        · rw [if_pos q2, if_pos q2]; rfl
        · rw [if_neg q2, if_neg q2]; rfl
    · rw [if_neg q] at h; cases h
theorem unX_none {n m : Nat} {b : List UInt8} (h : unX n b = none) (hm : n ≤ m) : unX m b = none := by
  induction n generalizing b m with
  | zero => cases h
  | succ n ih =>
    obtain ⟨m, rfl⟩ : ∃ k, m = k + 1 := ⟨m - 1, by omega⟩
    unfold unX at h ⊢
    by_cases q : LxO b
    · rw [if_pos q] at h ⊢
      cases e : unX n (reO b) with
      | none => rw [ih e (by omega)]; rfl
      | some x => rw [e] at h; cases h
    · rw [if_neg q]
theorem unX_rest {n : Nat} {b : List UInt8} {l : List ObS} {r : List UInt8} (h : unX n b = some (l, r)) : r.length ≤ b.length ∧ l.length = n := by
  induction n generalizing b l with
  | zero =>
    have h : some (([] : List ObS), b) = some (l, r) := h
    simp only [Option.some.injEq, Prod.mk.injEq] at h
    obtain ⟨rfl, rfl⟩ := h
    exact ⟨Nat.le_refl _, rfl⟩
  | succ n ih =>
    unfold unX at h
    by_cases q : LxO b
    · rw [if_pos q] at h
      cases e : unX n (reO b) with
      | none => rw [e] at h; cases h
      | some x =>
        obtain ⟨l', r'⟩ := x
        rw [e] at h
        simp only [Option.map_some, Option.some.injEq, Prod.mk.injEq] at h
        obtain ⟨rfl, rfl⟩ := h
        have := ih e
        refine ⟨Nat.le_trans this.1 ?_, by rw [List.length_cons, this.2]⟩
        unfold reO reR
        rw [List.length_drop, List.length_drop]
        omega
    · rw [if_neg q] at h; cases h
/-- what all bytes of a snap are read as -/
def IsB (p : List UInt8) (l : List ObS) : Prop := 2 ≤ p.length ∧ unX (un p) (p.drop 2) = some (l, []) ∧ MayL l
theorem isB_isP {p q : List UInt8} {l : List ObS} : IsP [p, q] l ↔ CutP p q ∧ IsB (p ++ q) l := by
  constructor
  · rintro ⟨p', q', e, h1, h2, h3, h4⟩
    simp only [List.cons.injEq, and_true] at e
    obtain ⟨rfl, rfl⟩ := e
    exact ⟨h1, h2, unO_unX h3, h4⟩
  · rintro ⟨h1, h2, h3, h4⟩
    exact ⟨p, q, rfl, h1, h2, unX_unO h3 fun o ho => (h4.all ho).2.2, h4⟩
end Go.Proofs.YtclieefpnbdbjaaGreat.Gf

namespace Go.Proofs.YtclieefpnbdbjaaGreat.Gf
set_option linter.unusedVariables false
set_option linter.unusedSimpArgs false
open Go.RowKit
/-- an object that was read, or none -/
def ReadsX16 (w0 : World) (rb : Nat) (w : World) (p : List UInt8) (e : Ending) (w' : World) : Prop :=
  (LxO p ∧ ∃ c : ObV, e = .returned (aggO c) ∧ c.o = raO p ∧ ObOk w' c ∧ (∀ k, c.vs.ownBlock = some k → w.heap.size ≤ k ∧ k < w'.heap.size) ∧ RdrAt w0 rb w' (reO p) ∧ Turn rb w w') ∨ (¬ LxO p ∧ e = .panicked pz16 ∧ Turn rb w w')
theorem ReadsX16.no {w0 : World} {rb : Nat} {w : World} {p : List UInt8} {w' : World} (h : ¬ LxO p) (t : Turn rb w w') : ReadsX16 w0 rb w p (.panicked pz16) w' := Or.inr ⟨h, rfl, t⟩
set_option maxRecDepth 100000 in
set_option maxHeartbeats 4000000 in
theorem robj16_any {w0 w : World} {rb : Nat} {p : List UInt8} (h : RdrAt w0 rb w p) (hp : p.length ≤ 100000) : Calls Tryz.prog 186 #[.pointer (some ⟨rb, 0, none⟩)] w (ReadsX16 w0 rb w p) := by
  obtain ⟨w1, hw1⟩ : ∃ w1, w1 = w.alloc (.cells #[.string ⟨#[]⟩, .int .i64 0, .int .i64 0, .slice none 0 0] 92) := ⟨_, rfl⟩
  have s1 : w1.heap.size = w.heap.size + 1 := by rw [hw1]; simp
  have lr := h.lt
  have lo := h.lo
  have sz := h.bl.size
  have B1 : Below w.heap.size w w1 := by rw [hw1]; exact belR _ _
  have cA : ∀ j, w1.cell? ⟨w.heap.size, j, none⟩ = #[Value.string ⟨#[]⟩, .int .i64 0, .int .i64 0, .slice none 0 0][j]? := fun j => by rw [hw1, World.cell?_alloc_new]
  have fA : ∀ j, w1.frozen? ⟨w.heap.size, j, none⟩ = false := fun j => by rw [hw1]; simp [go_sem]
  have r1 := h.below B1
  have AF : Hid (∀ W, Turn rb w1 W → (∀ j, W.cell? ⟨w.heap.size, j, none⟩ = #[Value.string ⟨#[]⟩, .int .i64 0, .int .i64 0, .slice none 0 0][j]? ∧ W.frozen? ⟨w.heap.size, j, none⟩ = false) ∧ Turn rb w W) := fun W t => ⟨fun j => ⟨(t.cell (p := ⟨w.heap.size, j, none⟩) (by show w.heap.size < _; omega) (by show w.heap.size ≠ _; omega)).trans (cA j), (t.frozen (p := ⟨w.heap.size, j, none⟩) (by show w.heap.size < _; omega) (by show w.heap.size ≠ _; omega)).trans (fA j)⟩, (Below.turn B1 rb).trans t⟩
  have S1 : Hid (w1.heap.size = w.heap.size + 1) := s1
  clear cA fA h s1
  go_enter Tryz.func186, Tryz.ntmps186
  go_wp2_with fail
  rw [← hw1]
  clear hw1
  by_cases l4 : 4 ≤ p.length
  rotate_left
  · refine (rnum16_no r1 (k := 4) (by omega) rfl).mono ?_
    rintro _ _ ⟨rfl, rfl⟩
    exact ⟨rfl, ReadsX16.no (fun q => by have := q.1; omega) (AF.out _ (Turn.refl _ _)).2⟩
  refine (rnum16_yes r1 (k := 4) (by omega) l4 rfl rfl).mono ?_
  rintro _ w2 ⟨rfl, r2, o2⟩
  rw [nuL4 l4]
  obtain ⟨ep, hep⟩ : ∃ ep : Int, Hid (ep = ((nu p : Nat) : Int)) := ⟨_, rfl⟩
  rw [← hep.out]
  have z2 : Hid (w2.heap.size = w1.heap.size) := o2.size
  have t2 : Turn rb w1 w2 := o2.turn
  clear r1 o2
  have K := rrec16_any r2 (by rw [List.length_drop]; omega)
  go_wp2_with fail
  refine K.mono ?_
  rintro _ w3 (⟨hn, c, rfl, hc, hi, hf, r3, t3⟩ | ⟨hn, rfl, t3⟩)
  rotate_left
  · exact ⟨rfl, ReadsX16.no (fun q => hn q.2.1) (AF.out _ (t2.trans t3)).2⟩
  obtain ⟨⟨kd, ky, ln, st⟩, vs⟩ := c
  obtain ⟨va, vc, ev⟩ := hi.rs.form
  simp only at ev hc
  subst ev
  clear K r2
  rw [show aggR ⟨⟨kd, ky, ln, st⟩, .slice va st.length vc⟩ = .agg #[.int .i64 kd, .string ⟨ky.toArray⟩, .int .i64 ln, .slice va st.length vc] from rfl]
  obtain ⟨w4, hw4⟩ : ∃ w4, w4 = w3.alloc (.cells #[.int .i64 kd, .string ⟨ky.toArray⟩, .int .i64 ln, .slice va st.length vc] 38) := ⟨_, rfl⟩
  have B4 : Below w3.heap.size w3 w4 := by rw [hw4]; exact belR _ _
  have r4 := r3.below B4
  have t4 : Turn rb w1 w4 := (t2.trans t3).trans (Below.turn B4 _)
  have g0 : w4.cell? ⟨w3.heap.size, 0, none⟩ = some (.int .i64 kd) := by rw [hw4, World.cell?_alloc_new]; rfl
  have g1 : w4.cell? ⟨w3.heap.size, 1, none⟩ = some (.string ⟨ky.toArray⟩) := by rw [hw4, World.cell?_alloc_new]; rfl
  have g2 : w4.cell? ⟨w3.heap.size, 2, none⟩ = some (.int .i64 ln) := by rw [hw4, World.cell?_alloc_new]; rfl
  have g3 : w4.cell? ⟨w3.heap.size, 3, none⟩ = some (.slice va st.length vc) := by rw [hw4, World.cell?_alloc_new]; rfl
  have i4 := hi.below B4
  have HK : Hid (kd = (raR (p.drop 4)).kind) := by show _ = _; rw [← hc]
  have HC : Hid ((⟨ky, ln, ep, st⟩ : ObS) = raO p) := by
    show _ = _
    unfold raO
    rw [← hc, hep.out]
  have HF : Hid (∀ k, (Value.slice va st.length vc).ownBlock = some k → w.heap.size < k ∧ k < w4.heap.size) := fun k hk => by
    have a1 := hf k hk
    have a2 := S1.out
    have a3 := z2.out
    have a4 := B4.size
    omega
  clear hc hf hi r3 t2 t3
  by_cases h1 : kd = 1
  rotate_left
  · have FIN : Hid (ReadsX16 w0 rb w p (.panicked pz16) w4) := ReadsX16.no (fun q => h1 (HK.out.trans q.2.2)) (AF.out _ t4).2
    clear r4 g1 g2 g3 i4 HC
    go_wp2_with fail
    rw [← hw4]
    clear hw4
    refine (ask16_no (beq_eq_false_iff_ne.2 h1)).mono ?_
    rintro _ _ ⟨rfl, rfl⟩
    exact ⟨rfl, FIN.out⟩
  · have HY : Hid (LxO p) := ⟨l4, hn, by rw [← HK.out]; exact h1⟩
    subst h1
    obtain ⟨kA, tW⟩ := AF.out w4 t4
    obtain ⟨m0, f0⟩ := kA 0
    obtain ⟨m1, f1⟩ := kA 1
    obtain ⟨m2, f2⟩ := kA 2
    obtain ⟨m3, f3⟩ := kA 3
    simp at m0 m1 m2 m3
    clear kA
    go_wp2_with fail
    rw [← hw4]
    clear hw4
    refine (ask16_yes rfl).mono ?_
    rintro _ w6 ⟨rfl, rfl⟩
    obtain ⟨W, hW⟩ : ∃ W, W = (((w6.setCell ⟨w.heap.size, 0, none⟩ (.string ⟨ky.toArray⟩)).setCell ⟨w.heap.size, 1, none⟩ (.int .i64 ln)).setCell ⟨w.heap.size, 2, none⟩ (.int .i64 ep)).setCell ⟨w.heap.size, 3, none⟩ (.slice va st.length vc) := ⟨_, rfl⟩
    obtain ⟨OA, n0, n1, n2, n3⟩ := set4 (a := .string ⟨ky.toArray⟩) (b := .int .i64 ln) (c := .int .i64 ep) (d := .slice va st.length vc) m0 m1 m2 m3
    rw [← hW] at OA n0 n1 n2 n3
    have FIN : Hid (ReadsX16 w0 rb w p (.returned (.agg #[.string ⟨ky.toArray⟩, .int .i64 ln, .int .i64 ep, .slice va st.length vc])) W) := by
      refine Or.inl ⟨HY.out, ⟨⟨ky, ln, ep, st⟩, .slice va st.length vc⟩, rfl, HC.out, ⟨i4.wl, ?_, i4.ky, i4.rs.only (fun e => by have := HF.out _ e; omega) OA, i4.wi⟩, ?_, r4.only OA sz (by omega), ?_⟩
      · show (Lit.int .i64 ep).wf = true
        rw [hep.out]; have := nu_lt p; exact wf64 (by omega) (by omega)
      · intro k hk
        have := HF.out k hk
        rw [OA.size]
        omega
      · exact ⟨OA.os.trans tW.os, OA.tape.trans tW.tape, OA.output.trans tW.output, by rw [OA.size]; exact tW.size, fun k hk hn => (OA.block k (by omega)).trans (tW.block k hk hn)⟩
    clear OA r4 i4 tW t4
    go_wp2
    rw [← hW]
    clear hW
    exact bodyPost_ret (v := .agg #[.string ⟨ky.toArray⟩, .int .i64 ln, .int .i64 ep, .slice va st.length vc]) (by simp [results, Tryz.results186, go_sem, n0, n1, n2, n3]) rfl FIN.out
end Go.Proofs.YtclieefpnbdbjaaGreat.Gf
