/- TEXTS JOINED: MeCX. -/
import Derived.Deep.RegionWith
import Derived.Test.YtclieefpnbdbjaaGreatRome38
import Derived.Test.YtclieefpnbdbjaaGreatRome45
namespace Go.Proofs.YtclieefpnbdbjaaGreat.Gf
set_option linter.unusedVariables false
set_option linter.unusedSimpArgs false
open Go.RowKit
/-- the latest one of the areas below r -/
noncomputable def ltF (a : ArS) (g : GeoS) (K : List Bool) : Nat → Bool × ArW
  | 0 => (false, default)
  | r + 1 => if (onA a g K (r : Int)).whole = true ∧ ((ltF a g K r).1 = false ∨ (onA a g K (r : Int)).ep > (ltF a g K r).2.ep) then (true, onA a g K (r : Int)) else ltF a g K r
theorem ltF_bad {a : ArS} {g : GeoS} {K : List Bool} (h1 : okG g) (h2 : a.off = false) {r : Nat} (hr : r < 2) (hw : (onA a g K (r : Int)).whole = false) (hi : (onA a g K (r : Int)).wit = false) : ltX a g K = 150 ∧ ltA a g K = default := by
  have n1 : ¬ ¬ okG g := fun k => k h1
  have x : ltX a g K = 150 := by
    unfold ltX
    rw [if_neg n1, h2, if_neg (by simp)]
    unfold ltE
    have : r = 0 ∨ r = 1 := by omega
    rcases this with rfl | rfl
    · exact if_pos (Or.inr (Or.inl ⟨hw, hi⟩))
    · exact if_pos (Or.inr (Or.inr ⟨hw, hi⟩))
  refine ⟨x, ?_⟩
  unfold ltA
  rw [x]
  exact if_neg (by decide)
theorem ltF_off {a : ArS} {g : GeoS} {K : List Bool} (h1 : okG g) (h2 : ¬ rvX a = 0) : ltX a g K = rvX a ∧ ltA a g K = default := by
  have n1 : ¬ ¬ okG g := fun k => k h1
  have x : ltX a g K = rvX a := by
    unfold ltX
    unfold rvX at h2 ⊢
    rw [if_neg n1]
    by_cases q : a.off = true
    · rw [if_pos q, if_pos q]
    · rw [if_neg q] at h2; exact absurd rfl h2
  refine ⟨x, ?_⟩
  unfold ltA
  rw [x]
  exact if_neg h2
theorem ltF_ref {a : ArS} {g : GeoS} {K : List Bool} (h : ¬ chG g = 0) : ltX a g K = chG g ∧ ltA a g K = default := by
  have x : ltX a g K = chG g := by
    unfold ltX
    unfold chG at h ⊢
    by_cases q : okG g
    · rw [if_pos q] at h; exact absurd rfl h
    · rw [if_pos q, if_neg q]
  refine ⟨x, ?_⟩
  unfold ltA
  rw [x]
  exact if_neg h
theorem ltF_good {a : ArS} {g : GeoS} {K : List Bool} (h1 : okG g) (h2 : rvX a = 0) (hok : ∀ i : Nat, i < 2 → ¬ ((onA a g K (i : Int)).whole = false ∧ (onA a g K (i : Int)).wit = false)) : ltX a g K = (if (ltF a g K 2).1 = true then 0 else 150) ∧ ltA a g K = (ltF a g K 2).2 := by
  have n1 : ¬ ¬ okG g := fun k => k h1
  have ho : a.off = false := by
    unfold rvX at h2
    cases e : a.off with
    | false => rfl
    | true => rw [if_pos e] at h2; cases h2
  have k0 := hok 0 (by omega)
  have k1 := hok 1 (by omega)
  have e0 : ((0 : Nat) : Int) = 0 := rfl
  have e1 : ((1 : Nat) : Int) = 1 := rfl
  rw [e0] at k0
  rw [e1] at k1
  have x : ltX a g K = ltE (onA a g K 0) (onA a g K 1) := by
    unfold ltX
    rw [if_neg n1, ho, if_neg (by simp)]
  unfold ltA
  rw [x]
  show _ = (if (ltF a g K (1 + 1)).1 = true then _ else _) ∧ _ = (ltF a g K (1 + 1)).2
  have f1 : ltF a g K 1 = if (onA a g K 0).whole = true then (true, onA a g K 0) else (false, default) := by
    have z : ltF a g K (0 + 1) = if (onA a g K 0).whole = true ∧ ((ltF a g K 0).1 = false ∨ (onA a g K 0).ep > (ltF a g K 0).2.ep) then (true, onA a g K 0) else ltF a g K 0 := rfl
    refine Eq.trans z ?_
    by_cases q : (onA a g K 0).whole = true
    · exact (if_pos ⟨q, Or.inl rfl⟩).trans (if_pos q).symm
    · exact (if_neg (fun k => q k.1)).trans (if_neg q).symm
  have f2 : ltF a g K (1 + 1) = if (onA a g K 1).whole = true ∧ ((ltF a g K 1).1 = false ∨ (onA a g K 1).ep > (ltF a g K 1).2.ep) then (true, onA a g K 1) else ltF a g K 1 := rfl
  generalize onA a g K 0 = X at *
  generalize onA a g K 1 = Y at *
  rw [f2, f1]
  obtain ⟨xa, xe, xo, xw, xi⟩ := X
  obtain ⟨ya, ye, yo, yw, yi⟩ := Y
  unfold ltE ltW
  simp only at k0 k1 ⊢
  cases xw <;> cases yw <;> cases xi <;> cases yi <;> simp at k0 k1 ⊢ <;> (try split) <;> simp
/-- Latest's answer -/
def Lat18 (w : World) (x : Int) (A : ArW) (e : Ending) (w' : World) : Prop := ∃ (vs : Value) (L : List ObV), e = .returned (.tuple #[.agg #[.int .i64 A.ar, .int .i64 A.ep, vs], .int .i64 x]) ∧ RdOF w.heap.size w' vs L ∧ oL L = A.ob ∧ Below w.heap.size w w'
theorem lat_no {w W Y : World} {x : Int} {b6 : Nat} (b : Below w.heap.size w W) (o : Only b6 W Y) (h6 : w.heap.size ≤ b6) : Lat18 w x default (.returned (.tuple #[.agg #[.int .i64 0, .int .i64 0, .slice none 0 0], .int .i64 x])) Y := ⟨_, [], rfl, rdOF_nil _ _, rfl, b.trans (o.below h6)⟩
theorem rdOF_only {N b : Nat} {w Y : World} {v : Value} {L : List ObV} (hv : RdOF N w v L) (o : Only b w Y) (hb : b < N) : RdOF N Y v L := by
  refine ⟨hv.turn (G := fun k => k = b) (fun k hk => by rw [hk]; exact hb) (o.turnG rfl), fun G W hG t => ?_⟩
  refine hv.turn (G := fun k => G k ∨ k = b) (fun k hk => ?_) ?_
  · rcases hk with hk | hk
    · exact hG k hk
    · rw [hk]; exact hb
  · exact TurnG.trans (o.turnG (Or.inr rfl)) ⟨t.os, t.tape, t.output, t.size, fun k hk hn => t.block k hk (fun g => hn (Or.inl g))⟩
theorem lat_yes {w wr Y : World} {x : Int} {A : ArW} {b6 N : Nat} {v : Value} {L : List ObV} (hv : RdOF N wr v L) (ho : oL L = A.ob) (o : Only b6 wr Y) (h6 : b6 < N) (hb : w.heap.size ≤ b6) (hN : w.heap.size ≤ N) (b : Below w.heap.size w wr) : Lat18 w x A (.returned (.tuple #[.agg #[.int .i64 A.ar, .int .i64 A.ep, v], .int .i64 x])) Y.drew := by
  have d := Below.drew (Below.refl Y.heap.size Y)
  exact ⟨v, L, rfl, ((rdOF_only hv o h6).mono hN).below d, ho, (b.trans (o.below hb)).drew⟩
/-- the box of the latest one: three cells -/
def LtBox (w : World) (lb : Nat) (A : ArW) (v : Value) : Prop := w.cell? ⟨lb, 0, none⟩ = some (.int .i64 A.ar) ∧ w.cell? ⟨lb, 1, none⟩ = some (.int .i64 A.ep) ∧ w.cell? ⟨lb, 2, none⟩ = some v ∧ ∀ j, w.frozen? ⟨lb, j, none⟩ = false
theorem LtBox.below {w w' : World} {lb : Nat} {A : ArW} {v : Value} (h : LtBox w lb A v) (b : Below w.heap.size w w') (hl : lb < w.heap.size) : LtBox w' lb A v := ⟨(b.cell (p := ⟨lb, 0, none⟩) hl).trans h.1, (b.cell (p := ⟨lb, 1, none⟩) hl).trans h.2.1, (b.cell (p := ⟨lb, 2, none⟩) hl).trans h.2.2.1, fun j => (b.frozen (p := ⟨lb, j, none⟩) hl).trans (h.2.2.2 j)⟩
theorem two18l (w : World) (g : GeoS) (e f : Nat) : ∀ V, Below ((w.alloc (.cells (cellsG g) e)).alloc (.cells #[.int .i64 0, .int .i64 0, .slice none 0 0] f)).heap.size ((w.alloc (.cells (cellsG g) e)).alloc (.cells #[.int .i64 0, .int .i64 0, .slice none 0 0] f)) V →
    (GeoAt V w.heap.size g ∧ Below w.heap.size w V) ∧ LtBox V (w.heap.size + 1) default (.slice none 0 0) := by
  intro V hV
  obtain ⟨u, hu⟩ : ∃ u, u = w.alloc (.cells (cellsG g) e) := ⟨_, rfl⟩
  have LG := geo_laid w g e
  rw [← hu] at hV LG
  have s1 : u.heap.size = w.heap.size + 1 := by rw [hu]; simp
  obtain ⟨z0, z1, z2, b2, zf, lt⟩ := @lay3 u (.int .i64 0) (.int .i64 0) (.slice none 0 0) f
  refine ⟨LG V (b2.step16 hV b2.size), ?_⟩
  rw [← s1]
  exact LtBox.below (A := default) ⟨z0, z1, z2, zf⟩ hV lt
theorem ltF_take {a : ArS} {g : GeoS} {K : List Bool} {r : Nat} (h : (onA a g K (r : Int)).whole = true ∧ ((ltF a g K r).1 = false ∨ (onA a g K (r : Int)).ep > (ltF a g K r).2.ep)) : ltF a g K (r + 1) = (true, onA a g K (r : Int)) := if_pos h
theorem ltF_keep {a : ArS} {g : GeoS} {K : List Bool} {r : Nat} (h : ¬ ((onA a g K (r : Int)).whole = true ∧ ((ltF a g K r).1 = false ∨ (onA a g K (r : Int)).ep > (ltF a g K r).2.ep))) : ltF a g K (r + 1) = ltF a g K r := if_neg h
theorem saved_onA {w w' : World} {a : ArS} {g : GeoS} {K : List Bool} {r : Nat} {e : Ending} (h : SavedM w (r : Int) (fun i => onV a g K (r : Int) (i : Int)) (onA a g K (r : Int)).whole e w') : ∃ (x y : Int) (vs : Value) (L : List ObV), e = .returned (.tuple #[.agg #[.int .i64 x, .int .i64 y, vs], .bool (onA a g K (r : Int)).whole]) ∧ RdOF w.heap.size w' vs L ∧ Below w.heap.size w w' ∧ ((onA a g K (r : Int)).whole = true → x = (onA a g K (r : Int)).ar ∧ y = (onA a g K (r : Int)).ep ∧ oL L = (onA a g K (r : Int)).ob) := by
  obtain ⟨x, y, vs, L, h1, h2, h3, h4, h5⟩ := h
  refine ⟨x, y, vs, L, h1, h2, h3, fun q => ?_⟩
  obtain ⟨k1, k2, k3⟩ := h4 q
  refine ⟨k1, k2, ?_⟩
  show _ = (onL [(onV a g K (r : Int) 0).da, (onV a g K (r : Int) 1).da]).getD []
  have k3' : onL [(onV a g K (r : Int) 0).da, (onV a g K (r : Int) 1).da] = some (oL L) := k3
  rw [k3']; rfl
/-- at a refusal: the result's cells are set to zero -/
theorem lt_zero {p : Prop} (h : p := by
  obtain ⟨q0, q1, q2, qf⟩ := ZB.out _ BZ
  have f0 := qf 0
  have f1 := qf 1
  have f2 := qf 2
  obtain ⟨oY, s0, s1, s2⟩ := set3 (a := .int .i64 0) (b := .int .i64 0) (c := .slice none 0 0) q0 q1 q2
  have F := lat_no (x := E) (ZW.out _ BZ) oY h6.out
  have F9 := hidI F
  clear F oY BZ qf
  go_wp2
  exact bodyPost_ret (v := .tuple #[.agg #[.int .i64 0, .int .i64 0, .slice none 0 0], .int .i64 E]) (by simp [results, Tryz.results20, go_sem, s0, s1, s2]) rfl (by first | exact (XE.out ▸ AE.out ▸ F9.out) | (rw [XE.out, AE.out]; exact F9.out))) : p := h
/-- the same at a damaged one -/
theorem lt_damaged {p : Prop} (h : p := by
  obtain ⟨q0, q1, q2, qf⟩ := ZB.out _ BZ
  have f0 := qf 0
  have f1 := qf 1
  have f2 := qf 2
  obtain ⟨oY, s0, s1, s2⟩ := set3 (a := .int .i64 0) (b := .int .i64 0) (c := .slice none 0 0) q0 q1 q2
  have F := lat_no (x := 150) (ZW.out _ BZ) oY h6.out
  have F9 := hidI F
  clear F oY BZ qf
  go_wp2
  exact bodyPost_ret (v := .tuple #[.agg #[.int .i64 0, .int .i64 0, .slice none 0 0], .int .i64 150]) (by simp [results, Tryz.results20, go_sem, s0, s1, s2]) rfl (by first | exact (XE.out ▸ AE.out ▸ F9.out) | (rw [XE.out, AE.out]; exact F9.out))) : p := h
set_option maxRecDepth 100000 in
set_option maxHeartbeats 4000000 in
theorem mlatest_any {w : World} {ab : Nat} {GA : Nat → Prop} {a : ArS} (h : ArAt w ab GA a) {g : GeoS} (hg : g.Wf) {u : Value} {K : List Bool} (hk : RdB w u K) :
    Calls Tryz.prog 20 #[.pointer (some ⟨ab, 0, none⟩), aggG g, u] w (Lat18 w (ltX a g K) (ltA a g K)) := by
  obtain ⟨ua, uc, eu⟩ := hk.form
  subst eu
  have HA : Hid (ArAt w ab GA a) := h
  have HK : Hid (RdB w (.slice ua K.length uc) K) := hk
  have KC0 := fun V => @mref_any V ab g hg _ rfl
  have KV0 := fun V (b : Below w.heap.size w V) (ar : Int) (haw : (Lit.int .i64 ar).wf = true) => @mvotes_any V ab GA a (HA.out.below b) g hg _ K (HK.out.below b) ar haw
  obtain ⟨y, hy⟩ : ∃ y, Hid (y = chG g) := ⟨_, rfl⟩
  rw [← hy.out] at KC0
  have BAD : Hid (¬ y = 0 → ltX a g K = y ∧ ltA a g K = default) := fun q => by rw [hy.out] at q ⊢; exact ltF_ref q
  have OK : Hid (y = 0 → okG g) := fun q => by
    rw [hy.out] at q
    unfold chG at q
    by_cases k : okG g
    · exact k
    · rw [if_neg k] at q; cases q
  have T2 := two18l w g 23 41
  have FT := fun r => @ltF_take a g K r
  have FN := fun r => @ltF_keep a g K r
  have WIT := fun (wx : World) (pg : Nat) (D : Nat → Value) (r : Nat) hR hD => @mwitn_any wx pg (fun i => onV a g K (r : Int) (i : Int)) D hR hD (onA a g K (r : Int)).wit rfl
  have SAV := fun (wx : World) (pg : Nat) (D : Nat → Value) (r : Nat) hR hD => (@msaved_any wx pg (fun i => onV a g K (r : Int) (i : Int)) D hR hD (r : Int) (onA a g K (r : Int)).whole rfl).mono (fun _ _ h => saved_onA h)
  obtain ⟨X, hX⟩ : ∃ X, Hid (rvX a = X) := ⟨_, rfl⟩
  rw [hX.out] at KV0
  have OFF : Hid (y = 0 → ¬ X = 0 → ltX a g K = X ∧ ltA a g K = default) := fun q n => by
    rw [← hX.out] at n ⊢; exact ltF_off (OK.out q) n
  have BADR : Hid (y = 0 → X = 0 → ∀ r : Nat, r < 2 → (onA a g K (r : Int)).whole = false → (onA a g K (r : Int)).wit = false → ltX a g K = 150 ∧ ltA a g K = default) := fun q n r hr h1 h2 => by
    refine ltF_bad (OK.out q) ?_ hr h1 h2
    rw [← hX.out] at n
    unfold rvX at n
    cases e : a.off with
    | false => rfl
    | true => rw [if_pos e] at n; cases n
  have GOOD : Hid (y = 0 → (∀ i : Nat, i < 2 → X = 0 ∧ ¬ ((onA a g K (i : Int)).whole = false ∧ (onA a g K (i : Int)).wit = false)) → ltX a g K = (if (ltF a g K 2).1 = true then 0 else 150) ∧ ltA a g K = (ltF a g K 2).2) := fun q n => ltF_good (OK.out q) (by rw [hX.out]; exact (n 0 (by omega)).1) (fun i hi => (n i hi).2)
  obtain ⟨W, hW⟩ : ∃ W, W = (w.alloc (.cells #[.int .i64 g.k, .int .i64 g.m, .int .i64 g.z, .int .i64 g.s, .int .i64 g.t, .int .i64 g.o] 23)).alloc (.cells #[.int .i64 0, .int .i64 0, .slice none 0 0] 41) := ⟨_, rfl⟩
  have T3 : Hid (∀ V, Below W.heap.size W V → (GeoAt V w.heap.size g ∧ Below w.heap.size w V) ∧ LtBox V (w.heap.size + 1) default (.slice none 0 0)) := by rw [hW]; exact T2
  clear T2 OK hX hy
  obtain ⟨gv, hgv⟩ : ∃ gv, Hid (aggG g = gv) := ⟨_, rfl⟩
  obtain ⟨k, m, z, s, t, o⟩ := g
  have ZB : Hid (∀ V, Below W.heap.size W V → V.cell? ⟨w.heap.size + 1, 0, none⟩ = some (.int .i64 0) ∧ V.cell? ⟨w.heap.size + 1, 1, none⟩ = some (.int .i64 0) ∧ V.cell? ⟨w.heap.size + 1, 2, none⟩ = some (.slice none 0 0) ∧ ∀ j, V.frozen? ⟨w.heap.size + 1, j, none⟩ = false) := fun V b => (T3.out V b).2
  have ZW : Hid (∀ V, Below W.heap.size W V → Below w.heap.size w V) := fun V b => (T3.out V b).1.2
  have ZG : Hid (∀ V, Below W.heap.size W V → GeoAt V w.heap.size ⟨k, m, z, s, t, o⟩) := fun V b => (T3.out V b).1.1
  have LW : Hid (w.heap.size + 1 < W.heap.size) := by show _ < _; rw [hW]; simp
  have h6 : Hid (w.heap.size ≤ w.heap.size + 1) := Nat.le_succ _
  clear T3 h hk hg
  rw [aggE] at KC0 KV0 ⊢
  clear hgv
  obtain ⟨x0, x1, x2, x3, x4, x5⟩ := ZG.out W (Below.refl _ _)
  simp only at x0 x1 x2 x3 x4 x5 hW
  go_enter Tryz.func20, Tryz.ntmps20
  go_wp2_with fail
  rw [← hW]
  clear hW
  refine (KC0 _).mono ?_
  rintro _ w1 ⟨rfl, B1⟩
  clear KC0 x0 x1 x2 x3 x4 x5
  by_cases q : y = 0
  rotate_left
  · have q1 : (y == 0) = false := beq_eq_false_iff_ne.2 q
    have q2 : (y != 0) = true := by simp [bne, q1]
    have XE : Hid (ltX a ⟨k, m, z, s, t, o⟩ K = y) := (BAD.out q).1
    have AE : Hid (ltA a ⟨k, m, z, s, t, o⟩ K = default) := (BAD.out q).2
    obtain ⟨E, rfl⟩ : ∃ E, E = y := ⟨_, rfl⟩
    have BZ := B1
    clear BAD OFF BADR GOOD KV0 FT FN WIT SAV B1
    exact lt_zero
  subst q
  have OFF' := hidI (OFF.out rfl)
  have BADR' := hidI (BADR.out rfl)
  have GOOD' := hidI (GOOD.out rfl)
  clear BAD OFF BADR GOOD
  obtain ⟨l0, l1, l2, b2, lf, l2s⟩ := @lay3 w1 (.int .i64 0) (.int .i64 0) (.slice none 0 0) 41
  obtain ⟨w2, hw2⟩ : ∃ w2, w2 = w1.alloc (.cells #[.int .i64 0, .int .i64 0, .slice none 0 0] 41) := ⟨_, rfl⟩
  have LB0 : Hid (LtBox w2 w1.heap.size (ltF a ⟨k, m, z, s, t, o⟩ K 0).2 (.slice none 0 0)) := by rw [hw2]; exact ⟨l0, l1, l2, lf⟩
  rw [← hw2] at b2 l2s
  have HB1 : Hid (Below W.heap.size W w1) := B1
  obtain ⟨lb, hlb⟩ : ∃ lb, Hid (lb = w1.heap.size) := ⟨_, rfl⟩
  rw [← hlb.out] at LB0 l2s
  clear l0 l1 l2 lf B1
  go_wp2_with fail
  rw [← hw2]
  clear hw2
  rw [← hlb.out]
  go_loopw [10, 23] (fun hv i wr => ∃ (r : Nat) (lv : Value) (L : List ObV), r ≤ 2 ∧ i = .int .i64 (r : Int) ∧ hv = .bool (ltF a ⟨k, m, z, s, t, o⟩ K r).1 ∧ Hid (Below w1.heap.size w1 wr) ∧ Hid (lb < wr.heap.size) ∧ Hid (LtBox wr lb (ltF a ⟨k, m, z, s, t, o⟩ K r).2 lv) ∧ Hid (RdOF (lb + 1) wr lv L) ∧ Hid (oL L = (ltF a ⟨k, m, z, s, t, o⟩ K r).2.ob) ∧ Hid (∀ i : Nat, i < r → X = 0 ∧ ¬ ((onA a ⟨k, m, z, s, t, o⟩ K (i : Int)).whole = false ∧ (onA a ⟨k, m, z, s, t, o⟩ K (i : Int)).wit = false))) (fun _ i _ => 2 - (intOf i).toNat)
  case atStart => exact ⟨0, _, [], Nat.zero_le _, rfl, rfl, b2, l2s, LB0, rdOF_nil _ _, rfl, fun i hi => by omega⟩
  case round =>
    obtain ⟨r, lv, L, hr, rfl, rfl, hB, hl, hbox, hrd, hob, hall⟩ := hrel
    have BW := HB1.out.step16 hB.out HB1.out.size
    by_cases hlt : r < 2
    · have hlt' : (r : Int) < 2 := by omega
      have KV := KV0 wr (ZW.out _ BW) (r : Int) (by
        have : r = 0 ∨ r = 1 := by omega
        rcases this with rfl | rfl <;> decide)
      obtain ⟨x0, x1, x2, x3, x4, x5⟩ := ZG.out wr BW
      simp only at x0 x1 x2 x3 x4 x5
      clear KV0
      go_wp2_with fail
      refine KV.mono ?_
      rintro _ w3 (⟨hx, rfl, b3⟩ | ⟨hx, pg, D, rfl, hrow, hrdd, b3⟩)
      · have q1 : (X == 0) = false := beq_eq_false_iff_ne.2 hx
        have q2 : (X != 0) = true := by simp [bne, q1]
        have XE : Hid (ltX a ⟨k, m, z, s, t, o⟩ K = X) := (OFF'.out hx).1
        have AE : Hid (ltA a ⟨k, m, z, s, t, o⟩ K = default) := (OFF'.out hx).2
        obtain ⟨E, rfl⟩ : ∃ E, E = X := ⟨_, rfl⟩
        have BZ := BW.step16 b3 BW.size
        clear OFF' BADR' GOOD' FT FN WIT SAV KV hB hl hbox hrd hob hall BW x0 x1 x2 x3 x4 x5
        exact lt_zero
      subst hx
      have BAD1 := hidI (BADR'.out rfl r hlt)
      have NEXT : Hid (¬ ((onA a ⟨k, m, z, s, t, o⟩ K (r : Int)).whole = false ∧ (onA a ⟨k, m, z, s, t, o⟩ K (r : Int)).wit = false) → ∀ i : Nat, i < r + 1 → (0 : Int) = 0 ∧ ¬ ((onA a ⟨k, m, z, s, t, o⟩ K (i : Int)).whole = false ∧ (onA a ⟨k, m, z, s, t, o⟩ K (i : Int)).wit = false)) := fun n i hi => by
        by_cases e : i = r
        · rw [e]; exact ⟨rfl, n⟩
        · exact hall.out i (by omega)
      have FT1 := hidI (@FT r)
      have FN1 := hidI (@FN r)
      have S1 := SAV w3 pg D r hrow hrdd
      have W1 := hidI (fun V (b : Below w3.heap.size w3 V) => WIT V pg D r (hrow.of_block (b.block pg hrow.lt)) (fun i hi => (hrdd i hi).below b))
      have B3 := hidI (fun V (b : Below w3.heap.size w3 V) => hB.out.step16 (b3.step16 b b3.size) hB.out.size)
      have lb3 : lb < w3.heap.size := Nat.lt_of_lt_of_le hl.out b3.size
      have BX3 := hidI (fun V (b : Below w3.heap.size w3 V) => (hbox.out.below b3 hl.out).below b lb3)
      have RD3 := hidI (fun V (b : Below w3.heap.size w3 V) => (hrd.out.below b3).below b)
      clear OFF' BADR' GOOD' FT FN WIT SAV KV hB hl hbox hrd hall BW x0 x1 x2 x3 x4 x5 hrow hrdd b3
      obtain ⟨XA, hXA⟩ : ∃ XA, onA a ⟨k, m, z, s, t, o⟩ K (r : Int) = XA := ⟨_, rfl⟩
      obtain ⟨FA, hFA⟩ : ∃ FA, ltF a ⟨k, m, z, s, t, o⟩ K r = FA := ⟨_, rfl⟩
      rw [hXA] at BAD1 FT1 FN1 S1 W1
      rw [hFA] at FT1 FN1 BX3 hob ⊢
      have NEXT1 := hidI (fun n => NEXT.out (hXA.symm ▸ n : ¬ ((onA a ⟨k, m, z, s, t, o⟩ K (r : Int)).whole = false ∧ (onA a ⟨k, m, z, s, t, o⟩ K (r : Int)).wit = false)))
      clear NEXT hXA hFA
      obtain ⟨xar, xep, xob, xw, xi⟩ := XA
      obtain ⟨fh, far, fep, fob, fw, fi⟩ := FA
      simp only at BAD1 FT1 FN1 S1 W1 BX3 hob NEXT1
      go_wp2_with fail
      refine S1.mono ?_
      rintro _ w4 ⟨x, y, vs, L2, rfl, hv, b4, himp⟩
      obtain ⟨va, vc, ev⟩ := hv.form
      subst ev
      clear S1
      have b5 := belR w4 (.cells #[.int .i64 x, .int .i64 y, .slice va L2.length vc] 41)
      have B45 := b4.step16 b5 b4.size
      have RD5 := hidI (hv.below b5)
      cases xw with
      | false =>
        obtain ⟨w5, hw5⟩ : ∃ w5, w5 = w4.alloc (.cells #[.int .i64 x, .int .i64 y, .slice va L2.length vc] 41) := ⟨_, rfl⟩
        rw [← hw5] at B45
        have W5 := W1.out _ B45
        clear himp hv b4 b5 RD5 FT1
        go_wp2_with fail
        rw [← hw5]
        clear hw5
        refine W5.mono ?_
        rintro _ w6 ⟨rfl, b6⟩
        have B6 := B45.step16 b6 B45.size
        cases xi with
        | false =>
          have XE : Hid (ltX a ⟨k, m, z, s, t, o⟩ K = 150) := (BAD1.out (by simp) (by simp)).1
          have AE : Hid (ltA a ⟨k, m, z, s, t, o⟩ K = default) := (BAD1.out (by simp) (by simp)).2
          have BZ := HB1.out.step16 (B3.out _ B6) HB1.out.size
          clear BAD1 FN1 NEXT1 W1 B3 BX3 RD3 B45 W5 B6 hob b6
          exact lt_damaged
        | true =>
          have FNX := hidI (FN1.out (fun q => by cases q.1))
          have B7 := hidI (B3.out _ B6)
          have L7 : Hid (lb < w6.heap.size) := Nat.lt_of_lt_of_le lb3 B6.size
          have BX7 := hidI (BX3.out _ B6)
          have RD7 := hidI (RD3.out _ B6)
          have AL7 := hidI (NEXT1.out (fun q => by cases q.2))
          clear BAD1 FN1 NEXT1 W1 B3 BX3 RD3 B45 W5 B6 b6
          go_wp2
          go_roundw
          case rel => exact ⟨r + 1, lv, L, by omega, by go_num, by rw [FNX.out], B7, L7, by rw [FNX.out]; exact BX7, RD7, by rw [FNX.out]; exact hob, AL7⟩
          case measure => simp [intOf]; omega
      | true =>
        obtain ⟨ex, ey, eob⟩ := himp (by simp)
        subst ex
        subst ey
        obtain ⟨c0, c1, c2, cf⟩ := BX3.out _ B45
        simp only at c0 c1 c2
        have f0 := cf 0
        have f1 := cf 1
        have f2 := cf 2
        have L7 : Hid (lb < (w4.alloc (.cells #[.int .i64 x, .int .i64 y, .slice va L2.length vc] 41)).heap.size) := Nat.lt_of_lt_of_le lb3 B45.size
        have B7 := hidI (B3.out _ B45)
        have AL7 := hidI (NEXT1.out (fun q => by cases q.1))
        by_cases tk : fh = false ∨ y > fep
        · have FTX := hidI (FT1.out ⟨by simp, tk⟩)
          obtain ⟨Y, hY⟩ : ∃ Y, Y = (((w4.alloc (.cells #[.int .i64 x, .int .i64 y, .slice va L2.length vc] 41)).setCell ⟨lb, 0, none⟩ (.int .i64 x)).setCell ⟨lb, 1, none⟩ (.int .i64 y)).setCell ⟨lb, 2, none⟩ (.slice va L2.length vc) := ⟨_, rfl⟩
          obtain ⟨oY, s0, s1, s2⟩ := set3 (a := .int .i64 x) (b := .int .i64 y) (c := .slice va L2.length vc) c0 c1 c2
          rw [← hY] at oY s0 s1 s2
          have BXY : Hid (LtBox Y lb ⟨x, y, xob, true, xi⟩ (.slice va L2.length vc)) := ⟨s0, s1, s2, fun j => by rw [hY]; simpa [go_sem] using cf j⟩
          have BY : Hid (Below w1.heap.size w1 Y) := B7.out.trans (oY.below (by rw [hlb.out]; exact Nat.le_refl _))
          have RDY := hidI ((rdOF_only RD5.out oY lb3).mono lb3)
          have LY : Hid (lb < Y.heap.size) := by
            show _ < _
            rw [oY.size]; exact L7.out
          have tk' : fh = true → decide (y > fep) = true ∧ decide (fep < y) = true := fun e => by
            rcases tk with k | k
            · rw [e] at k; cases k
            · exact ⟨decide_eq_true k, decide_eq_true k⟩
          clear BAD1 FT1 FN1 NEXT1 W1 B3 BX3 RD3 B45 b4 b5 hob hv himp oY s0 s1 s2 RD5 B7 L7
          cases fh with
          | false =>
            clear tk' tk
            go_wp2
            rw [← hY]
            go_roundw
            case rel => exact ⟨r + 1, _, L2, by omega, by go_num, by rw [FTX.out], BY, LY, by rw [FTX.out]; exact BXY, RDY, by rw [FTX.out]; exact eob, AL7⟩
            case measure => simp [intOf]; omega
          | true =>
            obtain ⟨t1, t2⟩ := tk' (by simp)
            clear tk' tk
            go_wp2
            rw [← hY]
            go_roundw
            case rel => exact ⟨r + 1, _, L2, by omega, by go_num, by rw [FTX.out], BY, LY, by rw [FTX.out]; exact BXY, RDY, by rw [FTX.out]; exact eob, AL7⟩
            case measure => simp [intOf]; omega
        · have FNX := hidI (FN1.out (fun q => tk q.2))
          obtain rfl : fh = true := by
            cases fh with
            | true => rfl
            | false => exact absurd (Or.inl rfl) tk
          have t1 : decide (y > fep) = false := decide_eq_false (fun q => tk (Or.inr q))
          have t2 : decide (fep < y) = false := decide_eq_false (fun q => tk (Or.inr q))
          have BX7 := hidI (BX3.out _ B45)
          have RD7 := hidI (RD3.out _ B45)
          clear BAD1 FT1 FN1 NEXT1 W1 B3 BX3 RD3 B45 b4 b5 hv himp RD5 tk
          go_wp2
          go_roundw
          case rel => exact ⟨r + 1, lv, L, by omega, by go_num, by rw [FNX.out], B7, L7, by rw [FNX.out]; exact BX7, RD7, by rw [FNX.out]; exact hob, AL7⟩
          case measure => simp [intOf]; omega
    · obtain rfl : r = 2 := by omega
      have hge : ¬ (2 : Int) < 2 := by omega
      obtain ⟨gx, ga⟩ := GOOD'.out hall.out
      obtain ⟨FA, hFA⟩ : ∃ FA, ltF a ⟨k, m, z, s, t, o⟩ K 2 = FA := ⟨_, rfl⟩
      rw [hFA] at gx ga hbox hob ⊢
      obtain ⟨fh, ⟨far, fep, fob, fw, fi⟩⟩ := FA
      simp only at gx ga hbox hob
      clear hFA OFF' BADR' GOOD' FT FN WIT SAV KV0 hall
      obtain ⟨c0, c1, c2, cf⟩ := hbox.out
      simp only at c0 c1 c2
      obtain ⟨q0, q1, q2, qf⟩ := ZB.out _ BW
      have f0 := qf 0
      have f1 := qf 1
      have f2 := qf 2
      obtain ⟨E, hE⟩ : ∃ E : Int, E = if fh = true then 0 else 150 := ⟨_, rfl⟩
      rw [← hE] at gx
      have KU : ∀ V, Calls Tryz.prog 66 #[.bool fh, .int .i64 150] V fun e w' => e = .returned (.int .i64 E) ∧ w' = V := fun V => by rw [hE]; exact munless_any fh 150
      clear hE
      obtain ⟨la, lc, elv⟩ := hrd.out.form
      subst elv
      obtain ⟨oY, s0, s1, s2⟩ := set3 (a := .int .i64 far) (b := .int .i64 fep) (c := .slice la L.length lc) q0 q1 q2
      have F9 := hidI (lat_yes (w := w) (x := E) (A := ⟨far, fep, fob, fw, fi⟩) hrd.out hob.out oY (by have h1 := LW.out; have h2 := HB1.out.size; have h3 := hlb.out; omega) (Nat.le_succ _) (by have h1 := LW.out; have h2 := HB1.out.size; have h3 := hlb.out; omega) (ZW.out _ BW))
      have GX := hidI gx
      have GA' := hidI ga
      clear gx ga oY hrd hob hbox BW hl hB cf qf
      go_upto_region 18 with fail
      go_region_with ((go_at_call 66; refine (KU _).mono ?_; rintro e v5 ⟨rfl, hv5⟩; subst hv5))
      all_goals
        go_wp2
        exact bodyPost_ret (v := .tuple #[.agg #[.int .i64 far, .int .i64 fep, .slice la L.length lc], .int .i64 E]) (by simp [results, Tryz.results20, go_sem, s0, s1, s2]) rfl (by rw [GX.out, GA'.out]; exact F9.out)
end Go.Proofs.YtclieefpnbdbjaaGreat.Gf
