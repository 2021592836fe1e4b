/- TEXTS JOINED: KeCC, KeCF, KeCode, WdMath, WdSets, WdTry, WdOwn, WdRefA, WdRefB, WdRefC, WdBack, WdKey, WdAns, WdRoots. -/
import Derived.Test.YtddnfhfangfgeaaGreatTome7
import Derived.Laws.EntriesVeiled
import Derived.Test.YtddnfhfangfgeaaGreatTome6
import Derived.Test.YtddnfhfangfgeaaGreatTome2
import Derived.Test.YtddnfhfangfgeaaGreatTome4
import Derived.Test.YtddnfhfangfgeaaGreatTome5
import Derived.Test.YtddnfhfangfgeaaGreatTome1
import Derived.Deep.RegionWith
namespace Go.Proofs.YtddnfhfangfgeaaGreat.Gf
set_option linter.unusedVariables false
set_option linter.unusedSimpArgs false
open Go.RowKit
theorem ApartL.mid {w : World} {N : Nat} {v : Value} {p : List UInt8} {G : List Nat} (h : Rd w v p) (hf : Far N v) (hg : ∀ g, g ∈ G → g < N ∨ w.heap.size ≤ g) : ApartL G v := by
  intro x n c e
  rcases h with ⟨a, c', _, e2, _⟩ | ⟨b, off, cap, h1, h2, h3, h4, h5, h6⟩
  · subst e2; simp at e; exact Or.inl e.2.1.symm
  · have hx := hf x n c e
    subst h2; simp at e; obtain ⟨rfl, rfl, rfl⟩ := e
    refine Or.inr (fun hm => ?_)
    rcases hg _ hm with h9 | h9
    · have : N ≤ b := hx
      have : b < N := h9
      omega
    · have : w.heap.size ≤ b := h9
      omega
/-- what 'euclid' leaves -/
def MakesE (w : World) (s known : List UInt8) (e : Nat) (x : Ending) (w' : World) : Prop :=
  ∃ r0 v0 r1 v1 vc vl, EuL s known e r0 r1 v0 v1 ∧ 2 * r1.length ≤ s.length + e + 1 ∧ x = .returned (.tuple #[vc, vl]) ∧ Rd w' vc v1 ∧ Rd w' vl r1 ∧ Below w.heap.size w w'
set_option maxRecDepth 100000 in
set_option maxHeartbeats 4000000 in
theorem keuc_any {w : World} {b : Nat} {v : Value} {T s known : List UInt8} {e : Nat} (hF : FieldAt w b) (hT : Rd w v T) (hTl : T.length ≤ s.length) (hTc : ∀ j, j < s.length → co T j = keP s known j) (hl : s.length ≤ 300) (he : e ≤ s.length) {x y : Int} (hx : x = (s.length : Int)) (hy : y = (e : Int)) :
    Calls Tryz.prog 196 #[.pointer (some ⟨b, 0, none⟩), v, .int .i64 x, .int .i64 y] w (MakesE w s known e) := by
  subst hx hy
  obtain ⟨sa, sc, rfl⟩ := hT.form
  obtain ⟨m, hm⟩ : ∃ m, Hid (m = s.length) := ⟨_, rfl⟩
  rw [← hm.out] at hTl hTc hl he ⊢
  obtain ⟨N, hN⟩ : ∃ N, Hid (N = w.heap.size) := ⟨_, rfl⟩
  go_enter Tryz.func196, Tryz.ntmps196
  go_wp2_with fail
  obtain ⟨u0, hu0⟩ : ∃ u0, u0 = ((w.alloc (.cells #[.pointer (some ⟨b, 0, none⟩)] 26)).alloc (.cells #[.slice none 0 0] 36)).alloc (.cells #[.slice none 0 0] 36) := ⟨_, rfl⟩
  rw [← hu0]
  have B0 : Below w.heap.size w u0 := by rw [hu0]; exact below_lit (below_lit (below_lit (Below.refl _ _) _) _) _
  have cf0 : u0.cell? ⟨w.heap.size, 0, none⟩ = some (.pointer (some ⟨b, 0, none⟩)) := by rw [hu0]; go_simp
  have cc0 : u0.cell? ⟨w.heap.size + 1, 0, none⟩ = some (.slice none 0 0) := by rw [hu0]; go_simp
  have cl0 : u0.cell? ⟨w.heap.size + 1 + 1, 0, none⟩ = some (.slice none 0 0) := by rw [hu0]; go_simp
  have gc0 : u0.frozen? ⟨w.heap.size + 1, 0, none⟩ = false := by rw [hu0]; go_simp
  have gl0 : u0.frozen? ⟨w.heap.size + 1 + 1, 0, none⟩ = false := by rw [hu0]; go_simp
  have sz0 : Hid (u0.heap.size = w.heap.size + 3) := by show _ = _; rw [hu0]; simp
  clear hu0
  go_step3
  go_wp2_with fail
  refine (kpow_any (by omega) rfl).mono ?_
  rintro e9 w1 ⟨v1, rfl, r1, b1, f1⟩
  have HX : Hid ((xpL m).length = m + 1) := xpL_length m
  obtain ⟨X, hX⟩ : ∃ X, Hid (X = xpL m) := ⟨_, rfl⟩
  rw [← hX.out] at r1 HX
  obtain ⟨a1, c1, rfl⟩ := r1.form
  have B1 := Below.next B0 b1
  go_wp2_with fail
  refine (pnorm_far (hT.below B1) (by omega)).mono ?_
  rintro e9 w2 ⟨v2, rfl, r2, b2, f2⟩
  have hR := norm_length_le T
  have HRc : Hid (∀ j, j < m → co (norm T) j = keP s known j) := fun j hj => by rw [co_norm]; exact hTc j hj
  have HRn : Hid (norm (norm T) = norm T) := norm_mk (co_fin _)
  obtain ⟨R, hR9⟩ : ∃ R, Hid (R = norm T) := ⟨_, rfl⟩
  rw [← hR9.out] at r2 hR HRc HRn
  obtain ⟨a2, c2, rfl⟩ := r2.form
  have B2 : Below u0.heap.size u0 w2 := Below.next b1 b2
  have S0 := sz0.out
  have cf2 := (B2.cell (p := ⟨w.heap.size, 0, none⟩) (by show w.heap.size < _; omega)).trans cf0
  have cc2 := (B2.cell (p := ⟨w.heap.size + 1, 0, none⟩) (by show w.heap.size + 1 < _; omega)).trans cc0
  have cl2 := (B2.cell (p := ⟨w.heap.size + 1 + 1, 0, none⟩) (by show w.heap.size + 1 + 1 < _; omega)).trans cl0
  have gc2 := (B2.frozen (p := ⟨w.heap.size + 1, 0, none⟩) (by show w.heap.size + 1 < _; omega)).trans gc0
  have gl2 := (B2.frozen (p := ⟨w.heap.size + 1 + 1, 0, none⟩) (by show w.heap.size + 1 + 1 < _; omega)).trans gl0
  have S2 := B2.size
  have q0 : w.heap.size < w2.heap.size := by omega
  have q1 : w.heap.size + 1 < w2.heap.size := by omega
  have q2 : w.heap.size + 1 + 1 < w2.heap.size := by omega
  have q3 : w.heap.size + 1 + 1 ≠ w2.heap.size := by omega
  have q4 : w.heap.size + 1 ≠ w2.heap.size := by omega
  have z1 := b1.size
  have z2 := b2.size
  have r1' := r1.below b2
  have HBw : Hid (Below w.heap.size w w2) := Below.next B0 B2
  clear cf0 cc0 cl0 gc0 gl0
  go_wp2_with fail
  obtain ⟨fb, hfb⟩ : ∃ fb, fb = w.heap.size := ⟨_, rfl⟩
  obtain ⟨cb, hcb⟩ : ∃ cb, cb = w.heap.size + 1 := ⟨_, rfl⟩
  obtain ⟨lb, hlb⟩ : ∃ lb, lb = w.heap.size + 1 + 1 := ⟨_, rfl⟩
  obtain ⟨ab, hab⟩ : ∃ ab, ab = w2.heap.size := ⟨_, rfl⟩
  obtain ⟨vb, hvb⟩ : ∃ vb, vb = w2.heap.size + 1 + 1 := ⟨_, rfl⟩
  obtain ⟨ob, hob⟩ : ∃ ob, ob = w2.heap.size + 1 := ⟨_, rfl⟩
  obtain ⟨u, hu⟩ : ∃ u, u = (((((w2.setCell ⟨lb, 0, none⟩ (.slice a2 R.length c2)).setCell ⟨cb, 0, none⟩ (.slice (some ⟨ob, 0, none⟩) 1 1)).alloc (.cells #[.slice a1 X.length c1] 36)).alloc (.cells #[.int .u8 1] 5)).alloc (.cells #[.slice none 0 0] 36)) := ⟨_, rfl⟩
  rw [← hlb, ← hcb, ← hfb, ← hvb, ← hob, ← hab, ← hu]
  have HE : Eu9 u b fb ab lb cb vb (.slice a1 X.length c1) (.slice a2 R.length c2) (.slice (some ⟨ob, 0, none⟩) 1 1) (.slice none 0 0) := by
    rw [← hfb] at cf2 q0
    rw [← hcb] at cc2 gc2
    rw [← hlb] at cl2 gl2
    have n1 : lb ≠ cb := by omega
    have n2 : fb ≠ lb := by omega
    have n3 : fb ≠ cb := by omega
    obtain ⟨w3, h3⟩ : ∃ w3, w3 = (w2.setCell ⟨lb, 0, none⟩ (.slice a2 R.length c2)).setCell ⟨cb, 0, none⟩ (.slice (some ⟨ob, 0, none⟩) 1 1) := ⟨_, rfl⟩
    have s3 : w3.heap.size = w2.heap.size := by rw [h3]; simp
    have d0 : w3.cell? ⟨fb, 0, none⟩ = some (.pointer (some ⟨b, 0, none⟩)) := by rw [h3]; simp [go_sem, cf2, n2, n3, Ne.symm n2, Ne.symm n3]
    have d1 : w3.cell? ⟨lb, 0, none⟩ = some (.slice a2 R.length c2) := by rw [h3]; simp [go_sem, cl2, n1, Ne.symm n1]
    have d2 : w3.cell? ⟨cb, 0, none⟩ = some (.slice (some ⟨ob, 0, none⟩) 1 1) := by rw [h3]; simp [go_sem, cc2, n1, Ne.symm n1]
    have d3 : w3.frozen? ⟨lb, 0, none⟩ = false := by rw [h3]; simp [go_sem, gl2]
    have d4 : w3.frozen? ⟨cb, 0, none⟩ = false := by rw [h3]; simp [go_sem, gc2]
    rw [← h3] at hu
    have B3 : Below w3.heap.size w3 u := by rw [hu]; exact below_lit (below_lit (below_lit (Below.refl _ _) _) _) _
    have l0 : fb < w3.heap.size := by omega
    have l1 : lb < w3.heap.size := by omega
    have l2 : cb < w3.heap.size := by omega
    have hab' : ab = w3.heap.size := by omega
    have hvb' : vb = w3.heap.size + 1 + 1 := by omega
    refine ⟨(B3.cell (p := ⟨fb, 0, none⟩) l0).trans d0, ?_, (B3.cell (p := ⟨lb, 0, none⟩) l1).trans d1, (B3.cell (p := ⟨cb, 0, none⟩) l2).trans d2, ?_, ?_, (B3.frozen (p := ⟨lb, 0, none⟩) l1).trans d3, (B3.frozen (p := ⟨cb, 0, none⟩) l2).trans d4, ?_⟩
    · rw [hu, hab']; go_simp
    · rw [hu, hvb']; go_simp
    · rw [hu, hab']; go_simp
    · rw [hu, hvb']; go_simp
  have bw := hF.lt
  have HS : Sep9 b fb ab lb cb vb := by constructor <;> omega
  have T3 : TurnL [lb, cb] w2 u := by
    rw [hu]
    refine TurnL.trans (b := (w2.setCell ⟨lb, 0, none⟩ (.slice a2 R.length c2)).setCell ⟨cb, 0, none⟩ (.slice (some ⟨ob, 0, none⟩) 1 1)) (((TurnL.refl _ w2).put (by simp) 0 _).put (by simp) 0 _) ?_
    exact Below.turnL (below_lit (below_lit (below_lit (Below.refl _ _) _) _) _) _
  have HBu : Below w.heap.size w u := HBw.out.trans (T3.below (fun g hg => by simp at hg; omega) (by omega))
  have g4 : ∀ g, g ∈ [ab, lb, cb, vb] → g < u0.heap.size ∨ w2.heap.size ≤ g := fun g hg => by simp at hg; omega
  have g2 : ∀ g, g ∈ [lb, cb] → g < u0.heap.size ∨ w2.heap.size ≤ g := fun g hg => by simp at hg; omega
  have ra : Rd u (.slice a1 X.length c1) X := r1'.turnL (ApartL.mid r1' f1 g2) T3
  have rl : Rd u (.slice a2 R.length c2) R := r2.turnL (ApartL.mid r2 (f2.mono z1) g2) T3
  have pl : ApartL [ab, lb, cb, vb] (.slice a2 R.length c2) := ApartL.mid r2 (f2.mono z1) g4
  have pc : ApartL [ab, lb, cb, vb] (.slice (some ⟨ob, 0, none⟩) 1 1) := fun x n c e9 => Or.inr (by simp at e9; obtain ⟨rfl, _, _⟩ := e9; simp; omega)
  have rc : Rd u (.slice (some ⟨ob, 0, none⟩) 1 1) [1] := by
    refine Or.inr ⟨ob, 0, 1, by simp, rfl, by simp, by unfold maxLen; simp, ?_, fun i hi => ?_⟩
    · rw [hu]; simp; omega
    · simp at hi; subst hi
      obtain ⟨w3, h3⟩ : ∃ w3, w3 = (w2.setCell ⟨lb, 0, none⟩ (.slice a2 R.length c2)).setCell ⟨cb, 0, none⟩ (.slice (some ⟨ob, 0, none⟩) 1 1) := ⟨_, rfl⟩
      have s3 : w3.heap.size = w2.heap.size := by rw [h3]; simp
      have hob' : ob = w3.heap.size + 1 := by omega
      rw [← h3] at hu
      rw [hu, hob']; go_simp
      rfl
  have HE0 : EuL s known e X R [] [1] := by
    have h0 : m = s.length := hm.out
    have hX1 : X = xpL s.length := by rw [hX.out, h0]
    rw [hX1]
    exact EuL.start (by omega) (co_xpL _) (xpL_length _) (fun j hj => HRc.out j (by omega)) (by omega) HRn.out
  have HG : Hid (∀ g, g ∈ [ab, lb, cb, vb] → w.heap.size ≤ g) := fun g hg => by simp at hg; omega
  have HI : Hid (Eu9 u b fb ab lb cb vb (.slice a1 X.length c1) (.slice a2 R.length c2) (.slice (some ⟨ob, 0, none⟩) 1 1) (.slice none 0 0) ∧ EuL s known e X R [] [1] ∧ Rd u (.slice a1 X.length c1) X ∧ Rd u (.slice a2 R.length c2) R ∧ Rd u (.slice (some ⟨ob, 0, none⟩) 1 1) [1] ∧ Rd u (.slice none 0 0) [] ∧ ApartL [ab, lb, cb, vb] (.slice a2 R.length c2) ∧ ApartL [ab, lb, cb, vb] (.slice (some ⟨ob, 0, none⟩) 1 1) ∧ ApartL [ab, lb, cb, vb] (.slice none 0 0) ∧ Below w.heap.size w u) :=
    ⟨HE, HE0, ra, rl, rc, rd9_nil _, pl, pc, ApartL.nil _ _ _, HBu⟩
  have HS' : Hid _ := HS
  clear HE HE0 ra rl rc pl pc HBu T3 HS g2 g4 bw hu hob hvb hab hlb hcb hfb r1 r1' r2 f1 f2 b1 b2 B0 B1 B2 cf2 cc2 cl2 gc2 gl2 q0 q1 q2 q3 q4 z1 z2 S0 S2 sz0 HBw HRc HRn hR9 hR hTc hTl hT HX hX hN
  go_step3
  go_wp2_with fail
  go_loopw [13] (fun d wr => ∃ va vl vc vv A L C V, Eu9 wr b fb ab lb cb vb va vl vc vv ∧ EuL s known e A L V C ∧ V.length ≤ 301 ∧ Rd wr va A ∧ Rd wr vl L ∧ Rd wr vc C ∧ Rd wr vv V ∧ ApartL [ab, lb, cb, vb] vl ∧ ApartL [ab, lb, cb, vb] vc ∧ ApartL [ab, lb, cb, vb] vv ∧ Below w.heap.size w wr) (fun d wr => lenV ((wr.cell? ⟨lb, 0, none⟩).getD undef))
  case atStart =>
    obtain ⟨h1, h2, h3, h4, h5, h6, h7, h8, h9, h10⟩ := HI.out
    exact ⟨_, _, _, _, _, _, _, _, h1, h2, by simp, h3, h4, h5, h6, h7, h8, h9, h10⟩
  case round =>
    clear HI
    obtain ⟨va, vl, vc, vv, A, L, C, V, hE, hU, hV, ra, rl, rc, rv, pl, pc, pv, hB⟩ := hrel
    obtain ⟨la, lc, rfl⟩ := rl.form
    obtain ⟨ca, cc, rfl⟩ := rc.form
    obtain ⟨f1, f2, f3, f4, f5⟩ := hU.fac
    rw [← hm.out] at f2 f3 f5
    have cl := hE.cl
    have hLn : Hid (norm L = L) := hU.n1
    obtain ⟨l, hl9⟩ : ∃ l, Hid (l = L.length) := ⟨_, rfl⟩
    have hl2 : l ≤ 301 := by have := hl9.out; omega
    obtain ⟨M, hM⟩ : ∃ M, Hid (M = m + e) := ⟨_, rfl⟩
    have gM : (m : Int) + (e : Int) = (M : Int) := by have := hM.out; omega
    have hM6 : M ≤ 600 := by have := hM.out; omega
    have gMw : IntKind.i64.wrap (M : Int) = (M : Int) := by rw [IntKind.wrap_i64]; omega
    have gw1 : IntKind.i64.wrap ((l : Int) - 1) = (l : Int) - 1 := by rw [IntKind.wrap_i64]; omega
    have gw2 : IntKind.i64.wrap (2 * ((l : Int) - 1)) = 2 * ((l : Int) - 1) := by rw [IntKind.wrap_i64]; omega
    by_cases hlt : 2 * l ≤ M + 1
    · have hlt' : 2 * ((l : Int) - 1) < (M : Int) := by omega
      have HU : Hid _ := hU
      have HEnd : Hid (2 * L.length ≤ s.length + e + 1) := by show _ ≤ _; have := hM.out; have := hl9.out; have := hm.out; omega
      have cc9 := hE.cc
      have gc9 := hE.gc
      have gl9 := hE.gl
      have n4 : lb ≠ cb := HS'.out.n4
      rw [← hl9.out] at cl rl
      clear hU
      clear ra rv pv f1 f3 f4 f5 hLn hF
      go_wp2_with fail
      go_region
      go_wp2
      rw [Exit.noGoto_ret]
      obtain ⟨w9, h9⟩ : ∃ w9, w9 = ((wr.setCell ⟨cb, 0, none⟩ (.slice ca C.length cc)).setCell ⟨lb, 0, none⟩ (.slice la l lc)).drew := ⟨_, rfl⟩
      rw [← h9]
      have d1 : w9.cell? ⟨cb, 0, none⟩ = some (.slice ca C.length cc) := by rw [h9]; simp [go_sem, cc9, n4, Ne.symm n4]
      have d2 : w9.cell? ⟨lb, 0, none⟩ = some (.slice la l lc) := by rw [h9]; simp [go_sem, cl, n4, Ne.symm n4]
      have T9 : TurnL [ab, lb, cb, vb] wr w9 := by rw [h9]; exact (((TurnL.refl _ wr).put (by simp) 0 _).put (by simp) 0 _).drew
      refine bodyPost_ret (v := .tuple #[.slice ca C.length cc, .slice la l lc]) (by simp [results, Tryz.results196, go_sem, d1, d2]) rfl ?_
      exact ⟨A, V, L, C, _, _, HU.out, HEnd.out, rfl, rc.turnL pc T9, rl.turnL (by rw [hl9.out]; exact pl) T9, hB.trans (T9.below HG.out hB.size)⟩
    · have hlt' : ¬ 2 * ((l : Int) - 1) < (M : Int) := by omega
      have hne : norm L ≠ [] := by rw [hLn.out]; intro e9; have := hl9.out; rw [e9] at this; simp at this; omega
      have HC := kst_any (hF.below hB) hE HS'.out ra rl rc rv pl pc pv (by omega) (by omega) (by omega) (by omega) hne (fun q r h => by have := h.ls; omega)
      rw [← hl9.out] at cl
      have hs9 : s.length + e + 2 ≤ 2 * L.length := by have := hM.out; have := hl9.out; have := hm.out; omega
      have HStep : Hid (∀ q r, IsDiv A L q r → EuL s known e L r C (addP V (mulP q C)) ∧ r.length < L.length) := fun q r hd => ⟨hU.step hs9 hd, by have := hd.less; rw [hLn.out] at this; exact this⟩
      have hC3 : C.length ≤ 301 := by omega
      clear hU hs9 hne hE ra rl rc rv pv hF HS' f1 f2 f3 f4 f5 hLn
      go_wp2_with fail
      refine HC.mono ?_
      rintro e9 w9 ⟨rfl, q, r, vr, vn, hd, hE9, rl9, rr9, rn9, rc9, pr9, pn9, T9⟩
      obtain ⟨hU9, hr9⟩ := HStep.out q r hd
      have HU9 : Hid _ := hU9
      have HB9 : Hid (Below w.heap.size w w9) := hB.trans (T9.below HG.out hB.size)
      obtain ⟨rra, rrc, rfl⟩ := rr9.form
      have HMe : Hid (lenV ((w9.cell? ⟨lb, 0, none⟩).getD undef) < lenV ((wr.cell? ⟨lb, 0, none⟩).getD undef)) := by
        show _ < _
        rw [hE9.cl, cl, Option.getD_some, Option.getD_some]
        show r.length < l
        rw [hl9.out]; exact hr9
      have HAll : Hid (∃ va vl vc vv A L C V, Eu9 w9 b fb ab lb cb vb va vl vc vv ∧ EuL s known e A L V C ∧ V.length ≤ 301 ∧ Rd w9 va A ∧ Rd w9 vl L ∧ Rd w9 vc C ∧ Rd w9 vv V ∧ ApartL [ab, lb, cb, vb] vl ∧ ApartL [ab, lb, cb, vb] vc ∧ ApartL [ab, lb, cb, vb] vv ∧ Below w.heap.size w w9) :=
        ⟨_, _, _, _, _, _, _, _, hE9, HU9.out, hC3, rl9, rr9, rn9, rc9, pr9, pn9, pc, HB9.out⟩
      clear HC hU9 hr9 HStep hE9 rl9 rr9 rn9 rc9 pr9 pn9 T9 hd pl pc hB
      go_wp2
      go_roundw
      case rel => exact HAll.out
      case measure => exact HMe.out
end Go.Proofs.YtddnfhfangfgeaaGreat.Gf

namespace Go.Proofs.YtddnfhfangfgeaaGreat.Gf
set_option linter.unusedVariables false
set_option linter.unusedSimpArgs false
open Go.RowKit
theorem rd_e9 {w : World} {a : Option Addr} {c n : Nat} (h1 : c - n ≤ maxLen) (h2 : a = none → c = 0) : Rd w (.slice (Option.map (fun x => x.add n) a) 0 (c - n)) [] :=
  Or.inl ⟨_, _, rfl, rfl, h1, fun e => by
    cases a with
    | none => rw [h2 rfl]; exact Nat.zero_sub n
    | some x => cases e⟩
set_option maxRecDepth 100000 in
set_option maxHeartbeats 1000000 in
theorem kfrom_any {w : World} {v : Value} {p : List UInt8} (hp : Rd w v p) (hl : p.length ≤ 100000) {m : Nat} (hm : m ≤ 100000) {x : Int} (hx : x = (m : Int)) : Calls Tryz.prog 198 #[v, .int .i64 x] w (MakesF w (norm (p.drop m))) := by
  subst hx
  by_cases hlt : m < p.length
  · obtain ⟨b, off, c, rfl, hc1, hc2⟩ := hp.spot9 (by omega)
    have hr := hp.behind hlt rfl
    unfold maxLen at hc2
    obtain ⟨n, hn⟩ : ∃ n, Hid (n = p.length) := ⟨_, rfl⟩
    obtain ⟨k, hk⟩ : ∃ k, Hid (k = n - m) := ⟨_, rfl⟩
    have hdl : Hid ((p.drop m).length ≤ 100000) := by show _ ≤ _; rw [List.length_drop]; omega
    rw [← hn.out] at hr hlt hc1 hl ⊢
    rw [← hk.out] at hr
    have hlt' : (m : Int) < (n : Int) := by omega
    have hge : ¬ (n : Int) < (m : Int) := by omega
    have hmn : m ≤ n := by omega
    have hmc : m < c := by omega
    have hcm : ¬ c = m := by omega
    have hnk : n - m = k := by rw [hk.out]
    go_enter Tryz.func198, Tryz.ntmps198
    go_wp2_with fail
    refine (pnorm_far hr (Nat.le_trans hdl.out (by decide))).mono ?_
    rintro e w2 ⟨v2, rfl, hr2, hb2, hf2⟩
    go_wp2
    go_ret
    exact ⟨_, rfl, hr2, hb2, hf2⟩
  · have hd : p.drop m = [] := List.drop_eq_nil_of_le (by omega)
    rw [hd]
    obtain ⟨a, c, rfl⟩ := hp.form
    have hc : p.length ≤ c ∧ c ≤ maxLen ∧ (a = none → c = 0) := by
      rcases hp with ⟨a', c', e, e2, h3, h4⟩ | ⟨b, o, c', h1, e2, h3, h4, _⟩
      · simp at e2; obtain ⟨rfl, _, rfl⟩ := e2; subst e; exact ⟨Nat.zero_le _, h3, h4⟩
      · simp at e2; obtain ⟨rfl, rfl⟩ := e2; exact ⟨h3, h4, fun h => by cases h⟩
    obtain ⟨hc1, hc2, hc3⟩ := hc
    obtain ⟨n, hn⟩ : ∃ n, Hid (n = p.length) := ⟨_, rfl⟩
    rw [← hn.out] at hlt hc1 hl ⊢
    clear hp hd
    have hlt' : ¬ (m : Int) < (n : Int) := by omega
    unfold maxLen at hc2
    go_enter Tryz.func198, Tryz.ntmps198
    by_cases e1 : (n : Int) < (m : Int)
    · go_wp2_with fail
      · refine (pnorm_far (p := []) (Or.inl ⟨_, _, rfl, rfl, Nat.zero_le _, fun _ => rfl⟩) (by decide)).mono ?_
        rintro e w2 ⟨v2, rfl, hr2, hb2, hf2⟩
        go_wp2
        go_ret
        exact ⟨_, rfl, hr2, hb2, hf2⟩
      · refine (pnorm_far (p := []) (rd_e9 (by unfold maxLen; omega) hc3) (by decide)).mono ?_
        rintro e w2 ⟨v2, rfl, hr2, hb2, hf2⟩
        go_wp2
        go_ret
        exact ⟨_, rfl, hr2, hb2, hf2⟩
    · obtain rfl : n = m := by omega
      clear e1 hlt' hlt
      go_wp2_with fail
      · refine (pnorm_far (p := []) (Or.inl ⟨_, _, rfl, rfl, Nat.zero_le _, fun _ => rfl⟩) (by decide)).mono ?_
        rintro e w2 ⟨v2, rfl, hr2, hb2, hf2⟩
        go_wp2
        go_ret
        exact ⟨_, rfl, hr2, hb2, hf2⟩
      · refine (pnorm_far (p := []) (rd_e9 (by unfold maxLen; omega) hc3) (by decide)).mono ?_
        rintro e w2 ⟨v2, rfl, hr2, hb2, hf2⟩
        go_wp2
        go_ret
        exact ⟨_, rfl, hr2, hb2, hf2⟩
end Go.Proofs.YtddnfhfangfgeaaGreat.Gf

namespace Go.Proofs.YtddnfhfangfgeaaGreat.Gf
set_option linter.unusedVariables false
set_option linter.unusedSimpArgs false
open Go.RowKit
theorem Rd.first9 {w : World} {a : Option Addr} {n c k : Nat} {p : List UInt8} (h : Rd w (.slice a n c) p) (hk : k ≤ n) : Rd w (.slice a k c) (p.take k) := by
  rcases h with ⟨a', c', e, e2, h3, h4⟩ | ⟨b, off, c', h1, e2, h3, h4, h5, h6⟩
  · simp at e2
    obtain ⟨rfl, rfl, rfl⟩ := e2
    subst e
    obtain rfl : k = 0 := by omega
    exact Or.inl ⟨_, _, rfl, rfl, h3, h4⟩
  · simp at e2
    obtain ⟨rfl, rfl, rfl⟩ := e2
    have hl : (p.take k).length = k := by rw [List.length_take]; omega
    by_cases h0 : k = 0
    · subst h0
      exact Or.inl ⟨_, _, by simp, rfl, h4, fun h => by cases h⟩
    · refine Or.inr ⟨b, off, c, fun e => by rw [e] at hl; simp at hl; omega, by rw [hl], by rw [hl]; omega, h4, h5, fun i hi => ?_⟩
      rw [hl] at hi
      rw [co_take hi]
      exact h6 i (by omega)
theorem Rd.caps {w : World} {a : Option Addr} {n c : Nat} {p : List UInt8} (h : Rd w (.slice a n c) p) : n = p.length ∧ n ≤ c ∧ c ≤ 9223372036854775807 := by
  rcases h with ⟨a', c', e, e2, h3, h4⟩ | ⟨b, off, c', h1, e2, h3, h4, h5, h6⟩
  · simp at e2; obtain ⟨rfl, rfl, rfl⟩ := e2; subst e; unfold maxLen at h3; exact ⟨rfl, Nat.zero_le _, by omega⟩
  · simp at e2; obtain ⟨rfl, rfl, rfl⟩ := e2; unfold maxLen at h4; exact ⟨rfl, h3, by omega⟩
theorem keP_told (s known : List UInt8) : co (mulP (norm known) s.reverse) = keP s known := by
  rw [co_mulP, co_norm]; rfl
theorem told_take {s known : List UInt8} {k : Nat} (hk : k = min s.length (mulP (norm known) s.reverse).length) : ((mulP (norm known) s.reverse).take k).length ≤ s.length ∧ ∀ j, j < s.length → co ((mulP (norm known) s.reverse).take k) j = keP s known j := by
  rw [← keP_told]
  refine ⟨by rw [List.length_take]; omega, fun j hj => ?_⟩
  by_cases h : j < k
  · rw [co_take h]
  · rw [co_ge (p := (mulP (norm known) s.reverse).take k) (by rw [List.length_take]; omega), co_ge (by omega)]
theorem eva_told {s known : List UInt8} {t : Nat} {L : Nat → UInt8} (h : Fin0 L (t + 1)) : norm ((mulP (upto L (t + 1)) (mulP (norm known) s.reverse)).drop s.length) = evaL s known t L := by
  have e : co (upto L (t + 1)) = L := funext fun i => co_upto h i
  have hf := fin_conv (upto L (t + 1)) (mulP (norm known) s.reverse)
  have e1 : (mulP (upto L (t + 1)) (mulP (norm known) s.reverse)).drop s.length = evaL s known t L := by
    unfold evaL
    show (mk (conv (co (upto L (t + 1))) (co (mulP (norm known) s.reverse))) _).drop s.length = _
    rw [keP_told, e] at hf ⊢
    exact drop_mk hf (eva_fin h)
  rw [e1]
  exact norm_mk (eva_fin h)
set_option maxRecDepth 100000 in
set_option maxHeartbeats 4000000 in
theorem ksol_any {w : World} {b : Nat} {vs vk : Value} {s known : List UInt8} (hF : FieldAt w b) (hs : Rd w vs s) (hk : Rd w vk known) (hl : s.length ≤ 300) (hl2 : known.length ≤ 300) : Calls Tryz.prog 169 #[.pointer (some ⟨b, 0, none⟩), vs, vk] w (MakesK w s known) := by
  obtain ⟨sa, sc, rfl⟩ := hs.form
  go_enter Tryz.func169, Tryz.ntmps169
  go_wp2_with fail
  refine (pnorm_any hk (by omega)).mono ?_
  rintro e9 w1 ⟨v1, rfl, r1, b1⟩
  have hn := norm_length_le known
  obtain ⟨K, hK⟩ : ∃ K, Hid (K = norm known) := ⟨_, rfl⟩
  rw [← hK.out] at r1 hn
  obtain ⟨ka, kc, rfl⟩ := r1.form
  replace hs := hs.below b1
  have hF1 := hF.below b1
  obtain ⟨m, hm⟩ : ∃ m, Hid (m = s.length) := ⟨_, rfl⟩
  obtain ⟨n, hn9⟩ : ∃ n, Hid (n = K.length) := ⟨_, rfl⟩
  have hm3 : m ≤ 300 := by rw [hm.out]; exact hl
  have hn3 : n ≤ 300 := by rw [hn9.out]; omega
  rw [← hm.out] at hs ⊢
  rw [← hn9.out] at r1 ⊢
  have gw1 : IntKind.i64.wrap ((n : Int) - 1) = (n : Int) - 1 := by rw [IntKind.wrap_i64]; omega
  clear hn hk hF
  by_cases h0 : n = 0
  · have g1 : (n : Int) - 1 < 0 := by omega
    have HF : Hid (KeyAns s known 1 [] []) := Or.inl ⟨Or.inl (by rw [← hK.out, ← hn9.out]; exact h0), rfl, rfl, rfl⟩
    clear h0
    go_wp2
    go_ret3
    exact MakesK.mk HF.out (rd9_nil _) (rd9_nil _) b1
  by_cases h1 : m + 1 < n
  · have g1 : ¬ (n : Int) - 1 < 0 := by omega
    have g2 : (n : Int) - 1 > (m : Int) := by omega
    have HF : Hid (KeyAns s known 1 [] []) := Or.inl ⟨Or.inr (by rw [← hK.out, ← hn9.out, ← hm.out]; exact h1), rfl, rfl, rfl⟩
    clear h0 h1
    go_wp2
    go_ret3
    exact MakesK.mk HF.out (rd9_nil _) (rd9_nil _) b1
  have hB : Hid (¬ BadK s known) := by
    unfold Hid BadK
    rw [← hK.out, ← hn9.out, ← hm.out]
    omega
  obtain ⟨E, hE⟩ : ∃ E, Hid (E = n - 1) := ⟨_, rfl⟩
  have gE : (n : Int) - 1 = (E : Int) := by have := hE.out; omega
  have hEm : E ≤ m := by have := hE.out; omega
  have g1 : ¬ (E : Int) < 0 := by omega
  have g2 : ¬ (E : Int) > (m : Int) := by omega
  have gw2 : IntKind.i64.wrap (E : Int) = (E : Int) := by rw [IntKind.wrap_i64]; omega
  clear gw1 h0 h1
  have hsl : Hid (s.length ≤ 1000) := by show _ ≤ _; omega
  go_wp2_with fail
  refine (kturn_any hs hsl.out).mono ?_
  rintro e9 w2 ⟨v2, rfl, r2, b2, _⟩
  replace b1 := Below.next b1 b2
  replace r1 := r1.below b2
  have hF2 := hF1.below b2
  have hrl : Hid (s.reverse.length = m) := by show _ = _; rw [List.length_reverse, hm.out]
  clear hF1 hs b2
  go_wp2_with fail
  refine (pmul_any hF2 r1 r2 (by rw [← hn9.out]; omega) (by rw [hrl.out]; omega)).mono ?_
  rintro e9 w3 ⟨v3, rfl, r3, b3⟩
  have hpl := mulP_length_le K s.reverse
  rw [← hn9.out, hrl.out] at hpl
  obtain ⟨P, hP⟩ : ∃ P, Hid (P = mulP K s.reverse) := ⟨_, rfl⟩
  rw [← hP.out] at r3 hpl
  have HP : Hid (P = mulP (norm known) s.reverse) := by show _ = _; rw [hP.out, hK.out]
  obtain ⟨pa, pc, rfl⟩ := r3.form
  obtain ⟨_, hpc, hpm⟩ := r3.caps
  replace b1 := Below.next b1 b3
  have hF3 := hF2.below b3
  obtain ⟨pn, hpn⟩ : ∃ pn, Hid (pn = P.length) := ⟨_, rfl⟩
  rw [← hpn.out] at hpl hpc r3 ⊢
  clear hF2 r1 r2 b3
  obtain ⟨k, hk⟩ : ∃ k, Hid (k = min m pn) := ⟨_, rfl⟩
  have hkn : k ≤ pn := by have := hk.out; omega
  have hkc : k ≤ pc := by omega
  have rT := r3.first9 hkn
  have HT : Hid ((P.take k).length ≤ s.length ∧ ∀ j, j < s.length → co (P.take k) j = keP s known j) := by
    rw [HP.out]
    exact told_take (by rw [hk.out, hpn.out, HP.out, hm.out])
  obtain ⟨HT1, HT2⟩ := HT.out
  have HC := keuc_any (e := E) hF3 rT HT1 HT2 hl (by rw [← hm.out]; exact hEm) rfl rfl
  rw [← hm.out] at HC
  clear HT1 HT2 rT
  rcases Nat.lt_or_ge pn m with hlt | hge
  rotate_left
  · have ek : k = m := by have := hk.out; omega
    rw [ek] at HC hkn hkc
    have hlt' : ¬ (pn : Int) < (m : Int) := by omega
    clear ek
    go_wp2_with fail
    refine HC.mono ?_
    rintro e9 w4 ⟨r0, v0, R1, C1, vc, vl, hU, hEnd, rfl, rc, rl, b4⟩
    obtain ⟨f1, f2, f3, f4, f5⟩ := hU.fac
    rw [← hm.out] at f2 f3 f5
    obtain ⟨ca, cc, rfl⟩ := rc.form
    obtain ⟨la, lc, rfl⟩ := rl.form
    replace b1 := Below.next b1 b4
    replace r3 := r3.below b4
    have hF4 := hF3.below b4
    obtain ⟨c, hc⟩ : ∃ c, Hid (c = C1.length) := ⟨_, rfl⟩
    obtain ⟨t, ht⟩ : ∃ t, Hid (t = c - 1) := ⟨_, rfl⟩
    obtain ⟨l, hl9⟩ : ∃ l, Hid (l = R1.length) := ⟨_, rfl⟩
    have hc1 : 1 ≤ c := by rw [hc.out]; exact f1
    have hc2 : c ≤ 301 := by rw [hc.out]; omega
    have hl3 : l ≤ 301 := by rw [hl9.out]; omega
    have gt : (c : Int) - 1 = (t : Int) := by have := ht.out; omega
    have ht3 : t ≤ 300 := by have := ht.out; omega
    have gtw : IntKind.i64.wrap (t : Int) = (t : Int) := by rw [IntKind.wrap_i64]; omega
    obtain ⟨q, hq⟩ : ∃ q, Hid (q = E + t) := ⟨_, rfl⟩
    have gq : (E : Int) + (t : Int) = (q : Int) := by have := hq.out; omega
    have hq6 : q ≤ 600 := by have := hq.out; omega
    have gqw : IntKind.i64.wrap (q : Int) = (q : Int) := by rw [IntKind.wrap_i64]; omega
    have HE2 : Hid ((norm known).length - 1 = E) := by show _ = _; rw [← hK.out, ← hn9.out, hE.out]
    rcases Nat.lt_or_ge q l with hql | hql
    · have g3 : (l : Int) > (q : Int) := by omega
      have HF : Hid (KeyAns s known 100 [] []) := by
        refine Or.inr (Or.inr ⟨hB.out, ?_, rfl, rfl, rfl⟩)
        rw [HE2.out]
        exact hU.none hEnd (by rw [← hc.out, ← ht.out, ← hq.out, ← hl9.out]; exact hql)
      rw [← hc.out, ← hl9.out]
      clear HC hU hEnd f1 f2 f3 f4 f5 rc rl r3 HT hF3 hF4 b4
      go_wp2
      go_ret3
      exact MakesK.mk HF.out (rd9_nil _) (rd9_nil _) b1
    · have g3 : ¬ (l : Int) > (q : Int) := by omega
      obtain ⟨k1, k2, k3⟩ := hU.least hEnd (by rw [← hc.out, ← ht.out, ← hq.out, ← hl9.out]; exact hql)
      have HL : Hid (LeastLoc (keP s known) s.length E t (fun j => mu (iv (co C1 (C1.length - 1))) (co C1 j))) := by
        show LeastLoc _ _ _ _ _
        rw [ht.out, hc.out]; exact k3
      have HC5 := ktop_any hF4 rc (by omega) k1 k2
      obtain ⟨A, hA⟩ : ∃ A, Hid (A = fun j => mu (iv (co C1 (C1.length - 1))) (co C1 j)) := ⟨_, rfl⟩
      rw [← hA.out] at HC5 HL
      rw [show C1.length - 1 + 1 = t + 1 by rw [ht.out, hc.out]] at HC5
      obtain ⟨AL, hAL⟩ : ∃ AL, Hid (AL = upto A (t + 1)) := ⟨_, rfl⟩
      have hALl : Hid (AL.length = t + 1) := by show _ = _; rw [hAL.out, upto_length]
      rw [← hAL.out] at HC5
      rw [← hc.out] at HC5 ⊢
      rw [← hl9.out]
      clear HC hU hEnd f1 f2 f3 f4 f5 rc rl HT hF3 b4 k1 k2 k3
      go_wp2_with fail
      refine HC5.mono ?_
      rintro e9 w5 ⟨v5, rfl, r5, b5, _⟩
      replace b1 := Below.next b1 b5
      replace r3 := r3.below b5
      have hF5 := hF4.below b5
      obtain ⟨a5, c5, rfl⟩ := r5.form
      rw [hALl.out] at r5 ⊢
      clear HC5 hF4 b5
      go_wp2_with fail
      refine (pmul_any hF5 r5 r3 (by rw [hALl.out]; omega) (by rw [← hpn.out]; omega)).mono ?_
      rintro e9 w6 ⟨v6, rfl, r6, b6⟩
      have h6 := mulP_length_le AL P
      rw [hALl.out, ← hpn.out] at h6
      have HO : Hid (norm ((mulP AL P).drop m) = evaL s known t A) := by
        show _ = _
        rw [hAL.out, HP.out, hm.out]
        exact eva_told HL.out.loc.fin
      obtain ⟨Q, hQ⟩ : ∃ Q, Hid (Q = mulP AL P) := ⟨_, rfl⟩
      rw [← hQ.out] at r6 h6 HO
      replace b1 := Below.next b1 b6
      replace r5 := r5.below b6
      clear hF5 r3 b6
      go_wp2_with fail
      refine (kfrom_any r6 (by omega) (m := m) (by omega) rfl).mono ?_
      rintro e9 w7 ⟨v7, rfl, r7, b7, _⟩
      rw [HO.out] at r7
      replace b1 := Below.next b1 b7
      replace r5 := r5.below b7
      obtain ⟨a7, c7, rfl⟩ := r7.form
      have HF : Hid (KeyAns s known 0 AL (evaL s known t A)) := by
        rw [hAL.out]
        refine KeyAns.of_loc hB.out ?_
        rw [HE2.out]; exact HL.out
      obtain ⟨O, hO⟩ : ∃ O, Hid (O = evaL s known t A) := ⟨_, rfl⟩
      rw [← hO.out] at r7 HF ⊢
      clear b7 r6
      go_wp2
      go_ret3
      exact MakesK.mk HF.out r5 r7 b1
  · have ek : k = pn := by have := hk.out; omega
    rw [ek] at HC hkn hkc
    have hlt' : (pn : Int) < (m : Int) := by omega
    clear ek
    go_wp2_with fail
    refine HC.mono ?_
    rintro e9 w4 ⟨r0, v0, R1, C1, vc, vl, hU, hEnd, rfl, rc, rl, b4⟩
    obtain ⟨f1, f2, f3, f4, f5⟩ := hU.fac
    rw [← hm.out] at f2 f3 f5
    obtain ⟨ca, cc, rfl⟩ := rc.form
    obtain ⟨la, lc, rfl⟩ := rl.form
    replace b1 := Below.next b1 b4
    replace r3 := r3.below b4
    have hF4 := hF3.below b4
    obtain ⟨c, hc⟩ : ∃ c, Hid (c = C1.length) := ⟨_, rfl⟩
    obtain ⟨t, ht⟩ : ∃ t, Hid (t = c - 1) := ⟨_, rfl⟩
    obtain ⟨l, hl9⟩ : ∃ l, Hid (l = R1.length) := ⟨_, rfl⟩
    have hc1 : 1 ≤ c := by rw [hc.out]; exact f1
    have hc2 : c ≤ 301 := by rw [hc.out]; omega
    have hl3 : l ≤ 301 := by rw [hl9.out]; omega
    have gt : (c : Int) - 1 = (t : Int) := by have := ht.out; omega
    have ht3 : t ≤ 300 := by have := ht.out; omega
    have gtw : IntKind.i64.wrap (t : Int) = (t : Int) := by rw [IntKind.wrap_i64]; omega
    obtain ⟨q, hq⟩ : ∃ q, Hid (q = E + t) := ⟨_, rfl⟩
    have gq : (E : Int) + (t : Int) = (q : Int) := by have := hq.out; omega
    have hq6 : q ≤ 600 := by have := hq.out; omega
    have gqw : IntKind.i64.wrap (q : Int) = (q : Int) := by rw [IntKind.wrap_i64]; omega
    have HE2 : Hid ((norm known).length - 1 = E) := by show _ = _; rw [← hK.out, ← hn9.out, hE.out]
    rcases Nat.lt_or_ge q l with hql | hql
    · have g3 : (l : Int) > (q : Int) := by omega
      have HF : Hid (KeyAns s known 100 [] []) := by
        refine Or.inr (Or.inr ⟨hB.out, ?_, rfl, rfl, rfl⟩)
        rw [HE2.out]
        exact hU.none hEnd (by rw [← hc.out, ← ht.out, ← hq.out, ← hl9.out]; exact hql)
      rw [← hc.out, ← hl9.out]
      clear HC hU hEnd f1 f2 f3 f4 f5 rc rl r3 HT hF3 hF4 b4
      go_wp2
      go_ret3
      exact MakesK.mk HF.out (rd9_nil _) (rd9_nil _) b1
    · have g3 : ¬ (l : Int) > (q : Int) := by omega
      obtain ⟨k1, k2, k3⟩ := hU.least hEnd (by rw [← hc.out, ← ht.out, ← hq.out, ← hl9.out]; exact hql)
      have HL : Hid (LeastLoc (keP s known) s.length E t (fun j => mu (iv (co C1 (C1.length - 1))) (co C1 j))) := by
        show LeastLoc _ _ _ _ _
        rw [ht.out, hc.out]; exact k3
      have HC5 := ktop_any hF4 rc (by omega) k1 k2
      obtain ⟨A, hA⟩ : ∃ A, Hid (A = fun j => mu (iv (co C1 (C1.length - 1))) (co C1 j)) := ⟨_, rfl⟩
      rw [← hA.out] at HC5 HL
      rw [show C1.length - 1 + 1 = t + 1 by rw [ht.out, hc.out]] at HC5
      obtain ⟨AL, hAL⟩ : ∃ AL, Hid (AL = upto A (t + 1)) := ⟨_, rfl⟩
      have hALl : Hid (AL.length = t + 1) := by show _ = _; rw [hAL.out, upto_length]
      rw [← hAL.out] at HC5
      rw [← hc.out] at HC5 ⊢
      rw [← hl9.out]
      clear HC hU hEnd f1 f2 f3 f4 f5 rc rl HT hF3 b4 k1 k2 k3
      go_wp2_with fail
      refine HC5.mono ?_
      rintro e9 w5 ⟨v5, rfl, r5, b5, _⟩
      replace b1 := Below.next b1 b5
      replace r3 := r3.below b5
      have hF5 := hF4.below b5
      obtain ⟨a5, c5, rfl⟩ := r5.form
      rw [hALl.out] at r5 ⊢
      clear HC5 hF4 b5
      go_wp2_with fail
      refine (pmul_any hF5 r5 r3 (by rw [hALl.out]; omega) (by rw [← hpn.out]; omega)).mono ?_
      rintro e9 w6 ⟨v6, rfl, r6, b6⟩
      have h6 := mulP_length_le AL P
      rw [hALl.out, ← hpn.out] at h6
      have HO : Hid (norm ((mulP AL P).drop m) = evaL s known t A) := by
        show _ = _
        rw [hAL.out, HP.out, hm.out]
        exact eva_told HL.out.loc.fin
      obtain ⟨Q, hQ⟩ : ∃ Q, Hid (Q = mulP AL P) := ⟨_, rfl⟩
      rw [← hQ.out] at r6 h6 HO
      replace b1 := Below.next b1 b6
      replace r5 := r5.below b6
      clear hF5 r3 b6
      go_wp2_with fail
      refine (kfrom_any r6 (by omega) (m := m) (by omega) rfl).mono ?_
      rintro e9 w7 ⟨v7, rfl, r7, b7, _⟩
      rw [HO.out] at r7
      replace b1 := Below.next b1 b7
      replace r5 := r5.below b7
      obtain ⟨a7, c7, rfl⟩ := r7.form
      have HF : Hid (KeyAns s known 0 AL (evaL s known t A)) := by
        rw [hAL.out]
        refine KeyAns.of_loc hB.out ?_
        rw [HE2.out]; exact HL.out
      obtain ⟨O, hO⟩ : ∃ O, Hid (O = evaL s known t A) := ⟨_, rfl⟩
      rw [← hO.out] at r7 HF ⊢
      clear b7 r6
      go_wp2
      go_ret3
      exact MakesK.mk HF.out r5 r7 b1
end Go.Proofs.YtddnfhfangfgeaaGreat.Gf

namespace Go.Proofs.YtddnfhfangfgeaaGreat.Gf
set_option linter.unusedVariables false
set_option linter.unusedSimpArgs false
/-- how many of the first n are so -/
def cnt (p : Nat → Bool) : Nat → Nat
  | 0 => 0
  | n + 1 => cnt p n + (if p n then 1 else 0)
theorem cnt_mono {p q : Nat → Bool} {n : Nat} (h : ∀ i, i < n → p i = true → q i = true) : cnt p n ≤ cnt q n := by
  induction n with
  | zero => exact Nat.le_refl _
  | succ n ih =>
    have h1 := ih fun i hi => h i (by omega)
    rw [cnt, cnt]
    by_cases e : p n = true
    · rw [if_pos e, if_pos (h n (by omega) e)]; omega
    · rw [if_neg e]; omega
theorem cnt_or (p q : Nat → Bool) (n : Nat) : cnt (fun i => p i || q i) n ≤ cnt p n + cnt q n := by
  induction n with
  | zero => exact Nat.le_refl _
  | succ n ih =>
    rw [cnt, cnt, cnt]
    cases p n <;> cases q n <;> simp <;> omega
theorem cnt_le (p : Nat → Bool) (n : Nat) : cnt p n ≤ n := by
  induction n with
  | zero => exact Nat.le_refl _
  | succ n ih => rw [cnt]; split <;> omega
theorem cnt_congr {p q : Nat → Bool} {n : Nat} (h : ∀ i, i < n → p i = q i) : cnt p n = cnt q n := by
  induction n with
  | zero => rfl
  | succ n ih => rw [cnt, cnt, ih fun i hi => h i (by omega), h n (by omega)]
/-- the places, rising -/
def plc (p : Nat → Bool) (n : Nat) : List Nat := (List.range n).filter p
theorem plc_succ (p : Nat → Bool) (n : Nat) : plc p (n + 1) = plc p n ++ (if p n then [n] else []) := by
  unfold plc
  rw [List.range_succ, List.filter_append]
  congr 1
  cases h : p n <;> simp [h]
theorem plc_length (p : Nat → Bool) (n : Nat) : (plc p n).length = cnt p n := by
  induction n with
  | zero => rfl
  | succ n ih => rw [plc_succ, cnt, List.length_append, ih]; congr 1; split <;> rfl
theorem plc_mem {p : Nat → Bool} {n i : Nat} : i ∈ plc p n ↔ i < n ∧ p i = true := by unfold plc; rw [List.mem_filter, List.mem_range]
theorem plc_nodup (p : Nat → Bool) (n : Nat) : (plc p n).Nodup := List.Nodup.sublist List.filter_sublist List.nodup_range
/-- the product of z and the points of some places -/
def prL (z : UInt8) : List Nat → UInt8
  | [] => 1
  | i :: I => mu (z ^^^ pt i) (prL z I)
theorem prL_PF (I : List Nat) : PF (I.length + 1) (fun z => prL z I) := by
  induction I with
  | nil => exact PF.const 1
  | cons i I ih => exact (ih.lin (pt i)).congr fun z => rfl
theorem prL_zero {z : UInt8} {I : List Nat} : prL z I = 0 ↔ ∃ i, i ∈ I ∧ z = pt i := by
  induction I with
  | nil => exact ⟨fun h => absurd (show (1 : UInt8) = 0 from h) (by decide), fun ⟨i, h, _⟩ => by simp at h⟩
  | cons a I ih =>
    rw [prL, mu_eq_zero, ih]
    constructor
    · rintro (h | ⟨i, h1, h2⟩)
      · exact ⟨a, by simp, x_eq_zero.1 h⟩
      · exact ⟨i, by simp [h1], h2⟩
    · rintro ⟨i, h1, h2⟩
      rcases List.mem_cons.1 h1 with e | e
      · subst e; exact Or.inl (x_eq_zero.2 h2)
      · exact Or.inr ⟨i, e, h2⟩
/-- a word of the code -/
def CodeW (k m : Nat) (c : Nat → UInt8) : Prop := ∀ l, l < m → synF k m c l = 0
/-- one that is not nought has more than m numbers but 0 -/
theorem mds {k m : Nat} {c : Nat → UInt8} (h : k + m ≤ 256) (hc : CodeW k m c) (hn : cnt (fun i => decide (c i ≠ 0)) (k + m) ≤ m) : ∀ i, i < k + m → c i = 0 := by
  intro j hj
  by_cases e : c j = 0
  · exact e
  · exfalso
    have hjI : j ∈ plc (fun i => decide (c i ≠ 0)) (k + m) := plc_mem.2 ⟨hj, decide_eq_true e⟩
    obtain ⟨I, hI⟩ : ∃ I, I = (plc (fun i => decide (c i ≠ 0)) (k + m)).erase j := ⟨_, rfl⟩
    have hlen : I.length + 1 ≤ m := by
      rw [hI, List.length_erase_of_mem hjI, plc_length]
      have : 0 < (plc (fun i => decide (c i ≠ 0)) (k + m)).length := List.length_pos_of_mem hjI
      rw [plc_length] at this
      omega
    have hs := syn_poly hc ((prL_PF I).mono' hlen)
    rw [S_one (k := j) hj (fun i hi hne => ?_)] at hs
    · rcases mu_eq_zero.1 hs with h1 | h1
      · rcases mu_eq_zero.1 h1 with h2 | h2
        · exact e h2
        · exact wtF_ne h (by omega) h2
      · obtain ⟨i, h2, h3⟩ := prL_zero.1 h1
        rw [hI] at h2
        have h4 := List.Nodup.mem_erase_iff (plc_nodup (fun i => decide (c i ≠ 0)) (k + m)) (a := i) (b := j)
        obtain ⟨h5, h6⟩ := h4.1 h2
        have := (plc_mem.1 h6).1
        exact h5 (pt_inj (by omega) (by omega) h3).symm
    · show mu (mu (c i) (wtF k m i)) (prL (pt i) I) = 0
      by_cases ei : c i = 0
      · rw [ei, zero_mu, zero_mu]
      · rw [prL_zero.2 ⟨i, ?_, rfl⟩, mu_zero]
        rw [hI]
        exact (List.Nodup.mem_erase_iff (plc_nodup _ _)).2 ⟨hne, plc_mem.2 ⟨hi, decide_eq_true ei⟩⟩
theorem CodeW.add {k m : Nat} {c d : Nat → UInt8} (hc : CodeW k m c) (hd : CodeW k m d) : CodeW k m (fun i => c i ^^^ d i) := fun l hl => by
  rw [synF_add (fun i _ => rfl), hc l hl, hd l hl]; rfl
theorem CodeW.congr {k m : Nat} {c d : Nat → UInt8} (hc : CodeW k m c) (h : ∀ i, i < k + m → d i = c i) : CodeW k m d := fun l hl => by
  rw [synF_congr h]; exact hc l hl
/-- where c and z differ, besides what is missing -/
def wrg (z c : Nat → UInt8) (ms : Nat → Bool) (i : Nat) : Bool := !ms i && decide (c i ≠ z i)
/-- a word of the code near z -/
structure Near (k m : Nat) (z : Nat → UInt8) (ms : Nat → Bool) (c : Nat → UInt8) : Prop where
  code : CodeW k m c
  few : 2 * cnt (wrg z c ms) (k + m) + cnt ms (k + m) ≤ m
/-- there is one alone -/
theorem Near.unique {k m : Nat} {z c d : Nat → UInt8} {ms : Nat → Bool} (h : k + m ≤ 256) (hc : Near k m z ms c) (hd : Near k m z ms d) : ∀ i, i < k + m → c i = d i := by
  have key := mds h (hc.code.add hd.code) (by
    have h1 : cnt (fun i => decide (c i ^^^ d i ≠ 0)) (k + m) ≤ cnt (fun i => (ms i || wrg z c ms i) || wrg z d ms i) (k + m) := cnt_mono fun i hi hne => by
      have hne' : c i ≠ d i := fun e => (of_decide_eq_true hne) (x_eq_zero.2 e)
      cases em : ms i
      · by_cases e1 : c i = z i
        · have e2 : d i ≠ z i := fun e => hne' (e1.trans e.symm)
          simp [wrg, em, e2]
        · simp [wrg, em, e1]
      · simp
    have h2 := cnt_or (fun i => ms i || wrg z c ms i) (wrg z d ms) (k + m)
    have h3 := cnt_or ms (wrg z c ms) (k + m)
    have h4 := hc.few
    have h5 := hd.few
    omega)
  intro i hi
  exact x_eq_zero.1 (key i hi)
end Go.Proofs.YtddnfhfangfgeaaGreat.Gf



namespace Go.Proofs.YtddnfhfangfgeaaGreat.Gf
set_option linter.unusedVariables false
set_option linter.unusedSimpArgs false
theorem cnt_not (p : Nat → Bool) (n : Nat) : cnt (fun i => !p i) n + cnt p n = n := by
  induction n with
  | zero => rfl
  | succ n ih => rw [cnt, cnt]; cases p n <;> simp <;> omega
end Go.Proofs.YtddnfhfangfgeaaGreat.Gf

namespace Go.Proofs.YtddnfhfangfgeaaGreat.Gf
set_option linter.unusedVariables false
set_option linter.unusedSimpArgs false
open Go.RowKit
theorem OwnI.free {w : World} {base e g n c : Nat} {zs : List Nat} (h : OwnI w base e (.slice (some ⟨g, 0, none⟩) n c) zs) (i : Nat) : w.frozen? ⟨g, i, none⟩ = false := by
  obtain ⟨a, c', e⟩ := h.form
  simp at e
  obtain ⟨_, rfl, _⟩ := e
  exact World.ownsRow.frozenAt h i
theorem OwnI.store {w : World} {base e g n c : Nat} {zs : List Nat} (h : OwnI w base e (.slice (some ⟨g, 0, none⟩) n c) zs) (i x : Nat) : OwnI (w.setCell ⟨g, i, none⟩ (.int .i64 (x : Int))) base e (.slice (some ⟨g, 0, none⟩) n c) (zs.set i x) := by
  obtain ⟨a, c', e⟩ := h.form
  simp at e
  obtain ⟨_, rfl, _⟩ := e
  have := (World.ownsRow.stored h i (.int .i64 (x : Int))).1
  unfold OwnI
  rw [List.length_set, List.map_set]
  exact this
theorem OwnI.later {w w' : World} {base e : Nat} {v : Value} {zs : List Nat} (h : OwnI w base e v zs) (hb : Below w.heap.size w w') : OwnI w' base e v zs := owns_later h hb
end Go.Proofs.YtddnfhfangfgeaaGreat.Gf







namespace Go.Proofs.YtddnfhfangfgeaaGreat.Gf
set_option linter.unusedVariables false
set_option linter.unusedSimpArgs false
theorem conv_zero_top {f g : Nat → UInt8} {n m : Nat} (hf : Fin0 f (n + 1)) (h1 : f n = 1) (hg : Fin0 g m) (h : ∀ j, n ≤ j → conv f g j = 0) : ∀ i, g i = 0 := by
  induction m with
  | zero => exact fun i => hg i (Nat.zero_le _)
  | succ m ih =>
    have e := conv_top hf hg
    rw [h _ (by omega), h1, one_mu] at e
    refine ih fun i hi => ?_
    by_cases q : i = m
    · rw [q]; exact e.symm
    · exact hg i (by omega)
theorem tuF_fin (a bv : Nat → UInt8) (N m : Nat) : Fin0 (tuF a bv N m) m := fun i hi => S_zero fun k _ => by unfold geoF; rw [if_neg (by omega), mu_zero]
/-- the turned one is what the points make, by the numbers that the evaluator tells -/
theorem loc_back {a bv T : Nat → UInt8} {N m : Nat} (hN : N ≤ m) (hd : ∀ i j, i < N → j < N → i ≠ j → a i ≠ a j) (hT : Fin0 T m) (h : ∀ j, N ≤ j → j < m → conv (locF a N) T j = 0)
    (hb : ∀ j, j < N → mu (bv j) (PE a j N (a j)) = ev N (higF m (conv (locF a N) T)) (a j)) : T = tuF a bv N m := by
  have hH : Fin0 (higF m (conv (locF a N) T)) N := fun i hi => ((locF_fin a N).conv hT) (m + i) (by omega)
  have hz := roots_all (hH.add (om_fin a bv N)) a hd fun i hi => by rw [ev_add, om_at hi, hb i hi, x_self]
  have tl := tu_loc (a := a) (bv := bv) (t := 0) (e := N) (m := m) (by omega)
  have tO := tu_om (a := a) (bv := bv) (t := 0) (e := N) (m := m) (by omega)
  rw [Nat.zero_add] at tl tO
  have z := conv_zero_top (locF_fin a N) (locF_top a N) (hT.add (tuF_fin a bv N m)) fun j hj => by
    rw [conv_add, addF_at]
    by_cases hlt : j < m
    · rw [h j hj hlt, tl j hj hlt, x_self]
    · obtain ⟨i, rfl⟩ : ∃ i, j = m + i := ⟨j - m, by omega⟩
      have e1 : conv (locF a N) (tuF a bv N m) (m + i) = omF a bv N i := congrFun tO i
      rw [e1]
      exact hz i
  funext i
  exact x_eq_zero.1 (z i)
/-- .. as lists -/
theorem find_made {s pts ks bs zs : List UInt8} (hm : pts.length + ks.length ≤ s.length)
    (hd : ∀ i j, i < pts.length + ks.length → j < pts.length + ks.length → i ≠ j → co (pts ++ ks) i ≠ co (pts ++ ks) j)
    (hl : ∀ j, pts.length + ks.length ≤ j → j < s.length → conv (locF (co pts) pts.length) (keP s (locL ks)) j = 0)
    (hv : ∀ j, j < pts.length + ks.length → mu (co (bs ++ zs) j) (PE (co (pts ++ ks)) j (pts.length + ks.length) (co (pts ++ ks) j)) = evP (evaL s (locL ks) pts.length (locF (co pts) pts.length)) (co (pts ++ ks) j)) : SyOf s pts ks bs zs := by
  have hT : Fin0 (co s.reverse) s.length := fun i hi => co_ge (by rw [List.length_reverse]; exact hi)
  have e0 : locF (co (pts ++ ks)) (pts.length + ks.length) = conv (locF (co pts) pts.length) (co (locL ks)) := by
    rw [locF_append]
    unfold locL
    rw [co_locN]
    congr 1
    · exact locF_congr fun i hi => co_append_lt hi
    · exact locF_congr fun i hi => by rw [co_append_ge (by omega), Nat.add_sub_cancel_left]
  have e1 : conv (locF (co (pts ++ ks)) (pts.length + ks.length)) (co s.reverse) = conv (locF (co pts) pts.length) (keP s (locL ks)) := by
    unfold keP
    rw [e0, conv_assoc]
  have hH : Fin0 (higF s.length (conv (locF (co (pts ++ ks)) (pts.length + ks.length)) (co s.reverse))) (pts.length + ks.length) := fun i hi => ((locF_fin _ _).conv hT) (s.length + i) (by omega)
  have e2 : co (evaL s (locL ks) pts.length (locF (co pts) pts.length)) = higF s.length (conv (locF (co (pts ++ ks)) (pts.length + ks.length)) (co s.reverse)) := by
    unfold evaL
    rw [co_mk (eva_fin (locF_fin _ _)), e1]; rfl
  have key := loc_back (a := co (pts ++ ks)) (bv := co (bs ++ zs)) hm hd hT (fun j h1 h2 => by rw [e1]; exact hl j h1 h2) (fun j hj => by
    rw [hv j hj]
    unfold evP
    rw [e2]
    exact ev_eq _ (by rw [← e2]; exact co_fin _) hH)
  intro l hll
  have e3 : co s l = co s.reverse (s.length - 1 - l) := by rw [co_rev (by omega)]; congr 1; omega
  rw [e3, key]
  unfold tuF syP
  refine S_congr fun k _ => ?_
  unfold geoF
  rw [if_pos (by omega), show s.length - 1 - (s.length - 1 - l) = l by omega]
end Go.Proofs.YtddnfhfangfgeaaGreat.Gf

namespace Go.Proofs.YtddnfhfangfgeaaGreat.Gf
set_option linter.unusedVariables false
set_option linter.unusedSimpArgs false
theorem nmF_one_pwr (x : UInt8) (l : Nat) : nmF 1 x l = pwr x l := by
  induction l with
  | zero => rfl
  | succ l ih => rw [nmF, pwr, ih]
/-- a sum over some places -/
theorem S_plc (p : Nat → Bool) (f : Nat → UInt8) (n : Nat) : S (cnt p n) (fun j => f ((plc p n).getD j 0)) = S n (fun i => if p i then f i else 0) := by
  induction n with
  | zero => rfl
  | succ n ih =>
    have hc : S (cnt p n) (fun j => f ((plc p (n + 1)).getD j 0)) = S (cnt p n) (fun j => f ((plc p n).getD j 0)) := S_congr fun j hj => by
      rw [plc_succ, ← plc_length] at *
      rw [show (plc p n ++ if p n then [n] else []).getD j 0 = (plc p n).getD j 0 by simp [List.getD, List.getElem?_append_left hj]]
    show _ = S n (fun i => if p i then f i else 0) ^^^ (if p n then f n else 0)
    rw [← ih, ← hc]
    cases e : p n
    · have : cnt p (n + 1) = cnt p n := by rw [cnt, e]; rfl
      rw [this]
      simp
    · have h1 : cnt p (n + 1) = cnt p n + 1 := by rw [cnt, e]; rfl
      rw [h1]
      show S (cnt p n) (fun j => f ((plc p (n + 1)).getD j 0)) ^^^ f ((plc p (n + 1)).getD (cnt p n) 0) = _
      have h2 : (plc p (n + 1)).getD (cnt p n) 0 = n := by
        rw [plc_succ, e, ← plc_length]
        simp [List.getD]
      rw [h2]; rfl
theorem co_map {L : List Nat} {f : Nat → UInt8} {j : Nat} (hj : j < L.length) : co (L.map f) j = f (L.getD j 0) := by
  rw [co_lt (by rw [List.length_map]; exact hj)]
  simp [List.getD, hj]
/-- what points of places make -/
theorem syP_plc {p q : Nat → Bool} (hd : ∀ i, p i = true → q i = false) (v : Nat → UInt8) (n l : Nat) :
    syP (co ((plc p n).map pt ++ (plc q n).map pt)) (co ((plc p n).map v ++ (plc q n).map v)) (((plc p n).map pt).length + ((plc q n).map pt).length) l = S n (fun i => if p i || q i then mu (v i) (pwr (pt i) l) else 0) := by
  unfold syP
  rw [S_split, List.length_map, List.length_map]
  have e1 : S (plc p n).length (fun i => mu (co ((plc p n).map v ++ (plc q n).map v) i) (pwr (co ((plc p n).map pt ++ (plc q n).map pt) i) l)) = S n (fun i => if p i then mu (v i) (pwr (pt i) l) else 0) := by
    rw [← S_plc p (fun i => mu (v i) (pwr (pt i) l)), plc_length]
    exact S_congr fun i hi => by
      rw [← plc_length] at hi
      rw [co_append_lt (by rw [List.length_map]; exact hi), co_append_lt (by rw [List.length_map]; exact hi), co_map hi, co_map hi]
  have e2 : S (plc q n).length (fun i => mu (co ((plc p n).map v ++ (plc q n).map v) ((plc p n).length + i)) (pwr (co ((plc p n).map pt ++ (plc q n).map pt) ((plc p n).length + i)) l)) = S n (fun i => if q i then mu (v i) (pwr (pt i) l) else 0) := by
    rw [← S_plc q (fun i => mu (v i) (pwr (pt i) l)), plc_length q]
    exact S_congr fun i hi => by
      rw [← plc_length] at hi
      rw [co_append_ge (by rw [List.length_map]; omega), co_append_ge (by rw [List.length_map]; omega), List.length_map, List.length_map, Nat.add_sub_cancel_left, co_map hi, co_map hi]
  rw [e1, e2, ← S_xor]
  refine S_congr fun i hi => ?_
  cases a : p i
  · cases b : q i <;> simp
  · rw [hd i a]; simp
/-- points of unlike places are unlike -/
theorem pts_apart {p q : Nat → Bool} {n : Nat} (hn : n ≤ 256) (hd : ∀ i, p i = true → q i = false) : ∀ i j, i < ((plc p n).map pt).length + ((plc q n).map pt).length → j < ((plc p n).map pt).length + ((plc q n).map pt).length → i ≠ j →
    co ((plc p n).map pt ++ (plc q n).map pt) i ≠ co ((plc p n).map pt ++ (plc q n).map pt) j := by
  intro i j hi hj hne e
  rw [← List.map_append] at e
  rw [← List.length_append, ← List.map_append, List.length_map] at hi hj
  rw [co_map hi, co_map hj] at e
  have hnd : (plc p n ++ plc q n).Nodup := by
    rw [List.nodup_append]
    exact ⟨plc_nodup p n, plc_nodup q n, fun a ha b hb hab => by
      subst hab
      have := hd a (plc_mem.1 ha).2
      rw [(plc_mem.1 hb).2] at this
      cases this⟩
  have hlt : ∀ i, i < (plc p n ++ plc q n).length → (plc p n ++ plc q n).getD i 0 < 256 := fun i hi => by
    have hm := List.getElem_mem hi
    have : (plc p n ++ plc q n)[i] < n := by
      rcases List.mem_append.1 hm with h | h
      · exact (plc_mem.1 h).1
      · exact (plc_mem.1 h).1
    simp only [List.getD, List.getElem?_eq_getElem hi, Option.getD_some]
    omega
  have e2 := pt_inj (hlt i hi) (hlt j hj) e
  simp only [List.getD, List.getElem?_eq_getElem hi, List.getElem?_eq_getElem hj, Option.getD_some] at e2
  have hpw := List.pairwise_iff_getElem.1 hnd
  rcases Nat.lt_or_gt_of_ne hne with h | h
  · exact hpw i j hi hj h e2
  · exact hpw j i hj hi h e2.symm
/-- by what a place is wrong, times its weight -/
def byF (k m : Nat) (z c : Nat → UInt8) (i : Nat) : UInt8 := mu (z i ^^^ c i) (wtF k m i)
/-- a word near one of the code: its syndromes -/
theorem near_sy {k m : Nat} {z c : Nat → UInt8} {ms : Nat → Bool} (hc : CodeW k m c) : SyOf (upto (synF k m z) m) ((plc (wrg z c ms) (k + m)).map pt) ((plc ms (k + m)).map pt) ((plc (wrg z c ms) (k + m)).map (byF k m z c)) ((plc ms (k + m)).map (byF k m z c)) := by
  intro l hl
  rw [upto_length] at hl
  rw [co_upto_in hl, syP_plc (fun i h => by unfold wrg at h; simp at h; exact h.1)]
  have e : synF k m z l = synF k m (fun i => z i ^^^ c i) l := by
    have := synF_add (k := k) (m := m) (l := l) (z := z) (y := c) (x := fun i => z i ^^^ c i) (fun i _ => rfl)
    rw [this, hc l hl, x_zero]
  rw [e]
  unfold synF
  refine S_congr fun i hi => ?_
  rw [nmF_one_pwr]
  by_cases h : wrg z c ms i || ms i
  · rw [if_pos h]; rfl
  · rw [if_neg h]
    have h0 : c i = z i := by
      refine Classical.byContradiction fun q => h ?_
      cases em : ms i <;> simp [wrg, em, q]
    show mu (mu (z i ^^^ c i) (wtF k m i)) (pwr (pt i) l) = 0
    rw [h0, x_self, zero_mu, zero_mu]
/-- what the equation tells of a word near one of the code: its locator is that of the places that are wrong -/
theorem near_key {k m : Nat} {z c : Nat → UInt8} {ms : Nat → Bool} (h2 : k + m ≤ 256) (hc : Near k m z ms c) :
    KeyAns (upto (synF k m z) m) (locL ((plc ms (k + m)).map pt)) 0 (locL ((plc (wrg z c ms) (k + m)).map pt))
      (evaL (upto (synF k m z) m) (locL ((plc ms (k + m)).map pt)) ((plc (wrg z c ms) (k + m)).map pt).length (locF (co ((plc (wrg z c ms) (k + m)).map pt ++ (plc ms (k + m)).map pt)) ((plc (wrg z c ms) (k + m)).map pt).length)) := by
  have hf := hc.few
  refine find_ok (near_sy hc.code) (by rw [upto_length, List.length_map, List.length_map, plc_length, plc_length]; exact hf) (by rw [List.length_map, List.length_map]) (pts_apart h2 (fun i h => by unfold wrg at h; simp at h; exact h.1)) fun i hi => ?_
  rw [List.length_map] at hi
  rw [co_map hi]
  have hm : (plc (wrg z c ms) (k + m)).getD i 0 ∈ plc (wrg z c ms) (k + m) := by
    simp only [List.getD, List.getElem?_eq_getElem hi, Option.getD_some]
    exact List.getElem_mem hi
  obtain ⟨g1, g2⟩ := plc_mem.1 hm
  generalize (plc (wrg z c ms) (k + m)).getD i 0 = r at *
  unfold wrg at g2
  simp at g2
  unfold byF
  exact mu_ne (fun q => g2.2 (x_eq_zero.1 q).symm) (wtF_ne h2 (by omega))
/-- a word whose syndromes are made by the points of some places, taken off there, is one of the code -/
theorem sy_code {k m : Nat} {z v : Nat → UInt8} {p q : Nat → Bool} (h2 : k + m ≤ 256) (hd : ∀ i, p i = true → q i = false)
    (hs : SyOf (upto (synF k m z) m) ((plc p (k + m)).map pt) ((plc q (k + m)).map pt) ((plc p (k + m)).map v) ((plc q (k + m)).map v)) :
    CodeW k m (fun i => z i ^^^ (if p i || q i then mu (v i) (iv (wtF k m i)) else 0)) := by
  intro l hl
  have e := hs l (by rw [upto_length]; exact hl)
  rw [co_upto_in hl, syP_plc hd] at e
  rw [synF_add (z := z) (y := fun i => if p i || q i then mu (v i) (iv (wtF k m i)) else 0) (fun i _ => rfl), e]
  unfold synF
  rw [← S_xor]
  refine S_zero fun i hi => ?_
  show (if p i || q i then mu (v i) (pwr (pt i) l) else 0) ^^^ mu (mu (if p i || q i then mu (v i) (iv (wtF k m i)) else 0) (wtF k m i)) (nmF 1 (pt i) l) = 0
  by_cases h : (p i || q i) = true
  · rw [if_pos h, if_pos h, mu_assoc (v i), mu_comm (iv _), mu_iv (wtF_ne h2 (by omega)), mu_one, nmF_one_pwr, x_self]
  · rw [if_neg h, if_neg h, zero_mu, zero_mu, x_self]
end Go.Proofs.YtddnfhfangfgeaaGreat.Gf

namespace Go.Proofs.YtddnfhfangfgeaaGreat.Gf
set_option linter.unusedVariables false
set_option linter.unusedSimpArgs false
/-- there is a word of the code near -/
def IsNear (k m : Nat) (z : List UInt8) (ms : List Bool) : Prop := ∃ c, Near k m (co z) (hb ms) c
/-- the word, and its places are as many as they must be -/
def OkW (k m : Int) (z : List UInt8) (ms : List Bool) : Prop := (z.length : Int) = k + m ∧ (ms.length : Int) = k + m
noncomputable def nearF (k m : Nat) (z : List UInt8) (ms : List Bool) : Nat → UInt8 := by
  classical
  exact if h : IsNear k m z ms then h.choose else fun _ => 0
theorem nearF_is {k m : Nat} {z : List UInt8} {ms : List Bool} (h : IsNear k m z ms) : Near k m (co z) (hb ms) (nearF k m z ms) := by
  unfold nearF
  rw [dif_pos h]
  exact h.choose_spec
open Classical in
noncomputable def wdX (k m : Int) (z : List UInt8) (ms : List Bool) : Int := if OkC k m then (if OkW k m z ms then (if IsNear k.toNat m.toNat z ms then 0 else 100) else 60) else 50
open Classical in
noncomputable def wdR (k m : Int) (z : List UInt8) (ms : List Bool) : List UInt8 := if OkC k m ∧ OkW k m z ms ∧ IsNear k.toNat m.toNat z ms then upto (nearF k.toNat m.toNat z ms) (k.toNat + m.toNat) else []
open Classical in
noncomputable def wdP (k m : Int) (z : List UInt8) (ms : List Bool) : List Nat := if OkC k m ∧ OkW k m z ms ∧ IsNear k.toNat m.toNat z ms then plc (wrg (co z) (nearF k.toNat m.toNat z ms) (hb ms)) (k.toNat + m.toNat) else []
theorem wd_many {k m : Nat} {z : List UInt8} {ms : List Bool} (c : OkC k m) (d : OkW k m z ms) (e : ¬ IsNear k m z ms) : wdX k m z ms = 100 ∧ wdR k m z ms = [] ∧ wdP k m z ms = [] :=
  ⟨by unfold wdX; rw [if_pos c, if_pos d]; exact if_neg e, by unfold wdR; rw [if_neg fun q => e q.2.2], by unfold wdP; rw [if_neg fun q => e q.2.2]⟩
/-- whichever near one is found is the one that is told -/
theorem wd_ok {k m : Nat} {z : List UInt8} {ms : List Bool} {c : Nat → UInt8} (o : OkC k m) (d : OkW k m z ms) (h : Near k m (co z) (hb ms) c) : wdX k m z ms = 0 ∧ wdR k m z ms = upto c (k + m) ∧ wdP k m z ms = plc (wrg (co z) c (hb ms)) (k + m) := by
  have hI : IsNear k m z ms := ⟨c, h⟩
  have h2 : k + m ≤ 256 := by have := o.2.2; omega
  have hu := (nearF_is hI).unique h2 h
  refine ⟨by unfold wdX; rw [if_pos o, if_pos d]; exact if_pos hI, ?_, ?_⟩
  · unfold wdR
    rw [if_pos ⟨o, d, hI⟩]
    exact upto_congr fun i hi => hu i hi
  · unfold wdP
    rw [if_pos ⟨o, d, hI⟩]
    show plc (wrg (co z) (nearF k m z ms) (hb ms)) (k + m) = _
    unfold plc
    refine List.filter_congr fun i hi => ?_
    unfold wrg
    rw [hu i (List.mem_range.1 hi)]
end Go.Proofs.YtddnfhfangfgeaaGreat.Gf

namespace Go.Proofs.YtddnfhfangfgeaaGreat.Gf
set_option linter.unusedVariables false
set_option linter.unusedSimpArgs false
theorem iv_mu10 {a b : UInt8} (ha : a ≠ 0) (hb : b ≠ 0) : iv (mu a b) = mu (iv a) (iv b) := by
  have h1 : mu (mu a b) (iv (mu a b)) = 1 := mu_iv (mu_ne ha hb)
  have h2 : mu (mu a b) (mu (iv a) (iv b)) = 1 := by
    rw [mu_assoc, mu_comm (iv a), ← mu_assoc b, mu_iv hb, one_mu, mu_iv ha]
  have h3 : mu (iv (mu a b)) (mu (mu a b) (mu (iv a) (iv b))) = mu (iv a) (iv b) := by
    rw [← mu_assoc, mu_comm (iv (mu a b)), h1, one_mu]
  rw [h2, mu_one] at h3
  exact h3
/-- the places that are there at whose points a polynomial is 0 -/
def rtF (A : List UInt8) (ms : Nat → Bool) (i : Nat) : Bool := !ms i && decide (evP A (pt i) = 0)
theorem rtF_not {A : List UInt8} {ms : Nat → Bool} {i : Nat} (h : rtF A ms i = true) : ms i = false := by unfold rtF at h; simp at h; exact h.1
theorem rtF_root {A : List UInt8} {ms : Nat → Bool} {i : Nat} (h : rtF A ms i = true) : evP A (pt i) = 0 := by unfold rtF at h; simp at h; exact h.2
theorem getD_mem {L : List Nat} {j : Nat} (hj : j < L.length) : L.getD j 0 ∈ L := by
  simp only [List.getD, List.getElem?_eq_getElem hj, Option.getD_some]
  exact List.getElem_mem hj
/-- a locator's roots are its places -/
theorem root_of {p : Nat → Bool} {n i : Nat} (hn : n ≤ 256) (hi : i < n) : evP (locL ((plc p n).map pt)) (pt i) = 0 ↔ p i = true := by
  rw [evP_loc, PD_zero]
  constructor
  · rintro ⟨j, hj, e⟩
    rw [List.length_map] at hj
    rw [co_map hj] at e
    obtain ⟨g1, g2⟩ := plc_mem.1 (getD_mem hj)
    rw [pt_inj (by omega) (by omega) e] at g2
    exact g2
  · intro h
    obtain ⟨j, hj, e⟩ := List.getElem_of_mem (plc_mem.2 ⟨hi, h⟩)
    refine ⟨j, by rw [List.length_map]; exact hj, ?_⟩
    rw [co_map hj]
    simp [List.getD, hj, e]
/-- what the equation tells of a word near one of the code -/
theorem near_roots {k m : Nat} {z c : Nat → UInt8} {ms : Nat → Bool} {X : Int} {A O : List UInt8} (h2 : k + m ≤ 256) (hc : Near k m z ms c) (hK : KeyAns (upto (synF k m z) m) (locL ((plc ms (k + m)).map pt)) X A O) :
    X = 0 ∧ plc (rtF A ms) (k + m) = plc (wrg z c ms) (k + m) ∧ A.length = cnt (rtF A ms) (k + m) + 1 := by
  obtain ⟨e1, e2, e3⟩ := (near_key h2 hc).unique hK
  have e4 : plc (rtF A ms) (k + m) = plc (wrg z c ms) (k + m) := by
    unfold plc
    refine List.filter_congr fun i hi => ?_
    have hi' := List.mem_range.1 hi
    have := root_of (p := wrg z c ms) h2 hi'
    rw [← e2] at this
    unfold rtF
    cases em : ms i
    · rw [Bool.not_false, Bool.true_and, Bool.eq_iff_iff, decide_eq_true_eq]; exact this
    · unfold wrg; rw [em]; rfl
  refine ⟨e1, e4, ?_⟩
  rw [← plc_length, e4, e2]
  unfold locL
  rw [locN_length, List.length_map]
/-- by what a place differs -/
def dfF (k m : Nat) (O D : List UInt8) (i : Nat) : UInt8 := mu (evP O (pt i)) (iv (mu (evP D (pt i)) (wtF k m i)))
/-- the word put right -/
def rtW (k m : Nat) (z : Nat → UInt8) (A O D : List UInt8) (ms : Nat → Bool) (i : Nat) : UInt8 := z i ^^^ (if rtF A ms i || ms i then dfF k m O D i else 0)
theorem roots_near {k m : Nat} {z : Nat → UInt8} {ms : Nat → Bool} {A O : List UInt8} (h2 : k + m ≤ 256) (hK : KeyAns (upto (synF k m z) m) (locL ((plc ms (k + m)).map pt)) 0 A O) (hr : A.length ≤ cnt (rtF A ms) (k + m) + 1) :
    Near k m z ms (rtW k m z A O (derP (mulP A (locL ((plc ms (k + m)).map pt)))) ms) ∧ ∀ i, i < k + m → (rtF A ms i || ms i) = true → mu (evP (derP (mulP A (locL ((plc ms (k + m)).map pt)))) (pt i)) (wtF k m i) ≠ 0 := by
  rcases hK with ⟨_, h, _⟩ | ⟨b, t, L, hl, _, eA, eO⟩ | ⟨_, _, h, _⟩
  · cases h
  · have hnd : ∀ i, rtF A ms i = true → ms i = false := fun i => rtF_not
    have hap := pts_apart (n := k + m) h2 hnd
    have hpl : ((plc (rtF A ms) (k + m)).map pt).length = cnt (rtF A ms) (k + m) := by rw [List.length_map, plc_length]
    have hkl : ((plc ms (k + m)).map pt).length = cnt ms (k + m) := by rw [List.length_map, plc_length]
    have hco : co A = L := by rw [eA]; exact funext fun i => co_upto hl.loc.fin i
    have hAl : A.length = t + 1 := by rw [eA, upto_length]
    have hroot : ∀ j, j < cnt (rtF A ms) (k + m) → ev (t + 1) L (co ((plc (rtF A ms) (k + m)).map pt) j) = 0 := fun j hj => by
      rw [← plc_length] at hj
      rw [co_map hj]
      have := rtF_root (plc_mem.1 (getD_mem hj)).2
      unfold evP at this
      rw [hAl, hco] at this
      exact this
    have hdist : ∀ i j, i < cnt (rtF A ms) (k + m) → j < cnt (rtF A ms) (k + m) → i ≠ j → co ((plc (rtF A ms) (k + m)).map pt) i ≠ co ((plc (rtF A ms) (k + m)).map pt) j := fun i j hi hj hne => by
      have := hap i j (by omega) (by omega) hne
      rw [co_append_lt (by omega), co_append_lt (by omega)] at this
      exact this
    have hT : cnt (rtF A ms) (k + m) = t := by
      refine Nat.le_antisymm (Nat.le_of_not_lt fun hlt => ?_) (by omega)
      have := roots_all hl.loc.fin (co ((plc (rtF A ms) (k + m)).map pt)) (fun i j hi hj => hdist i j (by omega) (by omega)) (fun i hi => hroot i (by omega)) t
      rw [hl.loc.top] at this
      cases this
    have hLl : L = locF (co ((plc (rtF A ms) (k + m)).map pt)) t := by
      have hD : Fin0 (addF L (locF (co ((plc (rtF A ms) (k + m)).map pt)) t)) t := fun i hi => by
        rw [addF_at]
        by_cases e0 : i = t
        · rw [e0, hl.loc.top, locF_top, x_self]
        · rw [hl.loc.fin i (by omega), locF_fin _ t i (by omega), x_self]
      have := roots_all hD (co ((plc (rtF A ms) (k + m)).map pt)) (fun i j hi hj => hdist i j (by omega) (by omega)) (fun i hi => by
        rw [← ev_more _ hD (show t ≤ t + 1 by omega), ev_add, hroot i (by omega), ev_loc, PD_zero.2 ⟨i, hi, rfl⟩]; rfl)
      funext i
      exact x_eq_zero.1 (this i)
    have hAL : A = locL ((plc (rtF A ms) (k + m)).map pt) := by
      rw [eA]
      unfold locL locN
      rw [← eA, hpl, hT, ← hLl]
      exact eA
    have hf := hl.few
    rw [upto_length, find_norm, Nat.add_sub_cancel, hkl] at hf
    obtain ⟨D, hD⟩ : ∃ D, D = derP (mulP A (locL ((plc ms (k + m)).map pt))) := ⟨_, rfl⟩
    have hDD : D = derP (mulP (locL ((plc (rtF A ms) (k + m)).map pt)) (locL ((plc ms (k + m)).map pt))) := by rw [hD]; congr 2
    have spot : ∀ j, j < ((plc (rtF A ms) (k + m)).map pt).length + ((plc ms (k + m)).map pt).length → co ((plc (rtF A ms) (k + m)).map pt ++ (plc ms (k + m)).map pt) j = pt ((plc (rtF A ms) (k + m) ++ plc ms (k + m)).getD j 0) := fun j hj => by
      rw [← List.map_append, co_map (by rw [List.length_map, List.length_map] at hj; rw [List.length_append]; exact hj)]
    have hDne : ∀ i, i < k + m → (rtF A ms i || ms i) = true → evP D (pt i) ≠ 0 := fun i hi hp => by
      have hmem : i ∈ plc (rtF A ms) (k + m) ++ plc ms (k + m) := by
        rw [Bool.or_eq_true] at hp
        rcases hp with h | h
        · exact List.mem_append_left _ (plc_mem.2 ⟨hi, h⟩)
        · exact List.mem_append_right _ (plc_mem.2 ⟨hi, h⟩)
      obtain ⟨j, hj, ej⟩ := List.getElem_of_mem hmem
      have hj' : j < ((plc (rtF A ms) (k + m)).map pt).length + ((plc ms (k + m)).map pt).length := by rw [List.length_map, List.length_map, ← List.length_append]; exact hj
      have h5 := find_der ((plc (rtF A ms) (k + m)).map pt) ((plc ms (k + m)).map pt) hj'
      have h6 := find_ne hap hj'
      rw [spot j hj', ← hDD] at h5
      rw [spot j hj'] at h6
      have h7 : (plc (rtF A ms) (k + m) ++ plc ms (k + m)).getD j 0 = i := by
        simp only [List.getD, List.getElem?_eq_getElem hj, Option.getD_some]
        exact ej
      rw [h7] at h5 h6
      rw [h5]
      exact h6
    have hw : ∀ i, i < k + m → (rtF A ms i || ms i) = true → mu (evP D (pt i)) (wtF k m i) ≠ 0 := fun i hi hp => mu_ne (hDne i hi hp) (wtF_ne h2 (by omega))
    have hs := find_made (s := upto (synF k m z) m) (pts := (plc (rtF A ms) (k + m)).map pt) (ks := (plc ms (k + m)).map pt) (bs := (plc (rtF A ms) (k + m)).map (fun i => mu (evP O (pt i)) (iv (evP D (pt i))))) (zs := (plc ms (k + m)).map (fun i => mu (evP O (pt i)) (iv (evP D (pt i)))))
      (by rw [hpl, hkl, upto_length]; omega) hap (fun j h1 h3 => by
        have := hl.loc.zero j (by rw [find_norm, hkl]; omega) h3
        rw [hpl, hT, ← hLl]
        exact this) (fun j hj => by
        have h5 := find_der ((plc (rtF A ms) (k + m)).map pt) ((plc ms (k + m)).map pt) hj
        have h6 := find_ne hap hj
        rw [← hDD] at h5
        rw [← List.map_append (f := fun i => mu (evP O (pt i)) (iv (evP D (pt i)))), co_map (by rw [List.length_map, List.length_map] at hj; rw [List.length_append]; exact hj)]
        rw [← h5] at h6 ⊢
        rw [spot j hj] at h6 ⊢
        show mu (mu (evP O _) (iv (evP D _))) (evP D _) = _
        rw [mu_assoc, mu_comm (iv _), mu_iv h6, mu_one, eO, hpl, hT, ← hLl])
    have hcode := sy_code h2 hnd hs
    rw [← hD]
    refine ⟨⟨hcode.congr fun i hi => ?_, ?_⟩, hw⟩
    · unfold rtW dfF
      congr 1
      by_cases hp : (rtF A ms i || ms i) = true
      · rw [if_pos hp, if_pos hp, iv_mu10 (hDne i hi hp) (wtF_ne h2 (by omega)), mu_assoc]
      · rw [if_neg hp, if_neg hp]
    · have : cnt (wrg z (rtW k m z A O D ms) ms) (k + m) ≤ cnt (rtF A ms) (k + m) := cnt_mono fun i hi hwr => by
        unfold wrg at hwr
        simp only [Bool.and_eq_true, Bool.not_eq_true', decide_eq_true_eq] at hwr
        refine Classical.byContradiction fun q => hwr.2 ?_
        unfold rtW
        rw [if_neg (by simp [q, hwr.1]), x_zero]
      omega
  · cases h
/-- .. and the places that are told are those that differ -/
theorem roots_told {k m : Nat} {z : Nat → UInt8} {ms : Nat → Bool} {A O : List UInt8} (h2 : k + m ≤ 256) (hK : KeyAns (upto (synF k m z) m) (locL ((plc ms (k + m)).map pt)) 0 A O) (hr : A.length ≤ cnt (rtF A ms) (k + m) + 1) :
    plc (rtF A ms) (k + m) = plc (wrg z (rtW k m z A O (derP (mulP A (locL ((plc ms (k + m)).map pt)))) ms) ms) (k + m) := (near_roots h2 (roots_near h2 hK hr).1 hK).2.1
end Go.Proofs.YtddnfhfangfgeaaGreat.Gf

