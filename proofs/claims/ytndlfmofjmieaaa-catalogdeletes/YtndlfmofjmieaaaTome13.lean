/- TEXTS JOINED: CtCl, CtSm. -/
import Derived.Deep.Grids
import Derived.Test.YtndlfmofjmieaaaTome10
import Derived.Test.YtndlfmofjmieaaaTome11
namespace Go.Proofs.Ytndlfmofjmieaaa.Gf
set_option linter.unusedVariables false
set_option linter.unusedSimpArgs false
open Go.RowKit
open Go.ChangeShapes
structure CallK where
  kind : Int
  r : RcV
  ep : Int
instance : Inhabited CallK := ⟨⟨0, default, 0⟩⟩
structure CallAtK (w : World) (b off : Nat) (x : CallK) : Prop where
  s0 : w.cell? ⟨b, off, none⟩ = some (.int .i64 x.kind)
  s1 : w.cell? ⟨b, off + 1, none⟩ = some (.int .i64 x.r.r.kind)
  s2 : w.cell? ⟨b, off + 2, none⟩ = some (sv x.r.r.key)
  s3 : w.cell? ⟨b, off + 3, none⟩ = some (.int .i64 x.r.r.len)
  s4 : w.cell? ⟨b, off + 4, none⟩ = some x.r.vs
  s5 : w.cell? ⟨b, off + 5, none⟩ = some (.int .i64 x.ep)
  wk : (Lit.int .i64 x.kind).wf = true
  we : (Lit.int .i64 x.ep).wf = true
  rr : x.r.In w
theorem CallAtK.below {w w' : World} {b off : Nat} {x : CallK} (h : CallAtK w b off x) (hb : b < w.heap.size) (hw : Below w.heap.size w w') : CallAtK w' b off x := by
  have k : ∀ j, w'.cell? ⟨b, j, none⟩ = w.cell? ⟨b, j, none⟩ := fun j => hw.cell (p := ⟨b, j, none⟩) hb
  exact ⟨(k _).trans h.s0, (k _).trans h.s1, (k _).trans h.s2, (k _).trans h.s3, (k _).trans h.s4, (k _).trans h.s5, h.wk, h.we, h.rr.below hw⟩
def RdC19 (w : World) (v : Value) (L : List CallK) : Prop :=
  (∃ ao cap, L = [] ∧ v = .slice ao 0 cap) ∨ (∃ b off cap, L ≠ [] ∧ v = .slice (some ⟨b, off, none⟩) L.length cap ∧ L.length ≤ maxLen ∧ b < w.heap.size ∧ ∀ i, i < L.length → CallAtK w b (off + i * 6) (L.getD i default))
theorem RdC19.below {w w' : World} {v : Value} {L : List CallK} (h : RdC19 w v L) (hb : Below w.heap.size w w') : RdC19 w' v L := by
  rcases h with h | ⟨b, off, cap, h1, h2, h3, h5, h6⟩
  · exact Or.inl h
  · exact Or.inr ⟨b, off, cap, h1, h2, h3, Nat.lt_of_lt_of_le h5 hb.size, fun i hi => (h6 i hi).below h5 hb⟩
theorem RdC19.form {w : World} {v : Value} {L : List CallK} (h : RdC19 w v L) : ∃ a c, v = .slice a L.length c := by
  rcases h with ⟨a, c, rfl, rfl⟩ | ⟨b, off, c, _, rfl, _⟩
  · exact ⟨a, c, rfl⟩
  · exact ⟨_, c, rfl⟩
theorem RdC19.lenEq {w : World} {a : Option Addr} {len cap : Nat} {L : List CallK} (h : RdC19 w (.slice a len cap) L) : len = L.length := by
  obtain ⟨_, _, e⟩ := h.form
  simp at e
  exact e.2.1
theorem RdC19.at {w : World} {a : Option Addr} {c : Nat} {L : List CallK} (h : RdC19 w (.slice a L.length c) L) {k : Nat} (hk : k < L.length) : ∃ b off, a = some ⟨b, off, none⟩ ∧ b < w.heap.size ∧ CallAtK w b (off + k * 6) (L.getD k default) := by
  rcases h with ⟨_, _, h1, _⟩ | ⟨b, off, c, h1, h2, h3, h4, h5⟩
  · rw [h1] at hk; simp at hk
  · simp at h2
    exact ⟨b, off, h2.1, h4, h5 k hk⟩
theorem six19 {cs : List Value} (h : cs.length = 6) : ∃ v0 v1 v2 v3 v4 v5, cs = [v0, v1, v2, v3, v4, v5] := by
  match cs, h with
  | [a, b, c, d, e, f], _ => exact ⟨a, b, c, d, e, f, rfl⟩
section
variable {H : Type} {enc : TypeId × Value → H} {P : Program} {w : World} {base : Nat} {held : Bool}
/-- a record within a struct -/
theorem open_rcell19 {t si : TypeId} {f0 f1 f2 f3 : Field} {fuel : Nat} {cs : List Value} {x : DataW H × List MemPlace} (he : P.underlying t = some (.struct #[f0, f1, f2, f3])) (ce : P.cellsOf t = 4)
    (o0 : f0.offset = 0) (o1 : f1.offset = 1) (o2 : f2.offset = 2) (o3 : f3.offset = 3)
    (t0 : P.underlying f0.type = some (.int .i64)) (t1 : P.underlying f1.type = some .string) (t2 : P.underlying f2.type = some (.int .i64)) (t3 : P.underlying f3.type = some (.slice si)) (ti : P.underlying si = some (.int .i64)) (ci : P.cellsOf si = 1)
    (n0 : P.cellsOf f0.type = 1) (n1 : P.cellsOf f1.type = 1) (n2 : P.cellsOf f2.type = 1) (n3 : P.cellsOf f3.type = 1)
    (hf : DataW.trod enc P w base (fun _ => true) held fuel t cs = some x) : ∃ c : RcV, cs = [.int .i64 c.r.kind, sv c.r.key, .int .i64 c.r.len, c.vs] ∧ c.In w := by
  obtain ⟨xs, n', _, _, hlen, hxl, hfd⟩ := DataW.trod_struct he hf
  rw [ce] at hlen
  obtain ⟨v0, v1, v2, v3, rfl⟩ := four16 hlen
  have hxl' : xs.length = 4 := hxl
  have g : ∀ k, k < 4 → ∃ y, xs[k]? = some y := fun k hk => ⟨xs[k], List.getElem?_eq_getElem (by omega)⟩
  obtain ⟨y0, e0⟩ := g 0 (by omega)
  obtain ⟨y1, e1⟩ := g 1 (by omega)
  obtain ⟨y2, e2⟩ := g 2 (by omega)
  obtain ⟨y3, e3⟩ := g 3 (by omega)
  have q0 := hfd 0 f0 rfl
  have q1 := hfd 1 f1 rfl
  have q2 := hfd 2 f2 rfl
  have q3 := hfd 3 f3 rfl
  rw [o0, n0, e0] at q0
  rw [o1, n1, e1] at q1
  rw [o2, n2, e2] at q2
  rw [o3, n3, e3] at q3
  obtain ⟨z0, r0, _, w0⟩ := DataW.trod_int t0 q0
  obtain ⟨s, r1, _, ls⟩ := DataW.trod_string t1 q1
  obtain ⟨z2, r2, _, w2⟩ := DataW.trod_int t2 q2
  simp at r0 r1 r2
  subst r0 r1 r2
  obtain ⟨pk, hk, hw⟩ := open_ints16 t3 ti ci q3
  exact ⟨⟨⟨z0, s.data.toList, z2, pk⟩, v3⟩, rfl, w0, w2, by simpa using ls, hk, hw⟩
/-- an argument that is a script of calls on a catalog -/
theorem open_kcalls {t e si : TypeId} {e0 e1 e2 r0 r1 r2 r3 : Field} {fuel : Nat} {cs : List Value} {x : DataW H × List MemPlace} (ht : P.underlying t = some (.slice e)) (he : P.underlying e = some (.struct #[e0, e1, e2])) (ce : P.cellsOf e = 6)
    (p0 : e0.offset = 0) (p1 : e1.offset = 1) (p2 : e2.offset = 5)
    (u0 : P.underlying e0.type = some (.int .i64)) (u2 : P.underlying e2.type = some (.int .i64))
    (m0 : P.cellsOf e0.type = 1) (m1 : P.cellsOf e1.type = 4) (m2 : P.cellsOf e2.type = 1)
    (hr : P.underlying e1.type = some (.struct #[r0, r1, r2, r3])) (ro0 : r0.offset = 0) (ro1 : r1.offset = 1) (ro2 : r2.offset = 2) (ro3 : r3.offset = 3) (rt0 : P.underlying r0.type = some (.int .i64)) (rt1 : P.underlying r1.type = some .string) (rt2 : P.underlying r2.type = some (.int .i64)) (rt3 : P.underlying r3.type = some (.slice si)) (ti : P.underlying si = some (.int .i64)) (ci : P.cellsOf si = 1) (rn0 : P.cellsOf r0.type = 1) (rn1 : P.cellsOf r1.type = 1) (rn2 : P.cellsOf r2.type = 1) (rn3 : P.cellsOf r3.type = 1)
    (h : DataW.trod enc P w base (fun _ => true) held fuel t cs = some x) : ∃ a len cap L, cs = [.slice a len cap] ∧ len = L.length ∧ RdC19 w (.slice a len cap) L := by
  rcases Go.Deep.open_slice ht h with ⟨rfl, _⟩ | ⟨a, len, cap, m, n, D, Pl, rfl, hb, hl, hm, hmm, rfl, hx⟩
  · exact ⟨none, 0, 0, [], rfl, rfl, Or.inl ⟨none, 0, rfl, rfl⟩⟩
  simp only [if_true] at hmm
  by_cases hl0 : len = 0
  · subst hl0
    exact ⟨some a, 0, cap, [], rfl, rfl, Or.inl ⟨_, _, rfl, rfl⟩⟩
  obtain ⟨bb, off, spot⟩ := a
  have hspot : spot = none := by
    obtain ⟨cs', h1, _⟩ := hx 0 (by omega)
    rw [ce] at h1
    have hc := World.cells?_some h1
    have h2 := hc.2.2 0 (by omega)
    obtain ⟨v, hv⟩ : ∃ v, cs'[0]? = some v := ⟨cs'[0]'(by omega), List.getElem?_eq_getElem (by omega)⟩
    rw [hv] at h2
    have := World.cell?_spot h2
    simpa [Addr.add] using this
  subst hspot
  have each : ∀ i, i < len → ∃ c : CallK, CallAtK w bb (off + i * 6) c := by
    intro i hi
    obtain ⟨cs', h1, h2⟩ := hx i (by omega)
    obtain ⟨xs, n', _, _, hlen, hxl, hf⟩ := DataW.trod_struct he h2
    rw [ce] at hlen h1
    obtain ⟨v0, v1, v2, v3, v4, v5, rfl⟩ := six19 hlen
    have hxl' : xs.length = 3 := hxl
    have g : ∀ k, k < 3 → ∃ y, xs[k]? = some y := fun k hk => ⟨xs[k], List.getElem?_eq_getElem (by omega)⟩
    obtain ⟨y0, q0e⟩ := g 0 (by omega)
    obtain ⟨y1, q1e⟩ := g 1 (by omega)
    obtain ⟨y2, q2e⟩ := g 2 (by omega)
    have q0 := hf 0 e0 rfl
    have q1 := hf 1 e1 rfl
    have q2 := hf 2 e2 rfl
    rw [p0, m0, q0e] at q0
    rw [p1, m1, q1e] at q1
    rw [p2, m2, q2e] at q2
    obtain ⟨z0, k0, _, w0⟩ := DataW.trod_int u0 q0
    obtain ⟨z2, k2, _, w2⟩ := DataW.trod_int u2 q2
    simp at k0 k2
    subst k0 k2
    obtain ⟨rc, hc4, hin⟩ := open_rcell19 hr m1 ro0 ro1 ro2 ro3 rt0 rt1 rt2 rt3 ti ci rn0 rn1 rn2 rn3 q1
    simp at hc4
    obtain ⟨rfl, rfl, rfl, rfl⟩ := hc4
    obtain ⟨hbase, _, hc⟩ := World.cells?_some h1
    have kk : ∀ k, k < 6 → w.cell? ⟨bb, off + i * 6 + k, none⟩ = [Value.int .i64 z0, .int .i64 rc.r.kind, sv rc.r.key, .int .i64 rc.r.len, rc.vs, .int .i64 z2][k]? := by
      intro k hk
      have := hc k hk
      rw [Go.Deep.add_add, add_at, ← Nat.add_assoc] at this
      exact this
    exact ⟨⟨z0, rc, z2⟩, kk 0 (by omega), kk 1 (by omega), kk 2 (by omega), kk 3 (by omega), kk 4 (by omega), kk 5 (by omega), w0, w2, hin⟩
  obtain ⟨F, hF⟩ := Go.Deep.choose_lt each
  have hlen : ((List.range len).map F).length = len := by simp
  refine ⟨some ⟨bb, off, none⟩, len, cap, (List.range len).map F, rfl, hlen.symm, ?_⟩
  have hc0 := (hF 0 (by omega)).s0
  have hbw : bb < w.heap.size := by
    unfold World.cell? at hc0
    by_cases hb : bb < w.heap.size
    · exact hb
    · rw [Array.getElem?_eq_none (by show w.heap.size ≤ bb; omega)] at hc0; cases hc0
  refine Or.inr ⟨bb, off, cap, fun e => by rw [e] at hlen; simp at hlen; omega, by rw [hlen], by rw [hlen]; omega, hbw, fun i hi => ?_⟩
  rw [hlen] at hi
  have e1 : ((List.range len).map F).getD i default = F i := by simp [List.getD, hi]
  rw [e1]
  exact hF i hi
end
end Go.Proofs.Ytndlfmofjmieaaa.Gf

namespace Go.Proofs.Ytndlfmofjmieaaa.Gf
set_option linter.unusedVariables false
set_option linter.unusedSimpArgs false
open Go.RowKit
def smK (x : CallK) : Bool := decide (x.r.r.key.length ≤ 100 ∧ x.r.r.st.length ≤ 40)
def aggK (x : CallK) : Value := .agg #[.int .i64 x.kind, .int .i64 x.r.r.kind, sv x.r.r.key, .int .i64 x.r.r.len, x.r.vs, .int .i64 x.ep]
set_option maxRecDepth 100000 in
set_option maxHeartbeats 1000000 in
theorem csmall19_any {w : World} {x : CallK} (h : x.r.In w) {b : Bool} (hb : smK x = b) : Calls Try.prog 14 #[aggK x] w fun e w' => e = .returned (.bool b) ∧ Below w.heap.size w w' := by
  obtain ⟨kd, ⟨⟨rk, ky, ln, st⟩, vs⟩, ep⟩ := x
  obtain ⟨sa, sc, es⟩ := h.rs.form
  simp only at es
  subst es
  clear h
  obtain ⟨W, hW⟩ : ∃ W, W = w.alloc (.cells #[.int .i64 kd, .int .i64 rk, .string ⟨ky.toArray⟩, .int .i64 ln, .slice sa st.length sc, .int .i64 ep] 41) := ⟨_, rfl⟩
  have B := hidK (show Below w.heap.size w W by rw [hW]; exact belL _ _)
  have z : ∀ j, W.cell? ⟨w.heap.size, j, none⟩ = (#[Value.int .i64 kd, .int .i64 rk, .string ⟨ky.toArray⟩, .int .i64 ln, .slice sa st.length sc, .int .i64 ep] : Array Value)[j]? := fun j => by rw [hW]; exact World.cell?_alloc_new _ _ _ _
  have z2 : W.cell? ⟨w.heap.size, 2, none⟩ = some (.string ⟨ky.toArray⟩) := z 2
  have z4 : W.cell? ⟨w.heap.size, 4, none⟩ = some (.slice sa st.length sc) := z 4
  clear z
  show Calls Try.prog 14 #[.agg #[.int .i64 kd, .int .i64 rk, .string ⟨ky.toArray⟩, .int .i64 ln, .slice sa st.length sc, .int .i64 ep]] w _
  by_cases h1 : (ky.length : Int) ≤ 100
  rotate_left
  · obtain rfl : b = false := hb.symm.trans (decide_eq_false fun q => h1 (by have := q.1; show (ky.length : Int) ≤ 100; simp only at this; omega))
    clear hb
    rw [hW] at z2 z4 B
    clear hW
    go_enter Try.func14, Try.ntmps14
    go_wp2
    go_ret
    exact ⟨rfl, B.out⟩
  have e : b = decide ((st.length : Int) ≤ 40) := by
    rw [← hb]
    unfold smK
    rw [decide_eq_decide]
    simp only
    omega
  subst e
  clear hb
  rw [hW] at z2 z4 B
  clear hW
  go_enter Try.func14, Try.ntmps14
  go_wp2
  go_ret
  exact ⟨rfl, B.out⟩
/-- a catalog behind a script -/
def Done19 (w : World) (g : GeoS) (e : Ending) (w' : World) : Prop := ∃ cb mb M, e = .returned (.pointer (some ⟨cb, 0, none⟩)) ∧ CatI w' cb mb g M NoB ∧ w.heap.size ≤ cb ∧ w.heap.size ≤ mb ∧ Below w.heap.size w w'
set_option maxRecDepth 100000 in
set_option maxHeartbeats 4000000 in
theorem cdone19_any {w : World} {g : GeoS} (hgw : g.Wf) (hg : okG g) {va : Option Addr} {vc : Nat} {L : List CallK} (hv : RdC19 w (.slice va L.length vc) L) : Calls Try.prog 20 #[aggG g, .slice va L.length vc] w (Done19 w g) := by
  have K1 : ∀ W, Calls Try.prog 12 #[aggG g, .slice none 0 0] W (NewC19 W g [] 0) := fun W => cnew19_any (LV := []) hgw (Or.inl ⟨none, 0, rfl, rfl⟩) (by decide) (by
    unfold neCX
    rw [if_neg (fun q => q hg), if_neg (by obtain ⟨_, _, _, _, _, _, _, _, _, q, _⟩ := hg; show ¬ g.o < (0 : Int); omega), if_neg (by intro h; cases h)])
  have T3 : Hid (∀ V, Below (w.alloc (.cells (cellsG g) 24)).heap.size (w.alloc (.cells (cellsG g) 24)) V → GeoAt V w.heap.size g ∧ Below w.heap.size w V) := geo_laid w g 24
  have HV := hidK hv
  clear hv
  obtain ⟨k, m, z, s, t, o⟩ := g
  obtain ⟨W, hW⟩ : ∃ W, W = w.alloc (.cells #[.int .i64 k, .int .i64 m, .int .i64 z, .int .i64 s, .int .i64 t, .int .i64 o] 24) := ⟨_, rfl⟩
  have T4 : Hid (∀ V, Below W.heap.size W V → GeoAt V w.heap.size ⟨k, m, z, s, t, o⟩ ∧ Below w.heap.size w V) := by rw [hW]; exact T3
  rw [aggE] at K1 ⊢
  obtain ⟨⟨y0, y1, y2, y3, y4, y5⟩, BW⟩ := T4.out W (Below.refl _ _)
  simp only at y0 y1 y2 y3 y4 y5
  have B0 := hidK BW
  clear T3 T4 BW
  go_enter Try.func20, Try.ntmps20
  go_wp2_with fail
  rw [← hW]
  clear hW
  refine (K1 _).mono ?_
  clear K1 y0 y1 y2 y3 y4 y5
  rintro _ w2 (⟨_, cb, mb, M0, rfl, eM, C2, lc, lm, b2⟩ | ⟨h, _⟩)
  rotate_left
  · exact absurd rfl h
  have B2 := hidK (B0.out.stepL b2 B0.out.size)
  have LB : Hid (w.heap.size ≤ cb ∧ w.heap.size ≤ mb) := ⟨Nat.le_trans B0.out.size lc, Nat.le_trans B0.out.size lm⟩
  have CI2 := hidK C2
  clear eM C2 lc lm b2 B0
  go_wp2_with fail
  go_loopw [7] (fun i wr => ∃ (r : Nat) (M : List ObV), r ≤ L.length ∧ r ≤ 40 ∧ i = .int .i64 (r : Int) ∧ Hid (CatI wr cb mb ⟨k, m, z, s, t, o⟩ M NoB) ∧ Hid (Below w.heap.size w wr)) (fun i _ => 40 - (intOf i).toNat)
  case atStart => exact ⟨0, M0, Nat.zero_le _, Nat.zero_le _, rfl, CI2.out, B2.out⟩
  case round =>
    clear CI2 B2
    obtain ⟨r, M, hr, hr4, rfl, hC, hB⟩ := hrel
    have FIN : Hid (Done19 w ⟨k, m, z, s, t, o⟩ (.returned (.pointer (some ⟨cb, 0, none⟩))) wr) := ⟨cb, mb, M, rfl, hC.out, LB.out.1, LB.out.2, hB.out⟩
    by_cases hlt : r < L.length
    rotate_left
    · have hge : ¬ (r : Int) < (L.length : Int) := by omega
      clear hC hB
      go_wp2
      go_ret
      exact FIN.out
    have hlt' : (r : Int) < (L.length : Int) := by omega
    by_cases h40 : r < 40
    rotate_left
    · have hge : ¬ (r : Int) < 40 := by omega
      clear hC hB
      go_wp2
      go_ret
      exact FIN.out
    have h40' : (r : Int) < 40 := by omega
    obtain ⟨b, off, ea, hb, cz⟩ := (HV.out.below hB.out).at hlt
    subst ea
    obtain ⟨x, hx⟩ : ∃ x, L.getD r default = x := ⟨_, rfl⟩
    rw [hx] at cz
    clear hx FIN
    have CZ : Hid (∀ V, Below wr.heap.size wr V → CallAtK V b (off + r * 6) x) := fun V bV => cz.below hb bV
    obtain ⟨kd, ⟨⟨rk, ky, ln, st⟩, vs⟩, ep⟩ := x
    obtain ⟨sa, sc, es⟩ := cz.rr.rs.form
    simp only at es
    subst es
    have SF : Hid (∀ V, Below wr.heap.size wr V → V.cell? ⟨b, off + r * 6, none⟩ = some (.int .i64 kd) ∧ V.cell? ⟨b, off + r * 6 + 1, none⟩ = some (.int .i64 rk) ∧ V.cell? ⟨b, off + r * 6 + 2, none⟩ = some (.string ⟨ky.toArray⟩) ∧ V.cell? ⟨b, off + r * 6 + 3, none⟩ = some (.int .i64 ln) ∧ V.cell? ⟨b, off + r * 6 + 4, none⟩ = some (.slice sa st.length sc) ∧ V.cell? ⟨b, off + r * 6 + 5, none⟩ = some (.int .i64 ep)) := fun V bV => by
      have q := CZ.out V bV
      exact ⟨q.s0, q.s1, q.s2, q.s3, q.s4, q.s5⟩
    obtain ⟨sm, hsm⟩ : ∃ y, Hid (smK ⟨kd, ⟨⟨rk, ky, ln, st⟩, .slice sa st.length sc⟩, ep⟩ = y) := ⟨_, rfl⟩
    have K2 := csmall19_any (x := ⟨kd, ⟨⟨rk, ky, ln, st⟩, .slice sa st.length sc⟩, ep⟩) cz.rr hsm.out
    rw [show aggK ⟨kd, ⟨⟨rk, ky, ln, st⟩, .slice sa st.length sc⟩, ep⟩ = .agg #[.int .i64 kd, .int .i64 rk, .string ⟨ky.toArray⟩, .int .i64 ln, .slice sa st.length sc, .int .i64 ep] from rfl] at K2
    obtain ⟨z0, z1, z2, z3, z4, z5⟩ := SF.out wr (Below.refl _ _)
    clear cz
    go_wp2_with fail
    refine K2.mono ?_
    clear K2 z0 z1 z2 z3 z4 z5
    rintro _ w3 ⟨rfl, b3⟩
    have B3 := hidK (hB.out.stepL b3 hB.out.size)
    have C3 := hidK (hC.out.below b3)
    have BB := hidK b3
    clear b3 hB hC
    cases sm with
    | false =>
      clear SF CZ hsm BB
      go_wp2
      go_roundw
      case rel => exact ⟨r + 1, M, by omega, by omega, by go_num, C3, B3⟩
      case measure => simp [intOf]; omega
    | true =>
    by_cases hk : kd = 2
    rotate_left
    · have hk' : (kd == 2) = false := beq_eq_false_iff_ne.2 hk
      obtain ⟨z0, z1, z2, z3, z4, z5⟩ := SF.out w3 BB.out
      clear SF CZ hsm BB z1 z2 z3 z4 z5
      go_wp2
      go_roundw
      case rel => exact ⟨r + 1, M, by omega, by omega, by go_num, C3, B3⟩
      case measure => simp [intOf]; omega
    subst hk
    obtain ⟨z0, z1, z2, z3, z4, z5⟩ := SF.out w3 BB.out
    clear z1 z2 z3 z4 z5
    have BD := hidK (BB.out.stepL (Below.refl _ _).drew BB.out.size)
    have B4 := hidK (B3.out.stepL (Below.refl _ _).drew B3.out.size)
    have C4 := hidK (C3.out.below (Below.refl _ _).drew)
    have CC := CZ.out _ BD.out
    have K3 := capply19_any C4.out (c := ⟨⟨rk, ky, ln, st⟩, .slice sa st.length sc⟩) CC.rr (ep := ep) CC.we rfl rfl
    rw [show aggR ⟨⟨rk, ky, ln, st⟩, .slice sa st.length sc⟩ = .agg #[.int .i64 rk, .string ⟨ky.toArray⟩, .int .i64 ln, .slice sa st.length sc] from rfl] at K3
    have lbw := hb
    have CELL : Hid (∀ V, TurnG (fun k => k = mb) w3.drew V → V.cell? ⟨b, off + r * 6, none⟩ = some (.int .i64 2) ∧ V.cell? ⟨b, off + r * 6 + 1, none⟩ = some (.int .i64 rk) ∧ V.cell? ⟨b, off + r * 6 + 2, none⟩ = some (.string ⟨ky.toArray⟩) ∧ V.cell? ⟨b, off + r * 6 + 3, none⟩ = some (.int .i64 ln) ∧ V.cell? ⟨b, off + r * 6 + 4, none⟩ = some (.slice sa st.length sc) ∧ V.cell? ⟨b, off + r * 6 + 5, none⟩ = some (.int .i64 ep)) := fun V t => by
      have im := C4.out.isMap
      obtain ⟨p0, p1, p2, p3, p4, p5⟩ := SF.out _ BD.out
      have lb : b < w3.drew.heap.size := Nat.lt_of_lt_of_le lbw BD.out.size
      have nb : ¬ b = mb := fun e => by
        rw [im.cell ⟨b, off + r * 6, none⟩ e] at p0
        cases p0
      have q : ∀ j, V.cell? ⟨b, j, none⟩ = w3.drew.cell? ⟨b, j, none⟩ := fun j => t.cell (p := ⟨b, j, none⟩) lb nb
      exact ⟨(q _).trans p0, (q _).trans p1, (q _).trans p2, (q _).trans p3, (q _).trans p4, (q _).trans p5⟩
    clear CC CZ hsm lbw
    go_wp2_with fail
    refine wp_region_held_drew (S := fun V => V.cell? ⟨b, off + r * 6, none⟩ = some (.int .i64 2) ∧ V.cell? ⟨b, off + r * 6 + 1, none⟩ = some (.int .i64 rk) ∧ V.cell? ⟨b, off + r * 6 + 2, none⟩ = some (.string ⟨ky.toArray⟩) ∧ V.cell? ⟨b, off + r * 6 + 3, none⟩ = some (.int .i64 ln) ∧ V.cell? ⟨b, off + r * 6 + 4, none⟩ = some (.slice sa st.length sc) ∧ V.cell? ⟨b, off + r * 6 + 5, none⟩ = some (.int .i64 ep)) (by kernel_rfl) (SF.out _ BD.out) (fun hHeld => ?_)
    clear z0
    refine tkH 0 ?_
    refine tkH 1 ?_
    refine tkH 2 ?_
    refine tkH 3 ?_
    refine tkH 4 ?_
    refine tkH 5 ?_
    refine tkH 6 ?_
    refine tkH 7 ?_
    refine tkH 8 ?_
    refine tkH 9 ?_
    refine tkH 10 ?_
    clear hHeld
    refine rnH 11 (fun K' hK => ?_)
    go_simp
    go_at_call 25
    refine K3.mono ?_
    clear K3
    rintro _ w5 ⟨M5, rfl, C5, e5, t5⟩
    dsimp only
    have B5 := hidK (B4.out.trans (t5.below (fun y hy => by rw [hy]; exact LB.out.2) B4.out.size))
    have S5 := CELL.out w5 t5
    have C6 := hidK C5
    clear e5 t5 C5
    refine koH hK S5 fun hHeld => ?_
    clear hK K' hHeld S5
    refine wpAnyH_done (by kernel_rfl) ?_ _
    clear SF BB BD B4 C4 B3 C3 CELL
    go_wp2
    go_roundw
    case rel => exact ⟨r + 1, M5, by omega, by omega, by go_num, C6, B5⟩
    case measure => simp [intOf]; omega
end Go.Proofs.Ytndlfmofjmieaaa.Gf
