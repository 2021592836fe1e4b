/- TEXTS JOINED: ArCel, VoCl, VoSml. -/
import Derived.Deep.Grids
import Derived.Test.YtgahaebfgmbckaaTome16
import Derived.Test.YtgahaebfgmbckaaTome27
namespace Go.Proofs.Ytgahaebfgmbckaa.Gf
set_option linter.unusedVariables false
set_option linter.unusedSimpArgs false
open Go.RowKit
open Go.ChangeShapes
section
variable {H : Type} {enc : TypeId × Value → H} {P : Program} {w : World} {base : Nat} {held : Bool}
/-- the cells of a call on an array -/
theorem open_acell {t sb ss si : TypeId} {f0 f1 f2 f3 f4 f5 f6 : Field} {fuel : Nat} {cs : List Value} {x : DataW H × List MemPlace} (he : P.underlying t = some (.struct #[f0, f1, f2, f3, f4, f5, f6])) (ce : P.cellsOf t = 7)
    (o0 : f0.offset = 0) (o1 : f1.offset = 1) (o2 : f2.offset = 2) (o3 : f3.offset = 3) (o4 : f4.offset = 4) (o5 : f5.offset = 5) (o6 : f6.offset = 6)
    (t0 : P.underlying f0.type = some (.int .i64)) (t1 : P.underlying f1.type = some (.int .i64)) (t2 : P.underlying f2.type = some (.int .i64)) (t3 : P.underlying f3.type = some (.int .i64)) (t4 : P.underlying f4.type = some (.int .u8)) (t5 : P.underlying f5.type = some (.slice sb)) (t6 : P.underlying f6.type = some (.slice ss))
    (tb : P.underlying sb = some (.int .u8)) (ts : P.underlying ss = some (.slice si)) (ti : P.underlying si = some (.int .i64)) (cb : P.cellsOf sb = 1) (cs1 : P.cellsOf ss = 1) (ci : P.cellsOf si = 1)
    (n0 : P.cellsOf f0.type = 1) (n1 : P.cellsOf f1.type = 1) (n2 : P.cellsOf f2.type = 1) (n3 : P.cellsOf f3.type = 1) (n4 : P.cellsOf f4.type = 1) (n5 : P.cellsOf f5.type = 1) (n6 : P.cellsOf f6.type = 1)
    (hf : DataW.trod enc P w base (fun _ => true) held fuel t cs = some x) : ∃ c : CallA, cs = [.int .i64 c.kind, .int .i64 c.d, .int .i64 c.n, .int .i64 c.m, .int .u8 ((c.by8.toNat : Nat) : Int), c.vb, c.vk] ∧ CallV w c := by
  obtain ⟨xs, n', _, _, hlen, hxl, hfd⟩ := DataW.trod_struct he hf
  rw [ce] at hlen
  obtain ⟨v0, v1, v2, v3, v4, v5, v6, rfl⟩ := seven hlen
  have hxl' : xs.length = 7 := hxl
  have g : ∀ k, k < 7 → ∃ y, xs[k]? = some y := fun k hk => ⟨xs[k], List.getElem?_eq_getElem (by omega)⟩
  obtain ⟨y0, e0⟩ := g 0 (by omega)
  obtain ⟨y1, e1⟩ := g 1 (by omega)
  obtain ⟨y2, e2⟩ := g 2 (by omega)
  obtain ⟨y3, e3⟩ := g 3 (by omega)
  obtain ⟨y4, e4⟩ := g 4 (by omega)
  obtain ⟨y5, e5⟩ := g 5 (by omega)
  obtain ⟨y6, e6⟩ := g 6 (by omega)
  have q0 := hfd 0 f0 rfl
  have q1 := hfd 1 f1 rfl
  have q2 := hfd 2 f2 rfl
  have q3 := hfd 3 f3 rfl
  have q4 := hfd 4 f4 rfl
  have q5 := hfd 5 f5 rfl
  have q6 := hfd 6 f6 rfl
  rw [o0, n0, e0] at q0
  rw [o1, n1, e1] at q1
  rw [o2, n2, e2] at q2
  rw [o3, n3, e3] at q3
  rw [o4, n4, e4] at q4
  rw [o5, n5, e5] at q5
  rw [o6, n6, e6] at q6
  obtain ⟨z0, r0, _, w0⟩ := DataW.trod_int t0 q0
  obtain ⟨z1, r1, _, w1⟩ := DataW.trod_int t1 q1
  obtain ⟨z2, r2, _, w2⟩ := DataW.trod_int t2 q2
  obtain ⟨z3, r3, _, w3⟩ := DataW.trod_int t3 q3
  obtain ⟨z4, r4, _, w4⟩ := DataW.trod_int t4 q4
  simp at r0 r1 r2 r3 r4
  subst r0 r1 r2 r3 r4
  have b4 := bounds_u8 w4
  obtain ⟨pb, hvb⟩ : ∃ pb, Rd w v5 pb := by
    rcases open_ints t5 tb cb q5 with ⟨hcs, _⟩ | ⟨x4, l4, c4, zs, hcs, _, hl4, hm4, hz, _, hcell, hwz⟩
    · simp at hcs
      subst hcs
      obtain ⟨p, _, hp⟩ := rd_row (w := w) (a := none) (len := 0) (cap := 0) (zs := []) (Or.inl ⟨rfl, rfl, rfl, rfl⟩)
      exact ⟨p, hp⟩
    · simp at hcs
      subst hcs
      obtain ⟨p, _, hp⟩ := rd_row (w := w) (a := some x4) (len := l4) (cap := c4) (zs := zs) (Or.inr ⟨x4, rfl, hl4, hm4, by simpa using hz, hcell, hwz⟩)
      exact ⟨p, hp⟩
  obtain ⟨ra, rl, rc, Lk, hcs, _, hvk⟩ := open_rows t6 ts ti ci cs1 q6
  simp at hcs
  subst hcs
  refine ⟨⟨z0, z1, z2, z3, UInt8.ofNat z4.toNat, v5, _, pb, Lk⟩, ?_, w0, w1, w2, w3, hvb, hvk⟩
  have e : (((UInt8.ofNat z4.toNat).toNat : Nat) : Int) = z4 := by rw [ofNat_u8 (by omega)]; omega
  show _ = [Value.int .i64 z0, .int .i64 z1, .int .i64 z2, .int .i64 z3, .int .u8 (((UInt8.ofNat z4.toNat).toNat : Nat) : Int), v5, _]
  rw [e]
end
end Go.Proofs.Ytgahaebfgmbckaa.Gf

namespace Go.Proofs.Ytgahaebfgmbckaa.Gf
set_option linter.unusedVariables false
set_option linter.unusedSimpArgs false
open Go.RowKit
open Go.ChangeShapes
structure CallW where
  kind : Int
  n : Int
  m : Int
  vd : Value
  d : List UInt8
  vk : Value
  kn : List Bool
  c : CallA
instance : Inhabited CallW := ⟨⟨0, 0, 0, .slice none 0 0, [], .slice none 0 0, [], default⟩⟩
structure CallAtW (w : World) (b off : Nat) (x : CallW) : Prop where
  s0 : w.cell? ⟨b, off, none⟩ = some (.int .i64 x.kind)
  s1 : w.cell? ⟨b, off + 1, none⟩ = some (.int .i64 x.n)
  s2 : w.cell? ⟨b, off + 2, none⟩ = some (.int .i64 x.m)
  s3 : w.cell? ⟨b, off + 3, none⟩ = some x.vd
  s4 : w.cell? ⟨b, off + 4, none⟩ = some x.vk
  s5 : w.cell? ⟨b, off + 5, none⟩ = some (.int .i64 x.c.kind)
  s6 : w.cell? ⟨b, off + 6, none⟩ = some (.int .i64 x.c.d)
  s7 : w.cell? ⟨b, off + 7, none⟩ = some (.int .i64 x.c.n)
  s8 : w.cell? ⟨b, off + 8, none⟩ = some (.int .i64 x.c.m)
  s9 : w.cell? ⟨b, off + 9, none⟩ = some (.int .u8 ((x.c.by8.toNat : Nat) : Int))
  s10 : w.cell? ⟨b, off + 10, none⟩ = some x.c.vb
  s11 : w.cell? ⟨b, off + 11, none⟩ = some x.c.vk
  wk : (Lit.int .i64 x.kind).wf = true
  wn : (Lit.int .i64 x.n).wf = true
  wm : (Lit.int .i64 x.m).wf = true
  rd : Rd w x.vd x.d
  rk : RdB w x.vk x.kn
  cv : CallV w x.c
theorem CallAtW.below {w w' : World} {b off : Nat} {x : CallW} (h : CallAtW w b off x) (hb : b < w.heap.size) (hw : Below w.heap.size w w') : CallAtW w' b off x := by
  have k : ∀ j, w'.cell? ⟨b, j, none⟩ = w.cell? ⟨b, j, none⟩ := fun j => hw.cell (p := ⟨b, j, none⟩) hb
  exact ⟨(k _).trans h.s0, (k _).trans h.s1, (k _).trans h.s2, (k _).trans h.s3, (k _).trans h.s4, (k _).trans h.s5, (k _).trans h.s6, (k _).trans h.s7, (k _).trans h.s8, (k _).trans h.s9, (k _).trans h.s10, (k _).trans h.s11, h.wk, h.wn, h.wm, h.rd.below hw, h.rk.below hw, h.cv.below hw⟩
def RdV17 (w : World) (v : Value) (L : List CallW) : Prop :=
  (∃ ao cap, L = [] ∧ v = .slice ao 0 cap) ∨ (∃ b off cap, L ≠ [] ∧ v = .slice (some ⟨b, off, none⟩) L.length cap ∧ L.length ≤ maxLen ∧ b < w.heap.size ∧ ∀ i, i < L.length → CallAtW w b (off + i * 12) (L.getD i default))
theorem RdV17.below {w w' : World} {v : Value} {L : List CallW} (h : RdV17 w v L) (hb : Below w.heap.size w w') : RdV17 w' v L := by
  rcases h with h | ⟨b, off, cap, h1, h2, h3, h5, h6⟩
  · exact Or.inl h
  · exact Or.inr ⟨b, off, cap, h1, h2, h3, Nat.lt_of_lt_of_le h5 hb.size, fun i hi => (h6 i hi).below h5 hb⟩
theorem RdV17.form {w : World} {v : Value} {L : List CallW} (h : RdV17 w v L) : ∃ a c, v = .slice a L.length c := by
  rcases h with ⟨a, c, rfl, rfl⟩ | ⟨b, off, c, _, rfl, _⟩
  · exact ⟨a, c, rfl⟩
  · exact ⟨_, c, rfl⟩
theorem RdV17.lenEq {w : World} {a : Option Addr} {len cap : Nat} {L : List CallW} (h : RdV17 w (.slice a len cap) L) : len = L.length := by
  obtain ⟨_, _, e⟩ := h.form
  simp at e
  exact e.2.1
theorem RdV17.at {w : World} {a : Option Addr} {c : Nat} {L : List CallW} (h : RdV17 w (.slice a L.length c) L) {k : Nat} (hk : k < L.length) : ∃ b off, a = some ⟨b, off, none⟩ ∧ b < w.heap.size ∧ CallAtW w b (off + k * 12) (L.getD k default) := by
  rcases h with ⟨_, _, h1, _⟩ | ⟨b, off, c, h1, h2, h3, h4, h5⟩
  · rw [h1] at hk; simp at hk
  · simp at h2
    exact ⟨b, off, h2.1, h4, h5 k hk⟩
theorem twelve {cs : List Value} (h : cs.length = 12) : ∃ v0 v1 v2 v3 v4 u0 u1 u2 u3 u4 u5 u6, cs = [v0, v1, v2, v3, v4, u0, u1, u2, u3, u4, u5, u6] := by
  match cs, h with
  | [a, b, c, d, e, f, g, i, j, k, l, m], _ => exact ⟨a, b, c, d, e, f, g, i, j, k, l, m, rfl⟩
section
variable {H : Type} {enc : TypeId × Value → H} {P : Program} {w : World} {base : Nat} {held : Bool}
/-- an argument that is a slice of votes -/
theorem open_vcalls {t e sb so ss si : TypeId} {e0 e1 e2 e3 e4 e5 f0 f1 f2 f3 f4 f5 f6 : Field} {fuel : Nat} {cs : List Value} {x : DataW H × List MemPlace} (ht : P.underlying t = some (.slice e)) (he : P.underlying e = some (.struct #[e0, e1, e2, e3, e4, e5])) (ce : P.cellsOf e = 12)
    (p0 : e0.offset = 0) (p1 : e1.offset = 1) (p2 : e2.offset = 2) (p3 : e3.offset = 3) (p4 : e4.offset = 4) (p5 : e5.offset = 5)
    (u0 : P.underlying e0.type = some (.int .i64)) (u1 : P.underlying e1.type = some (.int .i64)) (u2 : P.underlying e2.type = some (.int .i64)) (u3 : P.underlying e3.type = some (.slice sb)) (u4 : P.underlying e4.type = some (.slice so)) (tO : P.underlying so = some .bool) (co1 : P.cellsOf so = 1)
    (m0 : P.cellsOf e0.type = 1) (m1 : P.cellsOf e1.type = 1) (m2 : P.cellsOf e2.type = 1) (m3 : P.cellsOf e3.type = 1) (m4 : P.cellsOf e4.type = 1) (m5 : P.cellsOf e5.type = 7)
    (h4 : P.underlying e5.type = some (.struct #[f0, f1, f2, f3, f4, f5, f6]))
    (o0 : f0.offset = 0) (o1 : f1.offset = 1) (o2 : f2.offset = 2) (o3 : f3.offset = 3) (o4 : f4.offset = 4) (o5 : f5.offset = 5) (o6 : f6.offset = 6)
    (t0 : P.underlying f0.type = some (.int .i64)) (t1 : P.underlying f1.type = some (.int .i64)) (t2 : P.underlying f2.type = some (.int .i64)) (t3 : P.underlying f3.type = some (.int .i64)) (t4 : P.underlying f4.type = some (.int .u8)) (t5 : P.underlying f5.type = some (.slice sb)) (t6 : P.underlying f6.type = some (.slice ss))
    (tb : P.underlying sb = some (.int .u8)) (ts : P.underlying ss = some (.slice si)) (ti : P.underlying si = some (.int .i64)) (cb : P.cellsOf sb = 1) (cs1 : P.cellsOf ss = 1) (ci : P.cellsOf si = 1)
    (n0 : P.cellsOf f0.type = 1) (n1 : P.cellsOf f1.type = 1) (n2 : P.cellsOf f2.type = 1) (n3 : P.cellsOf f3.type = 1) (n4 : P.cellsOf f4.type = 1) (n5 : P.cellsOf f5.type = 1) (n6 : P.cellsOf f6.type = 1)
    (h : DataW.trod enc P w base (fun _ => true) held fuel t cs = some x) : ∃ a len cap L, cs = [.slice a len cap] ∧ len = L.length ∧ RdV17 w (.slice a len cap) L := by
  rcases Go.Deep.open_slice ht h with ⟨rfl, _⟩ | ⟨a, len, cap, m, n, D, Pl, rfl, hb, hl, hm, hmm, rfl, hx⟩
  · exact ⟨none, 0, 0, [], rfl, rfl, Or.inl ⟨none, 0, rfl, rfl⟩⟩
  simp only [if_true] at hmm
  by_cases hl0 : len = 0
  · subst hl0
    exact ⟨some a, 0, cap, [], rfl, rfl, Or.inl ⟨_, _, rfl, rfl⟩⟩
  obtain ⟨bb, off, spot⟩ := a
  have hspot : spot = none := by
    obtain ⟨cs', h1, _⟩ := hx 0 (by omega)
    rw [ce] at h1
    have hc := World.cells?_some h1
    have h2 := hc.2.2 0 (by omega)
    obtain ⟨v, hv⟩ : ∃ v, cs'[0]? = some v := ⟨cs'[0]'(by omega), List.getElem?_eq_getElem (by omega)⟩
    rw [hv] at h2
    have := World.cell?_spot h2
    simpa [Addr.add] using this
  subst hspot
  have each : ∀ i, i < len → ∃ c : CallW, CallAtW w bb (off + i * 12) c := by
    intro i hi
    obtain ⟨cs', h1, h2⟩ := hx i (by omega)
    obtain ⟨xs, n', _, _, hlen, hxl, hf⟩ := DataW.trod_struct he h2
    rw [ce] at hlen h1
    obtain ⟨v0, v1, v2, v3, v4, r0, r1, r2, r3, r4, r5, r6, rfl⟩ := twelve hlen
    have hxl' : xs.length = 6 := hxl
    have g : ∀ k, k < 6 → ∃ y, xs[k]? = some y := fun k hk => ⟨xs[k], List.getElem?_eq_getElem (by omega)⟩
    obtain ⟨y0, q0e⟩ := g 0 (by omega)
    obtain ⟨y1, q1e⟩ := g 1 (by omega)
    obtain ⟨y2, q2e⟩ := g 2 (by omega)
    obtain ⟨y3, q3e⟩ := g 3 (by omega)
    obtain ⟨y4, q4e⟩ := g 4 (by omega)
    obtain ⟨y5, q5e⟩ := g 5 (by omega)
    have q0 := hf 0 e0 rfl
    have q1 := hf 1 e1 rfl
    have q2 := hf 2 e2 rfl
    have q3 := hf 3 e3 rfl
    have q4 := hf 4 e4 rfl
    have q5 := hf 5 e5 rfl
    rw [p0, m0, q0e] at q0
    rw [p1, m1, q1e] at q1
    rw [p2, m2, q2e] at q2
    rw [p3, m3, q3e] at q3
    rw [p4, m4, q4e] at q4
    rw [p5, m5, q5e] at q5
    obtain ⟨z0, k0, _, w0⟩ := DataW.trod_int u0 q0
    obtain ⟨z1, k1, _, w1⟩ := DataW.trod_int u1 q1
    obtain ⟨z2, k2, _, w2⟩ := DataW.trod_int u2 q2
    simp at k0 k1 k2
    subst k0 k1 k2
    obtain ⟨c, hc7, hcv⟩ := open_acell h4 m5 o0 o1 o2 o3 o4 o5 o6 t0 t1 t2 t3 t4 t5 t6 tb ts ti cb cs1 ci n0 n1 n2 n3 n4 n5 n6 q5
    simp at hc7
    obtain ⟨rfl, rfl, rfl, rfl, rfl, rfl, rfl⟩ := hc7
    obtain ⟨pb, hvb⟩ : ∃ pb, Rd w v3 pb := by
      rcases open_ints u3 tb cb q3 with ⟨hcs, _⟩ | ⟨x4, l4, c4, zs, hcs, _, hl4, hm4, hz, _, hcell, hwz⟩
      · simp at hcs
        subst hcs
        obtain ⟨p, _, hp⟩ := rd_row (w := w) (a := none) (len := 0) (cap := 0) (zs := []) (Or.inl ⟨rfl, rfl, rfl, rfl⟩)
        exact ⟨p, hp⟩
      · simp at hcs
        subst hcs
        obtain ⟨p, _, hp⟩ := rd_row (w := w) (a := some x4) (len := l4) (cap := c4) (zs := zs) (Or.inr ⟨x4, rfl, hl4, hm4, by simpa using hz, hcell, hwz⟩)
        exact ⟨p, hp⟩
    obtain ⟨pk, hvk⟩ : ∃ pk, RdB w v4 pk := by
      rcases Go.Deep.open_bools u4 tO co1 q4 with ⟨hcs, _⟩ | ⟨x4, l4, c4, B4, hcs, _, hl4, hm4, _, hcell⟩
      · simp at hcs
        subst hcs
        exact ⟨[], rdB_none⟩
      · simp at hcs
        subst hcs
        exact rdB_row hl4 hm4 hcell
    obtain ⟨hbase, _, hc⟩ := World.cells?_some h1
    have kk : ∀ k, k < 12 → w.cell? ⟨bb, off + i * 12 + k, none⟩ = [Value.int .i64 z0, .int .i64 z1, .int .i64 z2, v3, v4, .int .i64 c.kind, .int .i64 c.d, .int .i64 c.n, .int .i64 c.m, .int .u8 ((c.by8.toNat : Nat) : Int), c.vb, c.vk][k]? := by
      intro k hk
      have := hc k hk
      rw [Go.Deep.add_add, add_at, ← Nat.add_assoc] at this
      exact this
    exact ⟨⟨z0, z1, z2, v3, pb, v4, pk, c⟩, kk 0 (by omega), kk 1 (by omega), kk 2 (by omega), kk 3 (by omega), kk 4 (by omega), kk 5 (by omega), kk 6 (by omega), kk 7 (by omega), kk 8 (by omega), kk 9 (by omega), kk 10 (by omega), kk 11 (by omega), w0, w1, w2, hvb, hvk, hcv⟩
  obtain ⟨F, hF⟩ := Go.Deep.choose_lt each
  have hlen : ((List.range len).map F).length = len := by simp
  refine ⟨some ⟨bb, off, none⟩, len, cap, (List.range len).map F, rfl, hlen.symm, ?_⟩
  have hc0 := (hF 0 (by omega)).s0
  have hbw : bb < w.heap.size := by
    unfold World.cell? at hc0
    by_cases hb : bb < w.heap.size
    · exact hb
    · rw [Array.getElem?_eq_none (by show w.heap.size ≤ bb; omega)] at hc0; cases hc0
  refine Or.inr ⟨bb, off, cap, fun e => by rw [e] at hlen; simp at hlen; omega, by rw [hlen], by rw [hlen]; omega, hbw, fun i hi => ?_⟩
  rw [hlen] at hi
  have e1 : ((List.range len).map F).getD i default = F i := by simp [List.getD, hi]
  rw [e1]
  exact hF i hi
end
end Go.Proofs.Ytgahaebfgmbckaa.Gf

namespace Go.Proofs.Ytgahaebfgmbckaa.Gf
set_option linter.unusedVariables false
set_option linter.unusedSimpArgs false
open Go.RowKit
theorem toldA_one {w : World} {G : Nat → Prop} {c : CallA} (h : CallV w c) (ha : ApC G c) (hG : ∀ k, G k → k < w.heap.size) (e : Nat) {b : Nat} (hb : b = w.heap.size) : ToldA (w.alloc (.cells #[.int .i64 c.kind, .int .i64 c.d, .int .i64 c.n, .int .i64 c.m, .int .u8 ((c.by8.toNat : Nat) : Int), c.vb, c.vk] e)) G (.slice (some ⟨b, 0, none⟩) 1 1) [c] := by
  subst hb
  have cc : ∀ j, (w.alloc (.cells #[.int .i64 c.kind, .int .i64 c.d, .int .i64 c.n, .int .i64 c.m, .int .u8 ((c.by8.toNat : Nat) : Int), c.vb, c.vk] e)).cell? ⟨w.heap.size, j, none⟩ = #[Value.int .i64 c.kind, .int .i64 c.d, .int .i64 c.n, .int .i64 c.m, .int .u8 ((c.by8.toNat : Nat) : Int), c.vb, c.vk][j]? := fun j => World.cell?_alloc_new _ _ _ _
  have hv := h.below (belR w (.cells #[.int .i64 c.kind, .int .i64 c.d, .int .i64 c.n, .int .i64 c.m, .int .u8 ((c.by8.toNat : Nat) : Int), c.vb, c.vk] e))
  refine ⟨Or.inr ⟨w.heap.size, 0, 1, by simp, rfl, by simp [maxLen], by simp, fun i hi => ?_⟩, ?_, ?_⟩
  · have ei : i = 0 := by simpa using hi
    subst ei
    exact ⟨cc 0, cc 1, cc 2, cc 3, cc 4, cc 5, cc 6, hv.wk, hv.wd, hv.wn, hv.wm, hv.rb, hv.rk⟩
  · intro x n c' e'
    simp at e'
    obtain ⟨rfl, _⟩ := e'
    exact Or.inr fun k => by have := hG _ k; simp at this
  · intro c' hc
    have : c' = c := by simpa using hc
    rw [this]; exact ha
set_option maxRecDepth 100000 in
theorem vsmall_any {w : World} {k n m : Int} {da ka ba ca : Option Addr} {dl dc kl kc bl bc cl cc : Nat} {q0 q1 q2 q3 : Int} {q4 : Int} {x : Bool} (hx : decide (dl ≤ 60 ∧ kl ≤ 40) = x) :
    Calls Try.prog 16 #[.agg #[.int .i64 k, .int .i64 n, .int .i64 m, .slice da dl dc, .slice ka kl kc, .int .i64 q0, .int .i64 q1, .int .i64 q2, .int .i64 q3, .int .u8 q4, .slice ba bl bc, .slice ca cl cc]] w fun e w' => e = .returned (.bool x) ∧ Below w.heap.size w w' := by
  have HX : Hid (decide (dl ≤ 60 ∧ kl ≤ 40) = x) := hx
  clear hx
  by_cases h1 : (dl : Int) ≤ 60
  · by_cases h2 : (kl : Int) ≤ 40
    · have E : x = true := by rw [← HX.out]; exact decide_eq_true ⟨by omega, by omega⟩
      subst E
      clear HX
      go_enter Try.func16, Try.ntmps16
      go_wp2
      go_ret
      exact ⟨rfl, belR _ _⟩
    · have E : x = false := by rw [← HX.out]; exact decide_eq_false fun q => by omega
      subst E
      clear HX
      go_enter Try.func16, Try.ntmps16
      go_wp2
      go_ret
      exact ⟨rfl, belR _ _⟩
  · have E : x = false := by rw [← HX.out]; exact decide_eq_false fun q => by omega
    subst E
    clear HX
    go_enter Try.func16, Try.ntmps16
    go_wp2
    go_ret
    exact ⟨rfl, belR _ _⟩
end Go.Proofs.Ytgahaebfgmbckaa.Gf
