/- TEXTS JOINED: ArCall, DkMath, ArMath, PoMulMath, PoOnl, PoInfo, MxTurn, TuLm. -/
import Derived.Test.YtpijncnpicgjeaaTome1
import Derived.Lib.SmallJoins
import Derived.Laws.CopyOwn
import Derived.Deep.AppendLies
/-
  SLICES OF SLICES OF INTEGERS, AND OF CALLS ON AN ARRAY, IN MEMORY (structs of four integers, a byte, a slice of bytes and a slice of slices of integers): 'RdII w v L', 'RdA w v L'; how arguments of these types are read. No program's function is named here.
-/

namespace Go.Proofs.Ytpijncnpicgjeaa.Gf
set_option linter.unusedVariables false
set_option linter.unusedSimpArgs false
open Go.RowKit
open Go.ChangeShapes

/-- a row of integers, with its slice -/
abbrev VI := Value × List Int
instance : Inhabited VI := ⟨(.slice none 0 0, [])⟩
structure RowAt (w : World) (b off : Nat) (r : VI) : Prop where
  c : w.cell? ⟨b, off, none⟩ = some r.1
  rd : RdI w r.1 r.2
  wf : ∀ z ∈ r.2, (Lit.int .i64 z).wf = true
def RdII (w : World) (v : Value) (L : List VI) : Prop :=
  (∃ ao cap, L = [] ∧ v = .slice ao 0 cap) ∨ (∃ b off cap, L ≠ [] ∧ v = .slice (some ⟨b, off, none⟩) L.length cap ∧ L.length ≤ maxLen ∧ b < w.heap.size ∧ ∀ i, i < L.length → RowAt w b (off + i) (L.getD i default))
theorem RdII.below {w w' : World} {v : Value} {L : List VI} (h : RdII w v L) (hb : Below w.heap.size w w') : RdII w' v L := by
  rcases h with h | ⟨b, off, cap, h1, h2, h3, h4, h5⟩
  · exact Or.inl h
  · refine Or.inr ⟨b, off, cap, h1, h2, h3, Nat.lt_of_lt_of_le h4 hb.size, fun i hi => ?_⟩
    have h6 := h5 i hi
    exact ⟨(hb.cell (p := ⟨b, off + i, none⟩) h4).trans h6.c, h6.rd.below hb, h6.wf⟩
theorem RdII.form {w : World} {v : Value} {L : List VI} (h : RdII w v L) : ∃ a c, v = .slice a L.length c := by
  rcases h with ⟨a, c, rfl, rfl⟩ | ⟨b, off, c, _, rfl, _⟩
  · exact ⟨a, c, rfl⟩
  · exact ⟨_, c, rfl⟩
theorem RdII.lenEq {w : World} {a : Option Addr} {len cap : Nat} {L : List VI} (h : RdII w (.slice a len cap) L) : len = L.length := by
  obtain ⟨_, _, e⟩ := h.form
  simp at e
  exact e.2.1
theorem RdII.at {w : World} {a : Option Addr} {c : Nat} {L : List VI} (h : RdII w (.slice a L.length c) L) {k : Nat} (hk : k < L.length) : ∃ b off, a = some ⟨b, off, none⟩ ∧ b < w.heap.size ∧ RowAt w b (off + k) (L.getD k default) := by
  rcases h with ⟨_, _, h1, _⟩ | ⟨b, off, c, h1, h2, h3, h4, h5⟩
  · rw [h1] at hk; simp at hk
  · simp at h2
    exact ⟨b, off, h2.1, h4, h5 k hk⟩

/-- a call on an array -/
structure CallA where
  kind : Int
  d : Int
  n : Int
  m : Int
  by8 : UInt8
  vb : Value
  vk : Value
  b : List UInt8
  keep : List VI
instance : Inhabited CallA := ⟨⟨0, 0, 0, 0, 0, .slice none 0 0, .slice none 0 0, [], []⟩⟩
structure CallAtA (w : World) (b off : Nat) (c : CallA) : Prop where
  c0 : w.cell? ⟨b, off, none⟩ = some (.int .i64 c.kind)
  c1 : w.cell? ⟨b, off + 1, none⟩ = some (.int .i64 c.d)
  c2 : w.cell? ⟨b, off + 2, none⟩ = some (.int .i64 c.n)
  c3 : w.cell? ⟨b, off + 3, none⟩ = some (.int .i64 c.m)
  c4 : w.cell? ⟨b, off + 4, none⟩ = some (.int .u8 ((c.by8.toNat : Nat) : Int))
  c5 : w.cell? ⟨b, off + 5, none⟩ = some c.vb
  c6 : w.cell? ⟨b, off + 6, none⟩ = some c.vk
  wk : (Lit.int .i64 c.kind).wf = true
  wd : (Lit.int .i64 c.d).wf = true
  wn : (Lit.int .i64 c.n).wf = true
  wm : (Lit.int .i64 c.m).wf = true
  rb : Rd w c.vb c.b
  rk : RdII w c.vk c.keep
theorem CallAtA.below {w w' : World} {b off : Nat} {c : CallA} (h : CallAtA w b off c) (hb : b < w.heap.size) (hw : Below w.heap.size w w') : CallAtA w' b off c :=
  ⟨(hw.cell (p := ⟨b, off, none⟩) hb).trans h.c0, (hw.cell (p := ⟨b, off + 1, none⟩) hb).trans h.c1, (hw.cell (p := ⟨b, off + 2, none⟩) hb).trans h.c2, (hw.cell (p := ⟨b, off + 3, none⟩) hb).trans h.c3, (hw.cell (p := ⟨b, off + 4, none⟩) hb).trans h.c4, (hw.cell (p := ⟨b, off + 5, none⟩) hb).trans h.c5, (hw.cell (p := ⟨b, off + 6, none⟩) hb).trans h.c6, h.wk, h.wd, h.wn, h.wm, h.rb.below hw, h.rk.below hw⟩
def RdA (w : World) (v : Value) (L : List CallA) : Prop :=
  (∃ ao cap, L = [] ∧ v = .slice ao 0 cap) ∨ (∃ b off cap, L ≠ [] ∧ v = .slice (some ⟨b, off, none⟩) L.length cap ∧ L.length ≤ maxLen ∧ b < w.heap.size ∧ ∀ i, i < L.length → CallAtA w b (off + i * 7) (L.getD i default))
theorem RdA.below {w w' : World} {v : Value} {L : List CallA} (h : RdA w v L) (hb : Below w.heap.size w w') : RdA w' v L := by
  rcases h with h | ⟨b, off, cap, h1, h2, h3, h5, h6⟩
  · exact Or.inl h
  · exact Or.inr ⟨b, off, cap, h1, h2, h3, Nat.lt_of_lt_of_le h5 hb.size, fun i hi => (h6 i hi).below h5 hb⟩
theorem RdA.form {w : World} {v : Value} {L : List CallA} (h : RdA w v L) : ∃ a c, v = .slice a L.length c := by
  rcases h with ⟨a, c, rfl, rfl⟩ | ⟨b, off, c, _, rfl, _⟩
  · exact ⟨a, c, rfl⟩
  · exact ⟨_, c, rfl⟩
theorem RdA.lenEq {w : World} {a : Option Addr} {len cap : Nat} {L : List CallA} (h : RdA w (.slice a len cap) L) : len = L.length := by
  obtain ⟨_, _, e⟩ := h.form
  simp at e
  exact e.2.1
theorem RdA.at {w : World} {a : Option Addr} {c : Nat} {L : List CallA} (h : RdA w (.slice a L.length c) L) {k : Nat} (hk : k < L.length) : ∃ b off, a = some ⟨b, off, none⟩ ∧ b < w.heap.size ∧ CallAtA w b (off + k * 7) (L.getD k default) := by
  rcases h with ⟨_, _, h1, _⟩ | ⟨b, off, c, h1, h2, h3, h4, h5⟩
  · rw [h1] at hk; simp at hk
  · simp at h2
    exact ⟨b, off, h2.1, h4, h5 k hk⟩
def aggA (c : CallA) : Value := .agg #[.int .i64 c.kind, .int .i64 c.d, .int .i64 c.n, .int .i64 c.m, .int .u8 ((c.by8.toNat : Nat) : Int), c.vb, c.vk]
structure CallV (w : World) (c : CallA) : Prop where
  wk : (Lit.int .i64 c.kind).wf = true
  wd : (Lit.int .i64 c.d).wf = true
  wn : (Lit.int .i64 c.n).wf = true
  wm : (Lit.int .i64 c.m).wf = true
  rb : Rd w c.vb c.b
  rk : RdII w c.vk c.keep
theorem CallV.below {w w' : World} {c : CallA} (h : CallV w c) (hb : Below w.heap.size w w') : CallV w' c := ⟨h.wk, h.wd, h.wn, h.wm, h.rb.below hb, h.rk.below hb⟩
theorem seven {cs : List Value} (h : cs.length = 7) : ∃ v0 v1 v2 v3 v4 v5 v6, cs = [v0, v1, v2, v3, v4, v5, v6] := by
  match cs, h with
  | [a, b, c, d, e, f, g], _ => exact ⟨a, b, c, d, e, f, g, rfl⟩

section
variable {H : Type} {enc : TypeId × Value → H} {P : Program} {w : World} {base : Nat} {held : Bool}
/-- an argument of type [][]int -/
theorem open_rows {t s i : TypeId} {fuel : Nat} {cs : List Value} {x : DataW H × List MemPlace} (ht : P.underlying t = some (.slice s)) (hs : P.underlying s = some (.slice i)) (hi : P.underlying i = some (.int .i64)) (ci : P.cellsOf i = 1) (cs1 : P.cellsOf s = 1)
    (h : DataW.trod enc P w base (fun _ => true) held fuel t cs = some x) : ∃ a len cap L, cs = [.slice a len cap] ∧ len = L.length ∧ RdII w (.slice a len cap) L := by
  rcases Go.Deep.open_slice ht h with ⟨rfl, _⟩ | ⟨a, len, cap, m, n, D, Pl, rfl, hb, hl, hm, hmm, rfl, hx⟩
  · exact ⟨none, 0, 0, [], rfl, rfl, Or.inl ⟨none, 0, rfl, rfl⟩⟩
  simp only [if_true] at hmm
  by_cases hl0 : len = 0
  · subst hl0
    exact ⟨some a, 0, cap, [], rfl, rfl, Or.inl ⟨_, _, rfl, rfl⟩⟩
  obtain ⟨bb, off, spot⟩ := a
  have hspot : spot = none := by
    obtain ⟨cs', h1, _⟩ := hx 0 (by omega)
    rw [cs1] at h1
    have hc := World.cells?_some h1
    have h2 := hc.2.2 0 (by omega)
    obtain ⟨v, hv⟩ : ∃ v, cs'[0]? = some v := ⟨cs'[0]'(by omega), List.getElem?_eq_getElem (by omega)⟩
    rw [hv] at h2
    have := World.cell?_spot h2
    simpa [Addr.add] using this
  subst hspot
  have each : ∀ j, j < len → ∃ r : VI, RowAt w bb (off + j) r := by
    intro j hj
    obtain ⟨cs', h1, h2⟩ := hx j (by omega)
    rw [cs1] at h1
    obtain ⟨_, hlen, hc⟩ := World.cells?_some h1
    obtain ⟨v, rfl⟩ : ∃ v, cs' = [v] := by
      match cs', hlen with
      | [v], _ => exact ⟨v, rfl⟩
    have hcell : w.cell? ⟨bb, off + j, none⟩ = some v := by
      have := hc 0 (by omega)
      rw [Go.Deep.add_add, add_at] at this
      simpa using this
    rcases open_ints hs hi ci h2 with ⟨hcs, _⟩ | ⟨x5, l5, c5, zs, hcs, _, hl5, hm5, hz, _, hcell5, hwz⟩
    · simp at hcs
      subst hcs
      exact ⟨(.slice none 0 0, []), hcell, Or.inl ⟨none, 0, rfl, rfl⟩, by simp⟩
    · simp at hcs
      subst hcs
      obtain ⟨p, hp, hw⟩ := rdI_row2 (w := w) (a := some x5) (len := l5) (cap := c5) (zs := zs) (Or.inr ⟨x5, rfl, hl5, hm5, by simpa using hz, hcell5, hwz⟩)
      exact ⟨(_, p), hcell, hp, hw⟩
  obtain ⟨F, hF⟩ := Go.Deep.choose_lt each
  have hlen : ((List.range len).map F).length = len := by simp
  refine ⟨some ⟨bb, off, none⟩, len, cap, (List.range len).map F, rfl, hlen.symm, ?_⟩
  have hc0 := (hF 0 (by omega)).c
  have hbw : bb < w.heap.size := by
    unfold World.cell? at hc0
    by_cases hb : bb < w.heap.size
    · exact hb
    · rw [Array.getElem?_eq_none (by show w.heap.size ≤ bb; omega)] at hc0; cases hc0
  refine Or.inr ⟨bb, off, cap, fun e => by rw [e] at hlen; simp at hlen; omega, by rw [hlen], by rw [hlen]; omega, hbw, fun j hj => ?_⟩
  rw [hlen] at hj
  have e1 : ((List.range len).map F).getD j default = F j := by simp [List.getD, hj]
  rw [e1]
  exact hF j hj
/-- an argument that is a slice of calls on an array -/
theorem open_acalls {t e sb ss si : TypeId} {f0 f1 f2 f3 f4 f5 f6 : Field} {fuel : Nat} {cs : List Value} {x : DataW H × List MemPlace} (ht : P.underlying t = some (.slice e)) (he : P.underlying e = some (.struct #[f0, f1, f2, f3, f4, f5, f6])) (ce : P.cellsOf e = 7)
    (o0 : f0.offset = 0) (o1 : f1.offset = 1) (o2 : f2.offset = 2) (o3 : f3.offset = 3) (o4 : f4.offset = 4) (o5 : f5.offset = 5) (o6 : f6.offset = 6)
    (t0 : P.underlying f0.type = some (.int .i64)) (t1 : P.underlying f1.type = some (.int .i64)) (t2 : P.underlying f2.type = some (.int .i64)) (t3 : P.underlying f3.type = some (.int .i64)) (t4 : P.underlying f4.type = some (.int .u8)) (t5 : P.underlying f5.type = some (.slice sb)) (t6 : P.underlying f6.type = some (.slice ss))
    (tb : P.underlying sb = some (.int .u8)) (ts : P.underlying ss = some (.slice si)) (ti : P.underlying si = some (.int .i64)) (cb : P.cellsOf sb = 1) (cs1 : P.cellsOf ss = 1) (ci : P.cellsOf si = 1)
    (n0 : P.cellsOf f0.type = 1) (n1 : P.cellsOf f1.type = 1) (n2 : P.cellsOf f2.type = 1) (n3 : P.cellsOf f3.type = 1) (n4 : P.cellsOf f4.type = 1) (n5 : P.cellsOf f5.type = 1) (n6 : P.cellsOf f6.type = 1)
    (h : DataW.trod enc P w base (fun _ => true) held fuel t cs = some x) : ∃ a len cap L, cs = [.slice a len cap] ∧ len = L.length ∧ RdA w (.slice a len cap) L := by
  rcases Go.Deep.open_slice ht h with ⟨rfl, _⟩ | ⟨a, len, cap, m, n, D, Pl, rfl, hb, hl, hm, hmm, rfl, hx⟩
  · exact ⟨none, 0, 0, [], rfl, rfl, Or.inl ⟨none, 0, rfl, rfl⟩⟩
  simp only [if_true] at hmm
  by_cases hl0 : len = 0
  · subst hl0
    exact ⟨some a, 0, cap, [], rfl, rfl, Or.inl ⟨_, _, rfl, rfl⟩⟩
  obtain ⟨bb, off, spot⟩ := a
  have hspot : spot = none := by
    obtain ⟨cs', h1, _⟩ := hx 0 (by omega)
    rw [ce] at h1
    have hc := World.cells?_some h1
    have h2 := hc.2.2 0 (by omega)
    obtain ⟨v, hv⟩ : ∃ v, cs'[0]? = some v := ⟨cs'[0]'(by omega), List.getElem?_eq_getElem (by omega)⟩
    rw [hv] at h2
    have := World.cell?_spot h2
    simpa [Addr.add] using this
  subst hspot
  have each : ∀ i, i < len → ∃ c : CallA, CallAtA w bb (off + i * 7) c := by
    intro i hi
    obtain ⟨cs', h1, h2⟩ := hx i (by omega)
    obtain ⟨xs, n', _, _, hlen, hxl, hf⟩ := DataW.trod_struct he h2
    rw [ce] at hlen h1
    obtain ⟨v0, v1, v2, v3, v4, v5, v6, rfl⟩ := seven hlen
    have hxl' : xs.length = 7 := hxl
    have g : ∀ k, k < 7 → ∃ y, xs[k]? = some y := fun k hk => ⟨xs[k], List.getElem?_eq_getElem (by omega)⟩
    obtain ⟨y0, e0⟩ := g 0 (by omega)
    obtain ⟨y1, e1⟩ := g 1 (by omega)
    obtain ⟨y2, e2⟩ := g 2 (by omega)
    obtain ⟨y3, e3⟩ := g 3 (by omega)
    obtain ⟨y4, e4⟩ := g 4 (by omega)
    obtain ⟨y5, e5⟩ := g 5 (by omega)
    obtain ⟨y6, e6⟩ := g 6 (by omega)
    have q0 := hf 0 f0 rfl
    have q1 := hf 1 f1 rfl
    have q2 := hf 2 f2 rfl
    have q3 := hf 3 f3 rfl
    have q4 := hf 4 f4 rfl
    have q5 := hf 5 f5 rfl
    have q6 := hf 6 f6 rfl
    rw [o0, n0, e0] at q0
    rw [o1, n1, e1] at q1
    rw [o2, n2, e2] at q2
    rw [o3, n3, e3] at q3
    rw [o4, n4, e4] at q4
    rw [o5, n5, e5] at q5
    rw [o6, n6, e6] at q6
    obtain ⟨z0, r0, _, w0⟩ := DataW.trod_int t0 q0
    obtain ⟨z1, r1, _, w1⟩ := DataW.trod_int t1 q1
    obtain ⟨z2, r2, _, w2⟩ := DataW.trod_int t2 q2
    obtain ⟨z3, r3, _, w3⟩ := DataW.trod_int t3 q3
    obtain ⟨z4, r4, _, w4⟩ := DataW.trod_int t4 q4
    simp at r0 r1 r2 r3 r4
    subst r0 r1 r2 r3 r4
    have b4 := bounds_u8 w4
    obtain ⟨hbase, _, hc⟩ := World.cells?_some h1
    have kk : ∀ k, k < 7 → w.cell? ⟨bb, off + i * 7 + k, none⟩ = [Value.int .i64 z0, .int .i64 z1, .int .i64 z2, .int .i64 z3, .int .u8 z4, v5, v6][k]? := by
      intro k hk
      have := hc k hk
      rw [Go.Deep.add_add, add_at, ← Nat.add_assoc] at this
      exact this
    obtain ⟨pb, hvb⟩ : ∃ pb, Rd w v5 pb := by
      rcases open_ints t5 tb cb q5 with ⟨hcs, _⟩ | ⟨x4, l4, c4, zs, hcs, _, hl4, hm4, hz, _, hcell, hwz⟩
      · simp at hcs
        subst hcs
        obtain ⟨p, _, hp⟩ := rd_row (w := w) (a := none) (len := 0) (cap := 0) (zs := []) (Or.inl ⟨rfl, rfl, rfl, rfl⟩)
        exact ⟨p, hp⟩
      · simp at hcs
        subst hcs
        obtain ⟨p, _, hp⟩ := rd_row (w := w) (a := some x4) (len := l4) (cap := c4) (zs := zs) (Or.inr ⟨x4, rfl, hl4, hm4, by simpa using hz, hcell, hwz⟩)
        exact ⟨p, hp⟩
    obtain ⟨ra, rl, rc, Lk, hcs, _, hvk⟩ := open_rows t6 ts ti ci cs1 q6
    simp at hcs
    subst hcs
    refine ⟨⟨z0, z1, z2, z3, UInt8.ofNat z4.toNat, v5, _, pb, Lk⟩, kk 0 (by omega), kk 1 (by omega), kk 2 (by omega), kk 3 (by omega), ?_, kk 5 (by omega), kk 6 (by omega), w0, w1, w2, w3, hvb, hvk⟩
    show w.cell? ⟨bb, off + i * 7 + 4, none⟩ = some (.int .u8 (((UInt8.ofNat z4.toNat).toNat : Nat) : Int))
    rw [kk 4 (by omega), ofNat_u8 (by omega)]
    simp
    omega
  obtain ⟨F, hF⟩ := Go.Deep.choose_lt each
  have hlen : ((List.range len).map F).length = len := by simp
  refine ⟨some ⟨bb, off, none⟩, len, cap, (List.range len).map F, rfl, hlen.symm, ?_⟩
  have hc0 := (hF 0 (by omega)).c0
  have hbw : bb < w.heap.size := by
    unfold World.cell? at hc0
    by_cases hb : bb < w.heap.size
    · exact hb
    · rw [Array.getElem?_eq_none (by show w.heap.size ≤ bb; omega)] at hc0; cases hc0
  refine Or.inr ⟨bb, off, cap, fun e => by rw [e] at hlen; simp at hlen; omega, by rw [hlen], by rw [hlen]; omega, hbw, fun i hi => ?_⟩
  rw [hlen] at hi
  have e1 : ((List.range len).map F).getD i default = F i := by simp [List.getD, hi]
  rw [e1]
  exact hF i hi
/-- a call by value -/
theorem open_acall {r : Reach} {b0 : Nat} {t sb ss si : TypeId} {f0 f1 f2 f3 f4 f5 f6 : Field} {v : Value} {d : DataW H} {p : List MemPlace} (he : P.underlying t = some (.struct #[f0, f1, f2, f3, f4, f5, f6])) (ce : P.cellsOf t = 7)
    (o0 : f0.offset = 0) (o1 : f1.offset = 1) (o2 : f2.offset = 2) (o3 : f3.offset = 3) (o4 : f4.offset = 4) (o5 : f5.offset = 5) (o6 : f6.offset = 6)
    (t0 : P.underlying f0.type = some (.int .i64)) (t1 : P.underlying f1.type = some (.int .i64)) (t2 : P.underlying f2.type = some (.int .i64)) (t3 : P.underlying f3.type = some (.int .i64)) (t4 : P.underlying f4.type = some (.int .u8)) (t5 : P.underlying f5.type = some (.slice sb)) (t6 : P.underlying f6.type = some (.slice ss))
    (tb : P.underlying sb = some (.int .u8)) (ts : P.underlying ss = some (.slice si)) (ti : P.underlying si = some (.int .i64)) (cb : P.cellsOf sb = 1) (cs1 : P.cellsOf ss = 1) (ci : P.cellsOf si = 1)
    (n0 : P.cellsOf f0.type = 1) (n1 : P.cellsOf f1.type = 1) (n2 : P.cellsOf f2.type = 1) (n3 : P.cellsOf f3.type = 1) (n4 : P.cellsOf f4.type = 1) (n5 : P.cellsOf f5.type = 1) (n6 : P.cellsOf f6.type = 1)
    (hv : Value.okWide P w r b0 t v) (h : DataW.Trod enc P w base (fun _ => true) held t v d p) : ∃ c : CallA, v = aggA c ∧ CallV w c := by
  obtain ⟨cs, rfl, hsz⟩ := Go.WideShapes.okWide_struct he hv
  obtain ⟨fuel, hf⟩ := h
  obtain ⟨xs, n', _, _, hlen, hxl, hfd⟩ := DataW.trod_struct he hf
  obtain ⟨l⟩ := cs
  have hll : l.length = 7 := by simpa [ce] using hsz
  obtain ⟨v0, v1, v2, v3, v4, v5, v6, rfl⟩ := seven hll
  have hxl' : xs.length = 7 := hxl
  have g : ∀ k, k < 7 → ∃ y, xs[k]? = some y := fun k hk => ⟨xs[k], List.getElem?_eq_getElem (by omega)⟩
  obtain ⟨y0, e0⟩ := g 0 (by omega)
  obtain ⟨y1, e1⟩ := g 1 (by omega)
  obtain ⟨y2, e2⟩ := g 2 (by omega)
  obtain ⟨y3, e3⟩ := g 3 (by omega)
  obtain ⟨y4, e4⟩ := g 4 (by omega)
  obtain ⟨y5, e5⟩ := g 5 (by omega)
  obtain ⟨y6, e6⟩ := g 6 (by omega)
  have q0 := hfd 0 f0 rfl
  have q1 := hfd 1 f1 rfl
  have q2 := hfd 2 f2 rfl
  have q3 := hfd 3 f3 rfl
  have q4 := hfd 4 f4 rfl
  have q5 := hfd 5 f5 rfl
  have q6 := hfd 6 f6 rfl
  rw [o0, n0, e0] at q0
  rw [o1, n1, e1] at q1
  rw [o2, n2, e2] at q2
  rw [o3, n3, e3] at q3
  rw [o4, n4, e4] at q4
  rw [o5, n5, e5] at q5
  rw [o6, n6, e6] at q6
  obtain ⟨z0, r0, _, w0⟩ := DataW.trod_int t0 q0
  obtain ⟨z1, r1, _, w1⟩ := DataW.trod_int t1 q1
  obtain ⟨z2, r2, _, w2⟩ := DataW.trod_int t2 q2
  obtain ⟨z3, r3, _, w3⟩ := DataW.trod_int t3 q3
  obtain ⟨z4, r4, _, w4⟩ := DataW.trod_int t4 q4
  simp [Value.cells] at r0 r1 r2 r3 r4
  subst r0 r1 r2 r3 r4
  have b4 := bounds_u8 w4
  obtain ⟨pb, hvb⟩ : ∃ pb, Rd w v5 pb := by
    rcases open_ints t5 tb cb q5 with ⟨hcs, _⟩ | ⟨x4, l4, c4, zs, hcs, _, hl4, hm4, hz, _, hcell, hwz⟩
    · simp [Value.cells] at hcs
      subst hcs
      obtain ⟨p, _, hp⟩ := rd_row (w := w) (a := none) (len := 0) (cap := 0) (zs := []) (Or.inl ⟨rfl, rfl, rfl, rfl⟩)
      exact ⟨p, hp⟩
    · simp [Value.cells] at hcs
      subst hcs
      obtain ⟨p, _, hp⟩ := rd_row (w := w) (a := some x4) (len := l4) (cap := c4) (zs := zs) (Or.inr ⟨x4, rfl, hl4, hm4, by simpa using hz, hcell, hwz⟩)
      exact ⟨p, hp⟩
  obtain ⟨ra, rl, rc, Lk, hcs, _, hvk⟩ := open_rows t6 ts ti ci cs1 q6
  simp [Value.cells] at hcs
  subst hcs
  refine ⟨⟨z0, z1, z2, z3, UInt8.ofNat z4.toNat, v5, _, pb, Lk⟩, ?_, w0, w1, w2, w3, hvb, hvk⟩
  have e : (((UInt8.ofNat z4.toNat).toNat : Nat) : Int) = z4 := by rw [ofNat_u8 (by omega)]; omega
  simp only [aggA]
  rw [e]
end
end Go.Proofs.Ytpijncnpicgjeaa.Gf

/-
  PLAIN MATHEMATICS OF DISKS: what lasts, what waits, and what each call leaves. No program's function is named here.
-/

namespace Go.Proofs.Ytpijncnpicgjeaa.Gf
set_option linter.unusedVariables false
set_option linter.unusedSimpArgs false
open Go.RowKit

/-- a disk: its sectors, what lasts, what waits, whether it is dead -/
structure DkS where
  s : Nat
  last : Int → Option (List UInt8)
  wait : Int → Option (List UInt8)
  dead : Bool
def noneI : Int → Option (List UInt8) := fun _ => none
def InS (s : Nat) (f : Int → Option (List UInt8)) : Prop := ∀ x b, f x = some b → 0 ≤ x ∧ x < (s : Int) ∧ 1 ≤ b.length ∧ b.length ≤ 4108
structure DkS.Ok (d : DkS) : Prop where
  s1 : 1 ≤ d.s
  s2 : d.s ≤ 4096
  il : InS d.s d.last
  iw : InS d.s d.wait
  dl : d.dead = true → d.last = noneI
  dw : d.dead = true → d.wait = noneI
def putB (f : Int → Option (List UInt8)) (x : Int) (b : List UInt8) : Int → Option (List UInt8) := fun y => if y = x then some b else f y
theorem InS.put {s : Nat} {f : Int → Option (List UInt8)} (h : InS s f) {x : Int} {b : List UInt8} (h0 : 0 ≤ x) (h1 : x < (s : Int)) (h2 : 1 ≤ b.length) (h3 : b.length ≤ 4108) : InS s (putB f x b) := by
  intro y c e
  unfold putB at e
  by_cases hy : y = x
  · rw [if_pos hy] at e
    simp at e
    subst e hy
    exact ⟨h0, h1, h2, h3⟩
  · rw [if_neg hy] at e
    exact h y c e
theorem InS.none (s : Nat) : InS s noneI := fun x b e => by cases e

def newD (s : Nat) : DkS := ⟨s, noneI, noneI, false⟩
theorem newD_ok {s : Nat} (h1 : 1 ≤ s) (h2 : s ≤ 4096) : (newD s).Ok := ⟨h1, h2, InS.none _, InS.none _, (fun h => by cases h), (fun h => by cases h)⟩
/-- why a sector is not read or written -/
def faX (d : DkS) (a : Int) : Int := if d.dead = true then 120 else if 0 ≤ a ∧ a < (d.s : Int) then 0 else 121
theorem faX_dead {d : DkS} (h : d.dead = true) (a : Int) : faX d a = 120 := if_pos h
theorem faX_out {d : DkS} (h : d.dead = false) {a : Int} (ha : ¬ (0 ≤ a ∧ a < (d.s : Int))) : faX d a = 121 := by unfold faX; rw [if_neg (by rw [h]; decide), if_neg ha]
theorem faX_ok {d : DkS} (h : d.dead = false) {a : Int} (ha : 0 ≤ a ∧ a < (d.s : Int)) : faX d a = 0 := by unfold faX; rw [if_neg (by rw [h]; decide), if_pos ha]
theorem faX_zero {d : DkS} {a : Int} (h : faX d a = 0) : d.dead = false ∧ 0 ≤ a ∧ a < (d.s : Int) := by
  unfold faX at h
  by_cases h1 : d.dead = true
  · rw [if_pos h1] at h; cases h
  · rw [if_neg h1] at h
    by_cases h2 : 0 ≤ a ∧ a < (d.s : Int)
    · exact ⟨by simpa using h1, h2⟩
    · rw [if_neg h2] at h; cases h
def OkB (b : List UInt8) : Prop := 1 ≤ b.length ∧ b.length ≤ 4108
instance (b : List UInt8) : Decidable (OkB b) := inferInstanceAs (Decidable (_ ∧ _))
def wrX (d : DkS) (a : Int) (b : List UInt8) : Int := if faX d a = 0 then (if OkB b then 0 else 1) else faX d a
def wrS (d : DkS) (a : Int) (b : List UInt8) : DkS := if faX d a = 0 ∧ OkB b then { d with wait := putB d.wait a b } else d
def atD (d : DkS) (a : Int) : Option (List UInt8) := match d.wait a with | some b => some b | none => d.last a
def rdB (d : DkS) (a : Int) : List UInt8 := if faX d a = 0 then (atD d a).getD [] else []
def flX (d : DkS) : Int := if d.dead = true then 120 else 0
def overB (f g : Int → Option (List UInt8)) : Int → Option (List UInt8) := fun x => match f x with | some b => some b | none => g x
def flS (d : DkS) : DkS := if d.dead = true then d else { d with last := overB d.wait d.last, wait := noneI }
def onlyB (f : Int → Option (List UInt8)) (keep : List Int) : Int → Option (List UInt8) := fun x => if x ∈ keep then f x else none
def crS (d : DkS) (keep : List Int) : DkS := { d with last := overB (onlyB d.wait keep) d.last, wait := noneI }
def faS (d : DkS) : DkS := ⟨d.s, noneI, noneI, true⟩
def reS (d : DkS) : DkS := ⟨d.s, noneI, noneI, false⟩
/-- the place of a byte -/
def atN (at_ : Int) (n : Nat) : Nat := (if at_ < 0 then (-(at_ + 1)).toNat else at_.toNat) % n
def chB (b : List UInt8) (at_ : Int) (y : UInt8) : List UInt8 := b.set (atN at_ b.length) (co b (atN at_ b.length) ^^^ y)
theorem chB_length (b : List UInt8) (at_ : Int) (y : UInt8) : (chB b at_ y).length = b.length := List.length_set
def coX (d : DkS) (a : Int) : Int := if faX d a = 0 then (if atD d a = none then 1 else 0) else faX d a
def coS (d : DkS) (a at_ : Int) (y : UInt8) : DkS := if faX d a = 0 then (match d.wait a with | some b => { d with wait := putB d.wait a (chB b at_ y) } | none => match d.last a with | some b => { d with last := putB d.last a (chB b at_ y) } | none => d) else d

theorem overB_in {s : Nat} {f g : Int → Option (List UInt8)} (hf : InS s f) (hg : InS s g) : InS s (overB f g) := by
  intro x b e
  unfold overB at e
  cases hx : f x with
  | none => rw [hx] at e; exact hg x b e
  | some c => rw [hx] at e; simp at e; subst e; exact hf x c hx
theorem onlyB_in {s : Nat} {f : Int → Option (List UInt8)} (hf : InS s f) (keep : List Int) : InS s (onlyB f keep) := by
  intro x b e
  unfold onlyB at e
  by_cases h : x ∈ keep
  · rw [if_pos h] at e; exact hf x b e
  · rw [if_neg h] at e; cases e
theorem wrS_ok {d : DkS} (h : d.Ok) (a : Int) (b : List UInt8) : (wrS d a b).Ok := by
  unfold wrS
  by_cases hc : faX d a = 0 ∧ OkB b
  · rw [if_pos hc]
    have h2 := faX_zero hc.1
    refine ⟨h.s1, h.s2, h.il, h.iw.put h2.2.1 h2.2.2 hc.2.1 hc.2.2, h.dl, fun hd => ?_⟩
    have hd' : d.dead = true := hd
    rw [h2.1] at hd'
    cases hd'
  · rw [if_neg hc]; exact h
theorem flS_ok {d : DkS} (h : d.Ok) : (flS d).Ok := by
  unfold flS
  by_cases hc : d.dead = true
  · rw [if_pos hc]; exact h
  · rw [if_neg hc]
    exact ⟨h.s1, h.s2, overB_in h.iw h.il, InS.none _, fun hd => absurd hd hc, fun hd => absurd hd hc⟩
theorem overB_none {g : Int → Option (List UInt8)} : overB noneI g = g := rfl
theorem onlyB_none (keep : List Int) : onlyB noneI keep = noneI := by funext x; unfold onlyB noneI; simp
theorem crS_ok {d : DkS} (h : d.Ok) (keep : List Int) : (crS d keep).Ok :=
  ⟨h.s1, h.s2, overB_in (onlyB_in h.iw keep) h.il, InS.none _, fun hd => by
    show overB (onlyB d.wait keep) d.last = noneI
    rw [h.dw hd, h.dl hd, onlyB_none]
    rfl, fun _ => rfl⟩
theorem faS_ok {d : DkS} (h : d.Ok) : (faS d).Ok := ⟨h.s1, h.s2, InS.none _, InS.none _, fun _ => rfl, fun _ => rfl⟩
theorem reS_ok {d : DkS} (h : d.Ok) : (reS d).Ok := ⟨h.s1, h.s2, InS.none _, InS.none _, (fun h => by cases h), (fun h => by cases h)⟩
theorem coS_ok {d : DkS} (h : d.Ok) (a at_ : Int) (y : UInt8) : (coS d a at_ y).Ok := by
  unfold coS
  by_cases hc : faX d a = 0
  · rw [if_pos hc]
    have h2 := faX_zero hc
    have nd : ∀ {e : DkS}, e.dead = d.dead → e.dead = true → False := fun he ht => by rw [he, h2.1] at ht; cases ht
    cases hw : d.wait a with
    | some b =>
      have h3 := h.iw a b hw
      exact ⟨h.s1, h.s2, h.il, h.iw.put h2.2.1 h2.2.2 (by rw [chB_length]; exact h3.2.2.1) (by rw [chB_length]; exact h3.2.2.2), h.dl, fun hd => (nd (e := d) rfl hd).elim⟩
    | none =>
      cases hl : d.last a with
      | some b =>
        have h3 := h.il a b hl
        exact ⟨h.s1, h.s2, h.il.put h2.2.1 h2.2.2 (by rw [chB_length]; exact h3.2.2.1) (by rw [chB_length]; exact h3.2.2.2), h.iw, fun hd => (nd (e := d) rfl hd).elim, h.dw⟩
      | none => exact h
  · rw [if_neg hc]; exact h

/-- what is held, by its place -/
def heldL (f : Int → Option (List UInt8)) (s : Nat) : List (Int × List UInt8) := (List.range s).filterMap fun i : Nat => (f (i : Int)).map fun b => ((i : Int), b)
theorem heldL_none (s : Nat) : heldL noneI s = [] := by unfold heldL noneI; simp
theorem heldL_length (f : Int → Option (List UInt8)) (s : Nat) : (heldL f s).length ≤ s := by
  unfold heldL
  have := List.length_filterMap_le (fun i : Nat => (f (i : Int)).map fun b => ((i : Int), b)) (List.range s)
  simpa using this
theorem heldL_succ (f : Int → Option (List UInt8)) (s : Nat) : heldL f (s + 1) = heldL f s ++ (match f (s : Int) with | some b => [((s : Int), b)] | none => []) := by
  unfold heldL
  rw [List.range_succ, List.filterMap_append]
  congr 1
  cases h : f (s : Int) <;> simp [h]
theorem heldL_mem {f : Int → Option (List UInt8)} {s : Nat} {x : Int} {b : List UInt8} : (x, b) ∈ heldL f s ↔ 0 ≤ x ∧ x < (s : Int) ∧ f x = some b := by
  unfold heldL
  rw [List.mem_filterMap]
  constructor
  · rintro ⟨i, hi, e⟩
    rw [List.mem_range] at hi
    cases h : f (i : Int) with
    | none => rw [h] at e; simp at e
    | some c =>
      rw [h] at e
      simp at e
      obtain ⟨rfl, rfl⟩ := e
      exact ⟨by omega, by omega, h⟩
  · rintro ⟨h0, h1, h2⟩
    refine ⟨x.toNat, List.mem_range.2 (by omega), ?_⟩
    rw [show ((x.toNat : Nat) : Int) = x by omega, h2]
    rfl
theorem heldL_inj {f g : Int → Option (List UInt8)} {s : Nat} (hf : InS s f) (hg : InS s g) (h : heldL f s = heldL g s) : f = g := by
  funext x
  by_cases hx : 0 ≤ x ∧ x < (s : Int)
  · cases h1 : f x with
    | some b =>
      have := (heldL_mem (f := f) (s := s)).2 ⟨hx.1, hx.2, h1⟩
      rw [h] at this
      exact (heldL_mem.1 this).2.2.symm
    | none =>
      cases h2 : g x with
      | none => rfl
      | some b =>
        have := (heldL_mem (f := g) (s := s)).2 ⟨hx.1, hx.2, h2⟩
        rw [← h] at this
        rw [(heldL_mem.1 this).2.2] at h1
        cases h1
  · have n1 : f x = none := by
      cases h1 : f x with
      | none => rfl
      | some b => have := hf x b h1; omega
    have n2 : g x = none := by
      cases h1 : g x with
      | none => rfl
      | some b => have := hg x b h1; omega
    rw [n1, n2]

/-- a script's calls -/
def smallC (c : CallR) : Prop := c.b.length ≤ 4200 ∧ c.keep.length ≤ 200
instance (c : CallR) : Decidable (smallC c) := inferInstanceAs (Decidable (_ ∧ _))
def playS (d : DkS) (c : CallR) : DkS :=
  if c.kind = 1 then wrS d c.n c.b else if c.kind = 3 then flS d else if c.kind = 4 then crS d c.keep else if c.kind = 5 then faS d else if c.kind = 6 then reS d else if c.kind = 7 then coS d c.n c.m c.by8 else d
def stepS (d : DkS) (c : CallR) : DkS := if smallC c then playS d c else d
def runS (d : DkS) : List CallR → DkS
  | [] => d
  | c :: L => runS (stepS d c) L
theorem playS_ok {d : DkS} (h : d.Ok) (c : CallR) : (playS d c).Ok := by
  unfold playS
  split
  · exact wrS_ok h _ _
  split
  · exact flS_ok h
  split
  · exact crS_ok h _
  split
  · exact faS_ok h
  split
  · exact reS_ok h
  split
  · exact coS_ok h _ _ _
  · exact h
theorem stepS_ok {d : DkS} (h : d.Ok) (c : CallR) : (stepS d c).Ok := by
  unfold stepS
  split
  · exact playS_ok h c
  · exact h
theorem runS_ok : ∀ {L : List CallR} {d : DkS}, d.Ok → (runS d L).Ok
  | [], _, h => h
  | c :: L, d, h => runS_ok (L := L) (stepS_ok h c)
theorem runS_append : ∀ {L M : List CallR} {d : DkS}, runS d (L ++ M) = runS (runS d L) M
  | [], M, d => rfl
  | c :: L, M, d => runS_append (L := L)
theorem wrS_s (d : DkS) (a : Int) (b : List UInt8) : (wrS d a b).s = d.s := by unfold wrS; split <;> rfl
theorem flS_s (d : DkS) : (flS d).s = d.s := by unfold flS; split <;> rfl
theorem coS_s (d : DkS) (a at_ : Int) (y : UInt8) : (coS d a at_ y).s = d.s := by
  unfold coS
  split
  · split
    · rfl
    · split <;> rfl
  · rfl
theorem playS_s (d : DkS) (c : CallR) : (playS d c).s = d.s := by
  unfold playS
  split
  · exact wrS_s _ _ _
  split
  · exact flS_s _
  split
  · rfl
  split
  · rfl
  split
  · rfl
  split
  · exact coS_s _ _ _ _
  · rfl
theorem stepS_s (d : DkS) (c : CallR) : (stepS d c).s = d.s := by
  unfold stepS
  split
  · exact playS_s d c
  · rfl
theorem runS_s : ∀ (L : List CallR) (d : DkS), (runS d L).s = d.s
  | [], _ => rfl
  | c :: L, d => (runS_s L _).trans (stepS_s d c)
/-- behind k calls -/
theorem runS_take {L : List CallR} {d : DkS} {k : Nat} (h : k < L.length) : runS d (L.take (k + 1)) = stepS (runS d (L.take k)) (L.getD k default) := by
  rw [List.take_add_one, runS_append, List.getElem?_eq_getElem h]
  simp [runS, List.getD, h]

end Go.Proofs.Ytpijncnpicgjeaa.Gf

/-
  PLAIN MATHEMATICS OF ARRAYS OF DISKS: what each call answers and leaves. No program's function is named here.
-/

namespace Go.Proofs.Ytpijncnpicgjeaa.Gf
set_option linter.unusedVariables false
set_option linter.unusedSimpArgs false
open Go.RowKit

/-- an array: its disks, their births, what is left (below 0: no crash is to come), whether it is down -/
structure ArS where
  D : List DkS
  B : List Int
  left : Int
  off : Bool
instance : Inhabited DkS := ⟨newD 1⟩
structure ArS.Ok (a : ArS) : Prop where
  d1 : 1 ≤ a.D.length
  d2 : a.D.length ≤ 32
  b : a.B.length = a.D.length
  each : ∀ d ∈ a.D, d.Ok
  l : a.off = false → a.left ≠ 0
def newA (n s : Nat) : ArS := ⟨List.replicate n (newD s), List.replicate n 0, -1, false⟩
theorem newA_ok {n s : Nat} (h1 : 1 ≤ n) (h2 : n ≤ 32) (h3 : 1 ≤ s) (h4 : s ≤ 4096) : (newA n s).Ok :=
  ⟨by simp [newA]; omega, by simp [newA]; omega, by simp [newA], fun d hd => by rw [List.eq_of_mem_replicate hd]; exact newD_ok h3 h4, fun _ => by simp [newA]⟩
/-- is there such a disk? -/
def thA (a : ArS) (i : Int) : Prop := 0 ≤ i ∧ i < (a.D.length : Int)
instance (a : ArS) (i : Int) : Decidable (thA a i) := inferInstanceAs (Decidable (_ ∧ _))
def diA (a : ArS) (i : Int) : DkS := a.D.getD i.toNat default
def setA (a : ArS) (i : Int) (d : DkS) : ArS := { a with D := a.D.set i.toNat d }
theorem di_mem {a : ArS} {i : Int} (h : thA a i) : diA a i ∈ a.D := by
  have hl : i.toNat < a.D.length := by have := h.2; have := h.1; omega
  unfold diA
  rw [show a.D.getD i.toNat default = a.D[i.toNat] by simp [List.getD, hl]]
  exact List.getElem_mem hl
theorem setA_ok {a : ArS} (h : a.Ok) {i : Int} {d : DkS} (hd : d.Ok) : (setA a i d).Ok :=
  ⟨by simp [setA]; exact h.d1, by simp [setA]; exact h.d2, by simp [setA]; exact h.b, fun e he => by
    rcases List.mem_or_eq_of_mem_set he with h1 | h1
    · exact h.each e h1
    · rw [h1]; exact hd, h.l⟩
def caA (a : ArS) (n : Int) : ArS := if a.off = true then a else { a with left := if 0 ≤ n then n else -1, off := decide (n = 0) }
theorem caA_ok {a : ArS} (h : a.Ok) (n : Int) : (caA a n).Ok := by
  unfold caA
  split
  · exact h
  · refine ⟨h.d1, h.d2, h.b, h.each, fun e => ?_⟩
    have e' : ¬ n = 0 := by simpa using e
    show (if 0 ≤ n then n else -1) ≠ 0
    split <;> omega
/-- behind a write that was done -/
def tickA (a : ArS) : ArS := if 0 < a.left then { a with left := a.left - 1, off := decide (a.left - 1 = 0) } else a
theorem tickA_ok {a : ArS} (h : a.Ok) : (tickA a).Ok := by
  unfold tickA
  split
  · exact ⟨h.d1, h.d2, h.b, h.each, fun e => by simpa using e⟩
  · exact h
def wrAX (a : ArS) (i ad : Int) (b : List UInt8) : Int := if a.off = true then 130 else if thA a i then wrX (diA a i) ad b else 1
def wrAS (a : ArS) (i ad : Int) (b : List UInt8) : ArS := if a.off = true then a else if thA a i then (if wrX (diA a i) ad b = 0 then tickA (setA a i (wrS (diA a i) ad b)) else a) else a
theorem wrAS_ok {a : ArS} (h : a.Ok) (i ad : Int) (b : List UInt8) : (wrAS a i ad b).Ok := by
  unfold wrAS
  split
  · exact h
  split
  · rename_i h2
    split
    · exact tickA_ok (setA_ok h (wrS_ok (h.each _ (di_mem h2)) ad b))
    · exact h
  · exact h
def rdAX (a : ArS) (i ad : Int) : Int := if a.off = true then 130 else if thA a i then faX (diA a i) ad else 1
def rdAB (a : ArS) (i ad : Int) : List UInt8 := if a.off = true then [] else if thA a i then rdB (diA a i) ad else []
def flAX (a : ArS) : Int := if a.off = true then 130 else 0
def flAS (a : ArS) : ArS := if a.off = true then a else { a with D := a.D.map flS }
theorem flAS_ok {a : ArS} (h : a.Ok) : (flAS a).Ok := by
  unfold flAS
  split
  · exact h
  · exact ⟨by simpa using h.d1, by simpa using h.d2, by simpa using h.b, fun d hd => by
      obtain ⟨e, he, rfl⟩ := List.mem_map.1 hd
      exact flS_ok (h.each e he), h.l⟩
/-- the power comes -/
def reAS (a : ArS) (K : List (List Int)) : ArS := { a with D := a.D.mapIdx (fun i d => crS d (K.getD i [])), left := -1, off := false }
theorem reAS_ok {a : ArS} (h : a.Ok) (K : List (List Int)) : (reAS a K).Ok :=
  ⟨by simpa [reAS] using h.d1, by simpa [reAS] using h.d2, by simpa [reAS] using h.b, fun d hd => by
    obtain ⟨i, hi, rfl⟩ := List.mem_mapIdx.1 hd
    exact crS_ok (h.each _ (List.getElem_mem hi)) _, fun _ => by simp [reAS]⟩
def bornA (a : ArS) (i : Int) : ArS := { a with B := a.B.set i.toNat (IntKind.i64.wrap (a.B.getD i.toNat 0 + 1)) }
theorem bornA_ok {a : ArS} (h : a.Ok) (i : Int) : (bornA a i).Ok := ⟨h.d1, h.d2, by simp [bornA]; exact h.b, h.each, h.l⟩
def thX (a : ArS) (i : Int) : Int := if thA a i then 0 else 1
def faAS (a : ArS) (i : Int) : ArS := if thA a i then bornA (setA a i (faS (diA a i))) i else a
def rpAS (a : ArS) (i : Int) : ArS := if thA a i then bornA (setA a i (reS (diA a i))) i else a
theorem faAS_ok {a : ArS} (h : a.Ok) (i : Int) : (faAS a i).Ok := by
  unfold faAS
  split
  · rename_i h2; exact bornA_ok (setA_ok h (faS_ok (h.each _ (di_mem h2)))) i
  · exact h
theorem rpAS_ok {a : ArS} (h : a.Ok) (i : Int) : (rpAS a i).Ok := by
  unfold rpAS
  split
  · rename_i h2; exact bornA_ok (setA_ok h (reS_ok (h.each _ (di_mem h2)))) i
  · exact h
def coAX (a : ArS) (i ad : Int) : Int := if thA a i then coX (diA a i) ad else 1
def coAS (a : ArS) (i ad at_ : Int) (y : UInt8) : ArS := if thA a i then setA a i (coS (diA a i) ad at_ y) else a
theorem coAS_ok {a : ArS} (h : a.Ok) (i ad at_ : Int) (y : UInt8) : (coAS a i ad at_ y).Ok := by
  unfold coAS
  split
  · rename_i h2; exact setA_ok h (coS_ok (h.each _ (di_mem h2)) ad at_ y)
  · exact h
/-- a script -/
def smallA (c : CallA) : Prop := c.b.length ≤ 4200 ∧ c.keep.length ≤ 40 ∧ ∀ r ∈ c.keep, r.2.length ≤ 100
instance (c : CallA) : Decidable (smallA c) := inferInstanceAs (Decidable (_ ∧ _ ∧ _))
def playA (a : ArS) (c : CallA) : ArS :=
  if c.kind = 1 then wrAS a c.d c.n c.b else if c.kind = 3 then flAS a else if c.kind = 4 then caA a c.n else if c.kind = 5 then reAS a (c.keep.map (·.2)) else if c.kind = 6 then faAS a c.d else if c.kind = 7 then rpAS a c.d else if c.kind = 8 then coAS a c.d c.n c.m c.by8 else a
def stepA (a : ArS) (c : CallA) : ArS := if smallA c then playA a c else a
def runA (a : ArS) (L : List CallA) : ArS := L.foldl stepA a
theorem playA_ok {a : ArS} (h : a.Ok) (c : CallA) : (playA a c).Ok := by
  unfold playA
  split
  · exact wrAS_ok h _ _ _
  split
  · exact flAS_ok h
  split
  · exact caA_ok h _
  split
  · exact reAS_ok h _
  split
  · exact faAS_ok h _
  split
  · exact rpAS_ok h _
  split
  · exact coAS_ok h _ _ _ _
  · exact h
theorem stepA_ok {a : ArS} (h : a.Ok) (c : CallA) : (stepA a c).Ok := by
  unfold stepA
  split
  · exact playA_ok h c
  · exact h
theorem runA_ok {L : List CallA} : ∀ {a : ArS}, a.Ok → (runA a L).Ok := by
  induction L with
  | nil => exact fun h => h
  | cons c L ih => exact fun h => ih (stepA_ok h c)
theorem runA_take {L : List CallA} {a : ArS} {k : Nat} (h : k < L.length) : runA a (L.take (k + 1)) = stepA (runA a (L.take k)) (L.getD k default) := by
  unfold runA
  rw [List.take_add_one, List.foldl_append, List.getElem?_eq_getElem h]
  simp [List.getD, h]
end Go.Proofs.Ytpijncnpicgjeaa.Gf

/-
  PLAIN MATHEMATICS: a product that is gathered number by number, as two loops do it; and such a list in memory. No program's function is named here.
-/

namespace Go.Proofs.Ytpijncnpicgjeaa.Gf
set_option linter.unusedVariables false
set_option linter.unusedSimpArgs false
open Go.RowKit

/-- what the first i numbers of p give at the place t -/
def pc (p q : Nat → UInt8) (i t : Nat) : UInt8 := S i (fun j => if j ≤ t then mu (p j) (q (t - j)) else 0)
/-- .. and the first k products of the next one -/
def pk (p q : Nat → UInt8) (i k t : Nat) : UInt8 := pc p q i t ^^^ (if i ≤ t ∧ t < i + k then mu (p i) (q (t - i)) else 0)
theorem pk_zero (p q : Nat → UInt8) (i : Nat) : pk p q i 0 = pc p q i := by
  funext t; unfold pk; rw [if_neg (by omega), x_zero]
theorem pk_at (p q : Nat → UInt8) (i k : Nat) : pk p q i k (i + k) = pc p q i (i + k) := by
  unfold pk; rw [if_neg (by omega), x_zero]
theorem pk_step (p q : Nat → UInt8) (i k t : Nat) : pk p q i (k + 1) t = if t = i + k then pk p q i k (i + k) ^^^ mu (p i) (q k) else pk p q i k t := by
  by_cases e : t = i + k
  · subst e
    rw [if_pos rfl, pk_at]
    unfold pk
    rw [if_pos (by omega), show i + k - i = k by omega]
  · rw [if_neg e]
    unfold pk
    by_cases h : i ≤ t ∧ t < i + k
    · rw [if_pos h, if_pos (by omega)]
    · rw [if_neg h, if_neg (by omega)]
theorem pk_whole {p q : Nat → UInt8} {m : Nat} (hq : Fin0 q m) (i : Nat) : pk p q i m = pc p q (i + 1) := by
  funext t
  unfold pk pc
  rw [S]
  congr 1
  by_cases h : i ≤ t
  · rw [if_pos h]
    by_cases h2 : t < i + m
    · rw [if_pos ⟨h, h2⟩]
    · rw [if_neg (by omega), hq (t - i) (by omega), mu_zero]
  · rw [if_neg h, if_neg (by omega)]
theorem pc_whole {p q : Nat → UInt8} {n : Nat} (hp : Fin0 p n) : pc p q n = conv p q := by
  funext t
  unfold pc conv
  have e1 : S (n + (t + 1)) (fun j => if j ≤ t then mu (p j) (q (t - j)) else 0) = S n (fun j => if j ≤ t then mu (p j) (q (t - j)) else 0) :=
    S_more (by omega) fun i h1 _ => by split
                                       · rw [hp i h1, zero_mu]
                                       · rfl
  have e2 : S (n + (t + 1)) (fun j => if j ≤ t then mu (p j) (q (t - j)) else 0) = S (t + 1) (fun j => if j ≤ t then mu (p j) (q (t - j)) else 0) :=
    S_more (by omega) fun i h1 _ => if_neg (by omega)
  rw [← e1, e2]
  exact S_congr fun i hi => if_pos (by omega)
theorem pc_zero (p q : Nat → UInt8) (t : Nat) : pc p q 0 t = 0 := rfl

theorem upto_set {f g : Nat → UInt8} {L j : Nat} (hj : j < L) (x : UInt8) (h : ∀ t, g t = if t = j then x else f t) : (upto f L).set j x = upto g L := by
  refine co_ext (by simp [upto]) fun i hi => ?_
  rw [List.length_set, upto_length] at hi
  rw [co_set x (by rw [upto_length]; exact hj)]
  rw [upto, co_map_range f hi, upto, co_map_range g hi, h]
theorem upto_congr {f g : Nat → UInt8} {L : Nat} (h : ∀ t, t < L → f t = g t) : upto f L = upto g L := by
  refine co_ext (by simp [upto]) fun i hi => ?_
  rw [upto_length] at hi
  rw [upto, co_map_range f hi, upto, co_map_range g hi, h i hi]
theorem upto_zeros (L : Nat) : (upto (fun _ => 0) L).map vb = List.replicate L (.int .u8 0) := by
  unfold upto
  rw [List.map_map]
  refine List.ext_getElem (by simp) fun i h1 h2 => ?_
  simp [vb]

/-- A row of the call's own that holds the first L numbers of f (C: its capacity). -/
def RowF (w : World) (base e g L C : Nat) (f : Nat → UInt8) : Prop := w.ownsRow base e 1 (.slice (some ⟨g, 0, none⟩) L C) L ((upto f L).map vb)
theorem RowF.cell {w : World} {base e g L C : Nat} {f : Nat → UInt8} (h : RowF w base e g L C f) {j : Nat} (hj : j < L) : w.cell? ⟨g, j, none⟩ = some (.int .u8 ((f j).toNat : Nat)) := by
  have e1 := World.ownsRow.cellAt h j (by omega)
  rw [e1, List.getElem?_map]
  unfold upto
  rw [List.getElem?_map, List.getElem?_range hj]
  rfl
theorem RowF.unfrozen {w : World} {base e g L C : Nat} {f : Nat → UInt8} (h : RowF w base e g L C f) (j : Nat) : w.frozen? ⟨g, j, none⟩ = false := World.ownsRow.frozenAt h j
theorem RowF.store {w : World} {base e g L C : Nat} {f f' : Nat → UInt8} (h : RowF w base e g L C f) {j : Nat} (hj : j < L) (x : UInt8) (hf : ∀ t, f' t = if t = j then x else f t) :
    RowF (w.setCell ⟨g, j, none⟩ (.int .u8 ((x.toNat : Nat) : Int))) base e g L C f' := by
  have e1 := (World.ownsRow.stored h j (.int .u8 ((x.toNat : Nat) : Int))).1
  unfold RowF
  rw [← upto_set hj x hf, List.map_set]
  exact e1
theorem RowF.congr {w : World} {base e g L C : Nat} {f f' : Nat → UInt8} (h : RowF w base e g L C f) (hf : ∀ t, t < L → f t = f' t) : RowF w base e g L C f' := by
  unfold RowF; rw [← upto_congr hf]; exact h
theorem RowF.drew {w : World} {base e g L C : Nat} {f : Nat → UInt8} (h : RowF w base e g L C f) : RowF w.drew base e g L C f := World.ownsRow.drew h
theorem RowF.drewN {w : World} {base e g L C : Nat} {f : Nat → UInt8} (h : RowF w base e g L C f) (n : Nat) : RowF (w.drewN n) base e g L C f := h
theorem RowF.rd {w : World} {base e g L C : Nat} {f : Nat → UInt8} (h : RowF w base e g L C f) : Rd w (.slice (some ⟨g, 0, none⟩) L C) (upto f L) :=
  Rd.owned (base := base) (e := e) (by rw [upto_length]; exact h)
theorem RowF.made {w : World} {base e g L : Nat} (h : w.ownsRow base e 1 (.slice (some ⟨g, 0, none⟩) L L) L (madeCells (Value.cells (.int .u8 0)) (L * 1)).toList) : RowF w base e g L L (fun _ => 0) := by
  unfold RowF
  rw [upto_zeros]
  have e1 : (madeCells (Value.cells (.int .u8 0)) (L * 1)).toList = List.replicate L (.int .u8 0) := by
    rw [Nat.mul_one]; exact toList_madeCells_one _ _
  rw [← e1]; exact h
theorem RowF.lt {w : World} {base e g L C : Nat} {f : Nat → UInt8} (h : RowF w base e g L C f) : base ≤ g ∧ g < w.heap.size := World.ownsRow.lt h g rfl
/-- a store into another block -/
theorem RowF.other {w : World} {base e g L C : Nat} {f : Nat → UInt8} (h : RowF w base e g L C f) {a : Addr} (ha : g ≠ a.block) (u : Value) : RowF (w.setCell a u) base e g L C f := by
  obtain ⟨h0, h | ⟨g', cap, cur, hv, hg, hh, r⟩⟩ := h
  · exact ⟨h0, Or.inl h⟩
  · refine ⟨h0, Or.inr ⟨g', cap, cur, hv, hg, ?_, r⟩⟩
    have eg : g' = g := by simp at hv; exact hv.1.symm
    rw [Below.heap_setCell _ _ _ _ (by rw [eg]; exact ha)]
    exact hh
theorem RowF.later {w w' : World} {base e g L C : Nat} {f : Nat → UInt8} (h : RowF w base e g L C f) (hb : Below w.heap.size w w') : RowF w' base e g L C f := owns_later h hb
theorem RowF.base {w : World} {base base' e g L C : Nat} {f : Nat → UInt8} (h : RowF w base e g L C f) (hb : base' ≤ base) : RowF w base' e g L C f := ownsRow_base h hb
/-- A list that is owned, and is not empty, lies at the head of a block. -/
theorem RowF.of {w : World} {base e : Nat} {v : Value} {p : List UInt8} (h : w.ownsRow base e 1 v p.length (p.map vb)) (hp : 0 < p.length) : ∃ g C, v = .slice (some ⟨g, 0, none⟩) p.length C ∧ RowF w base e g p.length C (co p) := by
  obtain ⟨h0, ⟨_, h⟩ | ⟨g, cap, cur, hv, r⟩⟩ := h
  · omega
  · refine ⟨g, cap, hv, ?_⟩
    have e1 : upto (co p) p.length = p := co_ext (upto_length _ _) fun i hi => by
      rw [upto_length] at hi; exact co_map_range _ hi
    unfold RowF
    rw [e1]
    subst hv
    exact ⟨h0, Or.inr ⟨g, cap, cur, rfl, r⟩⟩

end Go.Proofs.Ytpijncnpicgjeaa.Gf

/-
  WORLDS IN WHICH ONE BLOCK ALONE HAS TURNED. No program's function is named here.
-/

namespace Go.Proofs.Ytpijncnpicgjeaa.Gf
set_option linter.unusedVariables false
set_option linter.unusedSimpArgs false
open Go.RowKit

/-- Nothing but the block g has turned. -/
structure Only (g : Nat) (w w' : World) : Prop where
  os : w'.os = w.os
  tape : w'.tape = w.tape
  output : w'.output = w.output
  size : w'.heap.size = w.heap.size
  block : ∀ k, k ≠ g → w'.heap[k]? = w.heap[k]?
theorem Only.refl (g : Nat) (w : World) : Only g w w := ⟨rfl, rfl, rfl, rfl, fun _ _ => rfl⟩
theorem Only.trans {g : Nat} {a b c : World} (h : Only g a b) (k : Only g b c) : Only g a c :=
  ⟨k.os.trans h.os, k.tape.trans h.tape, k.output.trans h.output, k.size.trans h.size, fun i hi => (k.block i hi).trans (h.block i hi)⟩
theorem Only.drew {g : Nat} {a w : World} (h : Only g a w) : Only g a w.drew := ⟨h.os, h.tape, h.output, h.size, h.block⟩
theorem Only.setCell {g : Nat} {a w : World} (h : Only g a w) (j : Nat) (u : Value) : Only g a (w.setCell ⟨g, j, none⟩ u) := by
  have b := (Below.refl 0 w).setCell (p := ⟨g, j, none⟩) (Nat.zero_le _) u
  exact ⟨b.os.trans h.os, b.tape.trans h.tape, b.output.trans h.output, by rw [← h.size]; simp, fun k hk => (Below.heap_setCell w ⟨g, j, none⟩ u k hk).trans (h.block k hk)⟩
theorem Only.below {g B : Nat} {w w' : World} (h : Only g w w') (hB : B ≤ g) : Below B w w' :=
  ⟨h.os, h.tape, h.output, by rw [h.size]; exact Nat.le_refl _, fun k hk => h.block k (by omega)⟩
theorem Only.cell {g : Nat} {w w' : World} (h : Only g w w') {p : Addr} (hp : p.block ≠ g) : w'.cell? p = w.cell? p := World.cell?_of_block (w := w) (h.block p.block hp)
/-- a slice that does not lie in the block g -/
def Apart (g : Nat) (v : Value) : Prop := ∀ x n c, v = .slice (some x) n c → n = 0 ∨ x.block ≠ g
theorem Rd.only {g : Nat} {w w' : World} {v : Value} {p : List UInt8} (h : Rd w v p) (ha : Apart g v) (ho : Only g w w') : Rd w' v p := by
  rcases h with h | ⟨b, off, cap, h1, h2, h3, h4, h5, h6⟩
  · exact Or.inl h
  · have hb : b ≠ g := by
      rcases ha _ _ _ h2 with e | e
      · exact absurd (List.length_eq_zero_iff.1 e) h1
      · exact e
    exact Or.inr ⟨b, off, cap, h1, h2, h3, h4, by rw [ho.size]; exact h5, fun i hi => (ho.cell (p := ⟨b, off + i, none⟩) hb).trans (h6 i hi)⟩
theorem Rd.apart {w : World} {v : Value} {p : List UInt8} {g : Nat} (h : Rd w v p) (hg : w.heap.size ≤ g) : Apart g v := by
  intro x n c e
  rcases h with ⟨a, c', _, e2, _⟩ | ⟨b, off, cap, h1, h2, h3, h4, h5, h6⟩
  · subst e2; simp at e; exact Or.inl e.2.1.symm
  · subst h2; simp at e; obtain ⟨rfl, rfl, rfl⟩ := e; exact Or.inr (by show b ≠ g; omega)
theorem RowF.only {g g' : Nat} {w w' : World} {base e L C : Nat} {f : Nat → UInt8} (h : RowF w base e g L C f) (hg : g ≠ g') (o : Only g' w w') : RowF w' base e g L C f := by
  obtain ⟨h0, h | ⟨g2, cap, cur, hv, hgg, hh, r⟩⟩ := h
  · exact ⟨h0, Or.inl h⟩
  · refine ⟨h0, Or.inr ⟨g2, cap, cur, hv, hgg, ?_, r⟩⟩
    have eg : g2 = g := by simp at hv; exact hv.1.symm
    rw [o.block g2 (by rw [eg]; exact hg)]
    exact hh
theorem Only.drewN {g : Nat} {a w : World} (h : Only g a w) (n : Nat) : Only g a (w.drewN n) := ⟨h.os, h.tape, h.output, h.size, h.block⟩
theorem apart_block {g b off n c : Nat} (h : b ≠ g) : Apart g (.slice (some ⟨b, off, none⟩) n c) := by
  intro x n' c' e
  simp at e
  obtain ⟨rfl, _⟩ := e
  exact Or.inr h
theorem Only.frozen {g : Nat} {w w' : World} (h : Only g w w') {p : Addr} (hp : p.block ≠ g) : w'.frozen? p = w.frozen? p := World.frozen?_of_block (w := w) (h.block p.block hp)

end Go.Proofs.Ytpijncnpicgjeaa.Gf

/-
  THE BYTE's ROW OF THE PROGRAM's TABLE OF TYPES.
-/

namespace Go.Proofs.Ytpijncnpicgjeaa.Gf
theorem info_u8 : (Try.prog.info? 5).map (fun i => (i.zero, i.size, i.bytes)) = some (some (.int .u8 0), 1, 1) := by kernel_rfl
end Go.Proofs.Ytpijncnpicgjeaa.Gf

/-
  WORLDS IN WHICH ONE BLOCK MAY HAVE TURNED AND OTHERS MAY HAVE BEEN LAID; 'copy' into a row of the call's own. No program's function is named here.
-/



namespace Go.Proofs.Ytpijncnpicgjeaa.Gf
set_option linter.unusedVariables false
set_option linter.unusedSimpArgs false
open Go.RowKit

/-- Of what was there nothing but the block g has turned. -/
structure Turn (g : Nat) (w w' : World) : Prop where
  os : w'.os = w.os
  tape : w'.tape = w.tape
  output : w'.output = w.output
  size : w.heap.size ≤ w'.heap.size
  block : ∀ k, k < w.heap.size → k ≠ g → w'.heap[k]? = w.heap[k]?
theorem Turn.refl (g : Nat) (w : World) : Turn g w w := ⟨rfl, rfl, rfl, Nat.le_refl _, fun _ _ _ => rfl⟩
theorem Turn.trans {g : Nat} {a b c : World} (h : Turn g a b) (k : Turn g b c) : Turn g a c :=
  ⟨k.os.trans h.os, k.tape.trans h.tape, k.output.trans h.output, Nat.le_trans h.size k.size, fun i hi hg => (k.block i (Nat.lt_of_lt_of_le hi h.size) hg).trans (h.block i hi hg)⟩
theorem Below.turn {w w' : World} (h : Below w.heap.size w w') (g : Nat) : Turn g w w' := ⟨h.os, h.tape, h.output, h.size, fun k hk _ => h.block k hk⟩
theorem Only.turn {g : Nat} {w w' : World} (h : Only g w w') : Turn g w w' := ⟨h.os, h.tape, h.output, by rw [h.size]; exact Nat.le_refl _, fun k _ hk => h.block k hk⟩
theorem Turn.below {g B : Nat} {w w' : World} (h : Turn g w w') (hg : B ≤ g) (hB : B ≤ w.heap.size) : Below B w w' :=
  ⟨h.os, h.tape, h.output, h.size, fun k hk => h.block k (by omega) (by omega)⟩
theorem Turn.cell {g : Nat} {w w' : World} (h : Turn g w w') {p : Addr} (hs : p.block < w.heap.size) (hp : p.block ≠ g) : w'.cell? p = w.cell? p := World.cell?_of_block (w := w) (h.block p.block hs hp)
theorem Turn.frozen {g : Nat} {w w' : World} (h : Turn g w w') {p : Addr} (hs : p.block < w.heap.size) (hp : p.block ≠ g) : w'.frozen? p = w.frozen? p := World.frozen?_of_block (w := w) (h.block p.block hs hp)
theorem Rd.turn {g : Nat} {w w' : World} {v : Value} {p : List UInt8} (h : Rd w v p) (ha : Apart g v) (ho : Turn g w w') : Rd w' v p := by
  rcases h with h | ⟨b, off, cap, h1, h2, h3, h4, h5, h6⟩
  · exact Or.inl h
  · have hb : b ≠ g := by
      rcases ha _ _ _ h2 with e | e
      · exact absurd (List.length_eq_zero_iff.1 e) h1
      · exact e
    exact Or.inr ⟨b, off, cap, h1, h2, h3, h4, Nat.lt_of_lt_of_le h5 ho.size, fun i hi => (ho.cell (p := ⟨b, off + i, none⟩) h5 hb).trans (h6 i hi)⟩
theorem RowF.turn {g g' : Nat} {w w' : World} {base e L C : Nat} {f : Nat → UInt8} (h : RowF w base e g L C f) (hg : g ≠ g') (o : Turn g' w w') : RowF w' base e g L C f := by
  obtain ⟨h0, h | ⟨g2, cap, cur, hv, hgg, hh, r⟩⟩ := h
  · exact ⟨h0, Or.inl h⟩
  · refine ⟨h0, Or.inr ⟨g2, cap, cur, hv, hgg, ?_, r⟩⟩
    have eg : g2 = g := by simp at hv; exact hv.1.symm
    have hlt : g2 < w.heap.size := (Array.getElem?_eq_some_iff.1 hh).1
    rw [o.block g2 hlt (by rw [eg]; exact hg)]
    exact hh
/-- n numbers from the place o on, told anew -/
def putAt (f : Nat → UInt8) (o n : Nat) (q : Nat → UInt8) (t : Nat) : UInt8 := if o ≤ t ∧ t < o + n then q (t - o) else f t
theorem putAt_zero (f : Nat → UInt8) (o : Nat) (q : Nat → UInt8) : putAt f o 0 q = f := by funext t; exact if_neg (by omega)
theorem putAt_step (f : Nat → UInt8) (o k : Nat) (q : Nat → UInt8) (t : Nat) : putAt f o (k + 1) q t = if t = o + k then q k else putAt f o k q t := by
  unfold putAt
  by_cases e : t = o + k
  · subst e; rw [if_pos (by omega), if_pos rfl, show o + k - o = k by omega]
  · rw [if_neg e]
    by_cases h : o ≤ t ∧ t < o + k
    · rw [if_pos h, if_pos (by omega)]
    · rw [if_neg h, if_neg (by omega)]
theorem putAt_out {f : Nat → UInt8} {o n : Nat} {q : Nat → UInt8} {t : Nat} (h : t < o ∨ o + n ≤ t) : putAt f o n q t = f t := if_neg (by omega)
theorem putAt_in {f : Nat → UInt8} {o n : Nat} {q : Nat → UInt8} {k : Nat} (h : k < n) : putAt f o n q (o + k) = q k := by
  unfold putAt; rw [if_pos (by omega), show o + k - o = k by omega]
theorem putAt_congr {f : Nat → UInt8} {o n : Nat} {q q' : Nat → UInt8} (h : ∀ k, k < n → q k = q' k) : putAt f o n q = putAt f o n q' := by
  funext t; unfold putAt
  by_cases e : o ≤ t ∧ t < o + n
  · rw [if_pos e, if_pos e]; exact h _ (by omega)
  · rw [if_neg e, if_neg e]
/-- the row's cells, as they lie -/
theorem RowF.heap {w : World} {base e g L C : Nat} {f : Nat → UInt8} (h : RowF w base e g L C f) (hLC : L = C) : w.heap[g]? = some (.cells ((upto f L).map vb).toArray e (0, 0)) ∧ C ≤ maxLen := by
  obtain ⟨h0, ⟨hv, _⟩ | ⟨g2, cap, cur, hv, hgg, hh, h1, h2, h3, h4⟩⟩ := h
  · simp at hv
  · have e1 : g2 = g := by simp at hv; exact hv.1.symm
    have e2 : cap = C := by simp at hv; exact (by first | exact hv.symm | exact hv.2.symm)
    clear hv
    subst e1 e2 hLC
    refine ⟨?_, h2⟩
    rw [hh, ← h4, Nat.mul_one]
    congr 2
    apply Array.ext'
    have : cur.toList.length = L := by rw [Array.length_toList, h3, Nat.mul_one]
    rw [List.toList_toArray, ← this, List.take_length]
theorem RowF.of_heap {w : World} {base e g L : Nat} {f : Nat → UInt8} (hg : base ≤ g) (hm : L ≤ maxLen) (h : w.heap[g]? = some (.cells ((upto f L).map vb).toArray e (0, 0))) : RowF w base e g L L f := by
  have hl : ((upto f L).map vb).length = L := by rw [List.length_map, upto_length]
  refine ⟨by rw [hl, Nat.mul_one], Or.inr ⟨g, L, _, rfl, hg, h, Nat.le_refl _, hm, by rw [List.size_toArray, hl, Nat.mul_one], ?_⟩⟩
  rw [Nat.mul_one, List.toList_toArray]
  exact List.take_of_length_le (by rw [hl]; exact Nat.le_refl _)
theorem co_drop (p : List UInt8) (n i : Nat) : co (p.drop n) i = co p (n + i) := by unfold co; rw [List.getElem?_drop]
theorem co_upto_lt {f : Nat → UInt8} {n i : Nat} (h : i < n) : co (upto f n) i = f i := co_map_range f h
theorem splice_upto {f : Nat → UInt8} {L o : Nat} {p : List UInt8} (h : o + p.length ≤ L) : splice ((upto f L).map vb) o (p.map vb) = (upto (putAt f o p.length (co p)) L).map vb := by
  unfold splice
  rw [← List.map_take, ← List.map_drop, ← List.map_append, ← List.map_append]
  congr 1
  refine co_ext ?_ ?_
  · simp [upto]; omega
  · intro i hi
    rw [List.length_append, List.length_append, List.length_take, List.length_drop, upto_length, List.length_map] at hi
    rw [co_upto_lt (f := putAt f o p.length (co p)) (show i < L by omega)]
    by_cases h1 : i < o
    · rw [putAt_out (Or.inl h1), co_append_lt (by rw [List.length_take, upto_length]; omega), co_take h1, co_upto_lt (by omega)]
    · by_cases h2 : i < o + p.length
      · obtain ⟨k, rfl⟩ := Nat.exists_eq_add_of_le (show o ≤ i by omega)
        rw [putAt_in (show k < p.length by omega), co_append_ge (by rw [List.length_take, upto_length]; omega), List.length_take, upto_length]
        rw [co_append_lt (by omega), show o + k - min o L = k by omega]
      · rw [putAt_out (Or.inr (by omega)), co_append_ge (by rw [List.length_take, upto_length]; omega), List.length_take, upto_length, co_append_ge (by omega), co_drop, List.length_map]
        rw [show o + p.length + (i - min o L - p.length) = i by omega, co_upto_lt (by omega)]
theorem only_setRow (w : World) (g : Nat) (cs : Array Value) : Only g w (w.setRow g cs) := ⟨rfl, rfl, rfl, by simp [World.setRow], fun k hk => setRow_other w g k cs hk⟩
/-- 'copy' into a part of a row of the call's own, as a step of a region that draws its order. -/
theorem step_copy_rd {P : Program} {ops : Array Oper} {o : Oper} {a : Act} {w : World} {K : Act → World → Prop} {Q : Exit → Act → World → Prop} {E : Prop} (hgd : o.guard = none) (d s : Operand) (dT sT : TypeId)
    (ho : o.op = .call { callee := .builtin .copy, args := #[d, s], argTypes := #[dT, sT] }) (elem : TypeId) (hu : P.underlying dT = some (.slice elem)) (hsz : (P.info? elem).map (·.size) = some 1)
    {g off n dl dCap : Nat} {va : Value} {p : List UInt8} {base e L : Nat} {f : Nat → UInt8} (hd : a.eval d = .slice (some ⟨g, off, none⟩) dl dCap) (hs : a.eval s = va) (hr : Rd w va p) (hn : p.length = n) (hdl : n ≤ dl) (hR : RowF w base e g L L f) (hl : off + n ≤ L)
    (h : ∀ w', Only g w w' → RowF w' base e g L L (putAt f off n (co p)) → K (a.put o.dst (goInt n)) w') :
    if Region.wanted o (yielded ops a.tmps) = true then Oper.wp P o a w K Q else E := by
  have hw : Region.wanted o (yielded ops a.tmps) = true := by simp [Region.wanted, hgd]
  rw [if_pos hw]
  subst hn
  obtain ⟨hg, hm⟩ := hR.heap rfl
  have hlt := hR.lt
  rcases hr with ⟨ao, cap, rfl, rfl, _⟩ | ⟨b, so, cap, hp0, rfl, h1, h2, h3, hpc⟩
  · have hrun := run_copy_none (P := P) w dT sT o.type elem (some ⟨g, off, none⟩) ao dl dCap 0 cap hu hsz (Nat.zero_min _)
    unfold Oper.wp
    simp [execOp, ho, resolve, invoke, builtin, hd, hs, hrun, Result.andThen]
    exact h w (Only.refl _ _) (by rw [List.length_nil, putAt_zero]; exact hR)
  · have hrun := run_copy_row (P := P) w dT sT o.type elem g off dl dCap ⟨b, so, none⟩ p.length cap ((upto f L).map vb).toArray e (p.map vb) hu hsz hg (by rw [List.length_map]; exact (Nat.min_eq_left hdl).symm) (by have := news_of (k := p.length) hpc; rwa [List.take_length] at this) (by simp [upto_length]; exact hl) (vb_one p)
    unfold Oper.wp
    simp [execOp, ho, resolve, invoke, builtin, hd, hs, hrun, Result.andThen]
    refine h _ (only_setRow _ _ _) (RowF.of_heap hlt.1 hm ?_)
    rw [← splice_upto hl]
    simpa [splice] using setRow_heap w g _ _ e _ hg

end Go.Proofs.Ytpijncnpicgjeaa.Gf

/-
  WORLDS IN WHICH SOME BLOCKS HAVE TURNED, AND OTHERS WERE LAID (a closure over several variables). No program's function is named here.
-/

namespace Go.Proofs.Ytpijncnpicgjeaa.Gf
set_option linter.unusedVariables false
set_option linter.unusedSimpArgs false
open Go.RowKit

structure TurnL (G : List Nat) (w w' : World) : Prop where
  os : w'.os = w.os
  tape : w'.tape = w.tape
  output : w'.output = w.output
  size : w.heap.size ≤ w'.heap.size
  block : ∀ k, k < w.heap.size → k ∉ G → w'.heap[k]? = w.heap[k]?
theorem TurnL.refl (G : List Nat) (w : World) : TurnL G w w := ⟨rfl, rfl, rfl, Nat.le_refl _, fun _ _ _ => rfl⟩
theorem TurnL.trans {G : List Nat} {a b c : World} (h : TurnL G a b) (k : TurnL G b c) : TurnL G a c :=
  ⟨k.os.trans h.os, k.tape.trans h.tape, k.output.trans h.output, Nat.le_trans h.size k.size, fun i hi hg => (k.block i (Nat.lt_of_lt_of_le hi h.size) hg).trans (h.block i hi hg)⟩
theorem Below.turnL {w w' : World} (h : Below w.heap.size w w') (G : List Nat) : TurnL G w w' := ⟨h.os, h.tape, h.output, h.size, fun k hk _ => h.block k hk⟩
theorem Only.turnL {g : Nat} {G : List Nat} {w w' : World} (h : Only g w w') (hg : g ∈ G) : TurnL G w w' :=
  ⟨h.os, h.tape, h.output, by rw [h.size]; exact Nat.le_refl _, fun k _ hk => h.block k (fun e => hk (by rw [e]; exact hg))⟩
theorem TurnL.put {G : List Nat} {a w : World} (h : TurnL G a w) {g : Nat} (hg : g ∈ G) (j : Nat) (u : Value) : TurnL G a (w.setCell ⟨g, j, none⟩ u) := h.trans (((Only.refl g w).setCell j u).turnL hg)
theorem TurnL.drew {G : List Nat} {a w : World} (h : TurnL G a w) : TurnL G a w.drew := ⟨h.os, h.tape, h.output, h.size, h.block⟩
theorem TurnL.drewN {G : List Nat} {a w : World} (h : TurnL G a w) (n : Nat) : TurnL G a (w.drewN n) := ⟨h.os, h.tape, h.output, h.size, h.block⟩
theorem TurnL.below {G : List Nat} {B : Nat} {w w' : World} (h : TurnL G w w') (hg : ∀ g, g ∈ G → B ≤ g) (hB : B ≤ w.heap.size) : Below B w w' :=
  ⟨h.os, h.tape, h.output, h.size, fun k hk => h.block k (by omega) (fun e => by have := hg k e; omega)⟩
theorem TurnL.cell {G : List Nat} {w w' : World} (h : TurnL G w w') {p : Addr} (hs : p.block < w.heap.size) (hp : p.block ∉ G) : w'.cell? p = w.cell? p := World.cell?_of_block (w := w) (h.block p.block hs hp)
theorem TurnL.frozen {G : List Nat} {w w' : World} (h : TurnL G w w') {p : Addr} (hs : p.block < w.heap.size) (hp : p.block ∉ G) : w'.frozen? p = w.frozen? p := World.frozen?_of_block (w := w) (h.block p.block hs hp)
/-- a slice that lies in none of the blocks -/
def ApartL (G : List Nat) (v : Value) : Prop := ∀ x n c, v = .slice (some x) n c → n = 0 ∨ x.block ∉ G
theorem Rd.turnL {G : List Nat} {w w' : World} {v : Value} {p : List UInt8} (h : Rd w v p) (ha : ApartL G v) (ho : TurnL G w w') : Rd w' v p := by
  rcases h with h | ⟨b, off, cap, h1, h2, h3, h4, h5, h6⟩
  · exact Or.inl h
  · have hb : b ∉ G := by
      rcases ha _ _ _ h2 with e | e
      · exact absurd (List.length_eq_zero_iff.1 e) h1
      · exact e
    exact Or.inr ⟨b, off, cap, h1, h2, h3, h4, Nat.lt_of_lt_of_le h5 ho.size, fun i hi => (ho.cell (p := ⟨b, off + i, none⟩) h5 hb).trans (h6 i hi)⟩
/-- one that was there before the blocks were laid -/
theorem Rd.apartL {w : World} {v : Value} {p : List UInt8} {G : List Nat} (h : Rd w v p) (hg : ∀ g, g ∈ G → w.heap.size ≤ g) : ApartL G v := by
  intro x n c e
  rcases h with ⟨a, c', _, e2, _⟩ | ⟨b, off, cap, h1, h2, h3, h4, h5, h6⟩
  · subst e2; simp at e; exact Or.inl e.2.1.symm
  · subst h2; simp at e; obtain ⟨rfl, rfl, rfl⟩ := e; exact Or.inr (fun h => by have := hg b h; omega)
/-- one that was laid behind them -/
theorem ApartL.own {w : World} {base e n : Nat} {v : Value} {xs : List Value} {G : List Nat} (h : w.ownsRow base e 1 v n xs) (hg : ∀ g, g ∈ G → g < base) : ApartL G v := by
  intro x m c ev
  obtain ⟨_, ⟨hv, hn⟩ | ⟨g, cap, cur, hv, hgb, _⟩⟩ := h
  · rw [hv] at ev; simp at ev
  · rw [hv] at ev
    simp at ev
    obtain ⟨rfl, _, _⟩ := ev
    exact Or.inr (fun h => by have := hg g h; omega)
theorem ApartL.nil (G : List Nat) (c : Nat) (a : Option Addr) : ApartL G (.slice a 0 c) := fun x n c' e => by simp at e; exact Or.inl e.2.1.symm

end Go.Proofs.Ytpijncnpicgjeaa.Gf

