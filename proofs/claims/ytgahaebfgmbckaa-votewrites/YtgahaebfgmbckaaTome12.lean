/- TEXTS JOINED: ArCall, ArMath, ArLawM, ArCalm. -/
import Derived.Lib.SmallJoins
import Derived.Test.YtgahaebfgmbckaaTome7
namespace Go.Proofs.Ytgahaebfgmbckaa.Gf
set_option linter.unusedVariables false
set_option linter.unusedSimpArgs false
open Go.RowKit
open Go.ChangeShapes
/-- a row of integers, with its slice -/
abbrev VI := Value × List Int
instance : Inhabited VI := ⟨(.slice none 0 0, [])⟩
structure RowAt (w : World) (b off : Nat) (r : VI) : Prop where
  c : w.cell? ⟨b, off, none⟩ = some r.1
  rd : RdI w r.1 r.2
  wf : ∀ z ∈ r.2, (Lit.int .i64 z).wf = true
def RdII (w : World) (v : Value) (L : List VI) : Prop :=
  (∃ ao cap, L = [] ∧ v = .slice ao 0 cap) ∨ (∃ b off cap, L ≠ [] ∧ v = .slice (some ⟨b, off, none⟩) L.length cap ∧ L.length ≤ maxLen ∧ b < w.heap.size ∧ ∀ i, i < L.length → RowAt w b (off + i) (L.getD i default))
theorem RdII.below {w w' : World} {v : Value} {L : List VI} (h : RdII w v L) (hb : Below w.heap.size w w') : RdII w' v L := by
  rcases h with h | ⟨b, off, cap, h1, h2, h3, h4, h5⟩
  · exact Or.inl h
  · refine Or.inr ⟨b, off, cap, h1, h2, h3, Nat.lt_of_lt_of_le h4 hb.size, fun i hi => ?_⟩
    have h6 := h5 i hi
    exact ⟨(hb.cell (p := ⟨b, off + i, none⟩) h4).trans h6.c, h6.rd.below hb, h6.wf⟩
theorem RdII.form {w : World} {v : Value} {L : List VI} (h : RdII w v L) : ∃ a c, v = .slice a L.length c := by
  rcases h with ⟨a, c, rfl, rfl⟩ | ⟨b, off, c, _, rfl, _⟩
  · exact ⟨a, c, rfl⟩
  · exact ⟨_, c, rfl⟩
theorem RdII.at {w : World} {a : Option Addr} {c : Nat} {L : List VI} (h : RdII w (.slice a L.length c) L) {k : Nat} (hk : k < L.length) : ∃ b off, a = some ⟨b, off, none⟩ ∧ b < w.heap.size ∧ RowAt w b (off + k) (L.getD k default) := by
  rcases h with ⟨_, _, h1, _⟩ | ⟨b, off, c, h1, h2, h3, h4, h5⟩
  · rw [h1] at hk; simp at hk
  · simp at h2
    exact ⟨b, off, h2.1, h4, h5 k hk⟩
/-- a call on an array -/
structure CallA where
  kind : Int
  d : Int
  n : Int
  m : Int
  by8 : UInt8
  vb : Value
  vk : Value
  b : List UInt8
  keep : List VI
instance : Inhabited CallA := ⟨⟨0, 0, 0, 0, 0, .slice none 0 0, .slice none 0 0, [], []⟩⟩
structure CallAtA (w : World) (b off : Nat) (c : CallA) : Prop where
  c0 : w.cell? ⟨b, off, none⟩ = some (.int .i64 c.kind)
  c1 : w.cell? ⟨b, off + 1, none⟩ = some (.int .i64 c.d)
  c2 : w.cell? ⟨b, off + 2, none⟩ = some (.int .i64 c.n)
  c3 : w.cell? ⟨b, off + 3, none⟩ = some (.int .i64 c.m)
  c4 : w.cell? ⟨b, off + 4, none⟩ = some (.int .u8 ((c.by8.toNat : Nat) : Int))
  c5 : w.cell? ⟨b, off + 5, none⟩ = some c.vb
  c6 : w.cell? ⟨b, off + 6, none⟩ = some c.vk
  wk : (Lit.int .i64 c.kind).wf = true
  wd : (Lit.int .i64 c.d).wf = true
  wn : (Lit.int .i64 c.n).wf = true
  wm : (Lit.int .i64 c.m).wf = true
  rb : Rd w c.vb c.b
  rk : RdII w c.vk c.keep
theorem CallAtA.below {w w' : World} {b off : Nat} {c : CallA} (h : CallAtA w b off c) (hb : b < w.heap.size) (hw : Below w.heap.size w w') : CallAtA w' b off c :=
  ⟨(hw.cell (p := ⟨b, off, none⟩) hb).trans h.c0, (hw.cell (p := ⟨b, off + 1, none⟩) hb).trans h.c1, (hw.cell (p := ⟨b, off + 2, none⟩) hb).trans h.c2, (hw.cell (p := ⟨b, off + 3, none⟩) hb).trans h.c3, (hw.cell (p := ⟨b, off + 4, none⟩) hb).trans h.c4, (hw.cell (p := ⟨b, off + 5, none⟩) hb).trans h.c5, (hw.cell (p := ⟨b, off + 6, none⟩) hb).trans h.c6, h.wk, h.wd, h.wn, h.wm, h.rb.below hw, h.rk.below hw⟩
def RdA (w : World) (v : Value) (L : List CallA) : Prop :=
  (∃ ao cap, L = [] ∧ v = .slice ao 0 cap) ∨ (∃ b off cap, L ≠ [] ∧ v = .slice (some ⟨b, off, none⟩) L.length cap ∧ L.length ≤ maxLen ∧ b < w.heap.size ∧ ∀ i, i < L.length → CallAtA w b (off + i * 7) (L.getD i default))
theorem RdA.below {w w' : World} {v : Value} {L : List CallA} (h : RdA w v L) (hb : Below w.heap.size w w') : RdA w' v L := by
  rcases h with h | ⟨b, off, cap, h1, h2, h3, h5, h6⟩
  · exact Or.inl h
  · exact Or.inr ⟨b, off, cap, h1, h2, h3, Nat.lt_of_lt_of_le h5 hb.size, fun i hi => (h6 i hi).below h5 hb⟩
theorem RdA.form {w : World} {v : Value} {L : List CallA} (h : RdA w v L) : ∃ a c, v = .slice a L.length c := by
  rcases h with ⟨a, c, rfl, rfl⟩ | ⟨b, off, c, _, rfl, _⟩
  · exact ⟨a, c, rfl⟩
  · exact ⟨_, c, rfl⟩
theorem RdA.lenEq {w : World} {a : Option Addr} {len cap : Nat} {L : List CallA} (h : RdA w (.slice a len cap) L) : len = L.length := by
  obtain ⟨_, _, e⟩ := h.form
  simp at e
  exact e.2.1
theorem RdA.at {w : World} {a : Option Addr} {c : Nat} {L : List CallA} (h : RdA w (.slice a L.length c) L) {k : Nat} (hk : k < L.length) : ∃ b off, a = some ⟨b, off, none⟩ ∧ b < w.heap.size ∧ CallAtA w b (off + k * 7) (L.getD k default) := by
  rcases h with ⟨_, _, h1, _⟩ | ⟨b, off, c, h1, h2, h3, h4, h5⟩
  · rw [h1] at hk; simp at hk
  · simp at h2
    exact ⟨b, off, h2.1, h4, h5 k hk⟩
def aggA (c : CallA) : Value := .agg #[.int .i64 c.kind, .int .i64 c.d, .int .i64 c.n, .int .i64 c.m, .int .u8 ((c.by8.toNat : Nat) : Int), c.vb, c.vk]
structure CallV (w : World) (c : CallA) : Prop where
  wk : (Lit.int .i64 c.kind).wf = true
  wd : (Lit.int .i64 c.d).wf = true
  wn : (Lit.int .i64 c.n).wf = true
  wm : (Lit.int .i64 c.m).wf = true
  rb : Rd w c.vb c.b
  rk : RdII w c.vk c.keep
theorem CallV.below {w w' : World} {c : CallA} (h : CallV w c) (hb : Below w.heap.size w w') : CallV w' c := ⟨h.wk, h.wd, h.wn, h.wm, h.rb.below hb, h.rk.below hb⟩
theorem seven {cs : List Value} (h : cs.length = 7) : ∃ v0 v1 v2 v3 v4 v5 v6, cs = [v0, v1, v2, v3, v4, v5, v6] := by
  match cs, h with
  | [a, b, c, d, e, f, g], _ => exact ⟨a, b, c, d, e, f, g, rfl⟩
section
variable {H : Type} {enc : TypeId × Value → H} {P : Program} {w : World} {base : Nat} {held : Bool}
/-- an argument of type [][]int -/
theorem open_rows {t s i : TypeId} {fuel : Nat} {cs : List Value} {x : DataW H × List MemPlace} (ht : P.underlying t = some (.slice s)) (hs : P.underlying s = some (.slice i)) (hi : P.underlying i = some (.int .i64)) (ci : P.cellsOf i = 1) (cs1 : P.cellsOf s = 1)
    (h : DataW.trod enc P w base (fun _ => true) held fuel t cs = some x) : ∃ a len cap L, cs = [.slice a len cap] ∧ len = L.length ∧ RdII w (.slice a len cap) L := by
  rcases Go.Deep.open_slice ht h with ⟨rfl, _⟩ | ⟨a, len, cap, m, n, D, Pl, rfl, hb, hl, hm, hmm, rfl, hx⟩
  · exact ⟨none, 0, 0, [], rfl, rfl, Or.inl ⟨none, 0, rfl, rfl⟩⟩
  simp only [if_true] at hmm
  by_cases hl0 : len = 0
  · subst hl0
    exact ⟨some a, 0, cap, [], rfl, rfl, Or.inl ⟨_, _, rfl, rfl⟩⟩
  obtain ⟨bb, off, spot⟩ := a
  have hspot : spot = none := by
    obtain ⟨cs', h1, _⟩ := hx 0 (by omega)
    rw [cs1] at h1
    have hc := World.cells?_some h1
    have h2 := hc.2.2 0 (by omega)
    obtain ⟨v, hv⟩ : ∃ v, cs'[0]? = some v := ⟨cs'[0]'(by omega), List.getElem?_eq_getElem (by omega)⟩
    rw [hv] at h2
    have := World.cell?_spot h2
    simpa [Addr.add] using this
  subst hspot
  have each : ∀ j, j < len → ∃ r : VI, RowAt w bb (off + j) r := by
    intro j hj
    obtain ⟨cs', h1, h2⟩ := hx j (by omega)
    rw [cs1] at h1
    obtain ⟨_, hlen, hc⟩ := World.cells?_some h1
    obtain ⟨v, rfl⟩ : ∃ v, cs' = [v] := by
      match cs', hlen with
      | [v], _ => exact ⟨v, rfl⟩
    have hcell : w.cell? ⟨bb, off + j, none⟩ = some v := by
      have := hc 0 (by omega)
      rw [Go.Deep.add_add, add_at] at this
      simpa using this
    rcases open_ints hs hi ci h2 with ⟨hcs, _⟩ | ⟨x5, l5, c5, zs, hcs, _, hl5, hm5, hz, _, hcell5, hwz⟩
    · simp at hcs
      subst hcs
      exact ⟨(.slice none 0 0, []), hcell, Or.inl ⟨none, 0, rfl, rfl⟩, by simp⟩
    · simp at hcs
      subst hcs
      obtain ⟨p, hp, hw⟩ := rdI_row2 (w := w) (a := some x5) (len := l5) (cap := c5) (zs := zs) (Or.inr ⟨x5, rfl, hl5, hm5, by simpa using hz, hcell5, hwz⟩)
      exact ⟨(_, p), hcell, hp, hw⟩
  obtain ⟨F, hF⟩ := Go.Deep.choose_lt each
  have hlen : ((List.range len).map F).length = len := by simp
  refine ⟨some ⟨bb, off, none⟩, len, cap, (List.range len).map F, rfl, hlen.symm, ?_⟩
  have hc0 := (hF 0 (by omega)).c
  have hbw : bb < w.heap.size := by
    unfold World.cell? at hc0
    by_cases hb : bb < w.heap.size
    · exact hb
    · rw [Array.getElem?_eq_none (by show w.heap.size ≤ bb; omega)] at hc0; cases hc0
  refine Or.inr ⟨bb, off, cap, fun e => by rw [e] at hlen; simp at hlen; omega, by rw [hlen], by rw [hlen]; omega, hbw, fun j hj => ?_⟩
  rw [hlen] at hj
  have e1 : ((List.range len).map F).getD j default = F j := by simp [List.getD, hj]
  rw [e1]
  exact hF j hj
/-- an argument that is a slice of calls on an array -/
theorem open_acalls {t e sb ss si : TypeId} {f0 f1 f2 f3 f4 f5 f6 : Field} {fuel : Nat} {cs : List Value} {x : DataW H × List MemPlace} (ht : P.underlying t = some (.slice e)) (he : P.underlying e = some (.struct #[f0, f1, f2, f3, f4, f5, f6])) (ce : P.cellsOf e = 7)
    (o0 : f0.offset = 0) (o1 : f1.offset = 1) (o2 : f2.offset = 2) (o3 : f3.offset = 3) (o4 : f4.offset = 4) (o5 : f5.offset = 5) (o6 : f6.offset = 6)
    (t0 : P.underlying f0.type = some (.int .i64)) (t1 : P.underlying f1.type = some (.int .i64)) (t2 : P.underlying f2.type = some (.int .i64)) (t3 : P.underlying f3.type = some (.int .i64)) (t4 : P.underlying f4.type = some (.int .u8)) (t5 : P.underlying f5.type = some (.slice sb)) (t6 : P.underlying f6.type = some (.slice ss))
    (tb : P.underlying sb = some (.int .u8)) (ts : P.underlying ss = some (.slice si)) (ti : P.underlying si = some (.int .i64)) (cb : P.cellsOf sb = 1) (cs1 : P.cellsOf ss = 1) (ci : P.cellsOf si = 1)
    (n0 : P.cellsOf f0.type = 1) (n1 : P.cellsOf f1.type = 1) (n2 : P.cellsOf f2.type = 1) (n3 : P.cellsOf f3.type = 1) (n4 : P.cellsOf f4.type = 1) (n5 : P.cellsOf f5.type = 1) (n6 : P.cellsOf f6.type = 1)
    (h : DataW.trod enc P w base (fun _ => true) held fuel t cs = some x) : ∃ a len cap L, cs = [.slice a len cap] ∧ len = L.length ∧ RdA w (.slice a len cap) L := by
  rcases Go.Deep.open_slice ht h with ⟨rfl, _⟩ | ⟨a, len, cap, m, n, D, Pl, rfl, hb, hl, hm, hmm, rfl, hx⟩
  · exact ⟨none, 0, 0, [], rfl, rfl, Or.inl ⟨none, 0, rfl, rfl⟩⟩
  simp only [if_true] at hmm
  by_cases hl0 : len = 0
  · subst hl0
    exact ⟨some a, 0, cap, [], rfl, rfl, Or.inl ⟨_, _, rfl, rfl⟩⟩
  obtain ⟨bb, off, spot⟩ := a
  have hspot : spot = none := by
    obtain ⟨cs', h1, _⟩ := hx 0 (by omega)
    rw [ce] at h1
    have hc := World.cells?_some h1
    have h2 := hc.2.2 0 (by omega)
    obtain ⟨v, hv⟩ : ∃ v, cs'[0]? = some v := ⟨cs'[0]'(by omega), List.getElem?_eq_getElem (by omega)⟩
    rw [hv] at h2
    have := World.cell?_spot h2
    simpa [Addr.add] using this
  subst hspot
  have each : ∀ i, i < len → ∃ c : CallA, CallAtA w bb (off + i * 7) c := by
    intro i hi
    obtain ⟨cs', h1, h2⟩ := hx i (by omega)
    obtain ⟨xs, n', _, _, hlen, hxl, hf⟩ := DataW.trod_struct he h2
    rw [ce] at hlen h1
    obtain ⟨v0, v1, v2, v3, v4, v5, v6, rfl⟩ := seven hlen
    have hxl' : xs.length = 7 := hxl
    have g : ∀ k, k < 7 → ∃ y, xs[k]? = some y := fun k hk => ⟨xs[k], List.getElem?_eq_getElem (by omega)⟩
    obtain ⟨y0, e0⟩ := g 0 (by omega)
    obtain ⟨y1, e1⟩ := g 1 (by omega)
    obtain ⟨y2, e2⟩ := g 2 (by omega)
    obtain ⟨y3, e3⟩ := g 3 (by omega)
    obtain ⟨y4, e4⟩ := g 4 (by omega)
    obtain ⟨y5, e5⟩ := g 5 (by omega)
    obtain ⟨y6, e6⟩ := g 6 (by omega)
    have q0 := hf 0 f0 rfl
    have q1 := hf 1 f1 rfl
    have q2 := hf 2 f2 rfl
    have q3 := hf 3 f3 rfl
    have q4 := hf 4 f4 rfl
    have q5 := hf 5 f5 rfl
    have q6 := hf 6 f6 rfl
    rw [o0, n0, e0] at q0
    rw [o1, n1, e1] at q1
    rw [o2, n2, e2] at q2
    rw [o3, n3, e3] at q3
    rw [o4, n4, e4] at q4
    rw [o5, n5, e5] at q5
    rw [o6, n6, e6] at q6
    obtain ⟨z0, r0, _, w0⟩ := DataW.trod_int t0 q0
    obtain ⟨z1, r1, _, w1⟩ := DataW.trod_int t1 q1
    obtain ⟨z2, r2, _, w2⟩ := DataW.trod_int t2 q2
    obtain ⟨z3, r3, _, w3⟩ := DataW.trod_int t3 q3
    obtain ⟨z4, r4, _, w4⟩ := DataW.trod_int t4 q4
    simp at r0 r1 r2 r3 r4
    subst r0 r1 r2 r3 r4
    have b4 := bounds_u8 w4
    obtain ⟨hbase, _, hc⟩ := World.cells?_some h1
    have kk : ∀ k, k < 7 → w.cell? ⟨bb, off + i * 7 + k, none⟩ = [Value.int .i64 z0, .int .i64 z1, .int .i64 z2, .int .i64 z3, .int .u8 z4, v5, v6][k]? := by
      intro k hk
      have := hc k hk
      rw [Go.Deep.add_add, add_at, ← Nat.add_assoc] at this
      exact this
    obtain ⟨pb, hvb⟩ : ∃ pb, Rd w v5 pb := by
      rcases open_ints t5 tb cb q5 with ⟨hcs, _⟩ | ⟨x4, l4, c4, zs, hcs, _, hl4, hm4, hz, _, hcell, hwz⟩
      · simp at hcs
        subst hcs
        obtain ⟨p, _, hp⟩ := rd_row (w := w) (a := none) (len := 0) (cap := 0) (zs := []) (Or.inl ⟨rfl, rfl, rfl, rfl⟩)
        exact ⟨p, hp⟩
      · simp at hcs
        subst hcs
        obtain ⟨p, _, hp⟩ := rd_row (w := w) (a := some x4) (len := l4) (cap := c4) (zs := zs) (Or.inr ⟨x4, rfl, hl4, hm4, by simpa using hz, hcell, hwz⟩)
        exact ⟨p, hp⟩
    obtain ⟨ra, rl, rc, Lk, hcs, _, hvk⟩ := open_rows t6 ts ti ci cs1 q6
    simp at hcs
    subst hcs
    refine ⟨⟨z0, z1, z2, z3, UInt8.ofNat z4.toNat, v5, _, pb, Lk⟩, kk 0 (by omega), kk 1 (by omega), kk 2 (by omega), kk 3 (by omega), ?_, kk 5 (by omega), kk 6 (by omega), w0, w1, w2, w3, hvb, hvk⟩
    show w.cell? ⟨bb, off + i * 7 + 4, none⟩ = some (.int .u8 (((UInt8.ofNat z4.toNat).toNat : Nat) : Int))
    rw [kk 4 (by omega), ofNat_u8 (by omega)]
    simp
    omega
  obtain ⟨F, hF⟩ := Go.Deep.choose_lt each
  have hlen : ((List.range len).map F).length = len := by simp
  refine ⟨some ⟨bb, off, none⟩, len, cap, (List.range len).map F, rfl, hlen.symm, ?_⟩
  have hc0 := (hF 0 (by omega)).c0
  have hbw : bb < w.heap.size := by
    unfold World.cell? at hc0
    by_cases hb : bb < w.heap.size
    · exact hb
    · rw [Array.getElem?_eq_none (by show w.heap.size ≤ bb; omega)] at hc0; cases hc0
  refine Or.inr ⟨bb, off, cap, fun e => by rw [e] at hlen; simp at hlen; omega, by rw [hlen], by rw [hlen]; omega, hbw, fun i hi => ?_⟩
  rw [hlen] at hi
  have e1 : ((List.range len).map F).getD i default = F i := by simp [List.getD, hi]
  rw [e1]
  exact hF i hi
end
end Go.Proofs.Ytgahaebfgmbckaa.Gf

namespace Go.Proofs.Ytgahaebfgmbckaa.Gf
set_option linter.unusedVariables false
set_option linter.unusedSimpArgs false
open Go.RowKit
/-- an array: its disks, their births, what is left (below 0: no crash is to come), whether it is down -/
structure ArS where
  D : List DkS
  B : List Int
  left : Int
  off : Bool
instance : Inhabited DkS := ⟨newD 1⟩
structure ArS.Ok (a : ArS) : Prop where
  d1 : 1 ≤ a.D.length
  d2 : a.D.length ≤ 32
  b : a.B.length = a.D.length
  each : ∀ d ∈ a.D, d.Ok
  l : a.off = false → a.left ≠ 0
def newA (n s : Nat) : ArS := ⟨List.replicate n (newD s), List.replicate n 0, -1, false⟩
theorem newA_ok {n s : Nat} (h1 : 1 ≤ n) (h2 : n ≤ 32) (h3 : 1 ≤ s) (h4 : s ≤ 4096) : (newA n s).Ok :=
  ⟨by simp [newA]; omega, by simp [newA]; omega, by simp [newA], fun d hd => by rw [List.eq_of_mem_replicate hd]; exact newD_ok h3 h4, fun _ => by simp [newA]⟩
/-- is there such a disk? -/
def thA (a : ArS) (i : Int) : Prop := 0 ≤ i ∧ i < (a.D.length : Int)
instance (a : ArS) (i : Int) : Decidable (thA a i) := inferInstanceAs (Decidable (_ ∧ _))
def diA (a : ArS) (i : Int) : DkS := a.D.getD i.toNat default
def setA (a : ArS) (i : Int) (d : DkS) : ArS := { a with D := a.D.set i.toNat d }
theorem di_mem {a : ArS} {i : Int} (h : thA a i) : diA a i ∈ a.D := by
  have hl : i.toNat < a.D.length := by have := h.2; have := h.1; omega
  unfold diA
  rw [show a.D.getD i.toNat default = a.D[i.toNat] by simp [List.getD, hl]]
  exact List.getElem_mem hl
theorem setA_ok {a : ArS} (h : a.Ok) {i : Int} {d : DkS} (hd : d.Ok) : (setA a i d).Ok :=
  ⟨by simp [setA]; exact h.d1, by simp [setA]; exact h.d2, by simp [setA]; exact h.b, fun e he => by
    rcases List.mem_or_eq_of_mem_set he with h1 | h1
    · exact h.each e h1
    · rw [h1]; exact hd, h.l⟩
def caA (a : ArS) (n : Int) : ArS := if a.off = true then a else { a with left := if 0 ≤ n then n else -1, off := decide (n = 0) }
theorem caA_ok {a : ArS} (h : a.Ok) (n : Int) : (caA a n).Ok := by
  unfold caA
  split
  · exact h
  · refine ⟨h.d1, h.d2, h.b, h.each, fun e => ?_⟩
    have e' : ¬ n = 0 := by simpa using e
    show (if 0 ≤ n then n else -1) ≠ 0
    split <;> omega
/-- behind a write that was done -/
def tickA (a : ArS) : ArS := if 0 < a.left then { a with left := a.left - 1, off := decide (a.left - 1 = 0) } else a
theorem tickA_ok {a : ArS} (h : a.Ok) : (tickA a).Ok := by
  unfold tickA
  split
  · exact ⟨h.d1, h.d2, h.b, h.each, fun e => by simpa using e⟩
  · exact h
def wrAX (a : ArS) (i ad : Int) (b : List UInt8) : Int := if a.off = true then 130 else if thA a i then wrX (diA a i) ad b else 1
def wrAS (a : ArS) (i ad : Int) (b : List UInt8) : ArS := if a.off = true then a else if thA a i then (if wrX (diA a i) ad b = 0 then tickA (setA a i (wrS (diA a i) ad b)) else a) else a
theorem wrAS_ok {a : ArS} (h : a.Ok) (i ad : Int) (b : List UInt8) : (wrAS a i ad b).Ok := by
  unfold wrAS
  split
  · exact h
  split
  · rename_i h2
    split
    · exact tickA_ok (setA_ok h (wrS_ok (h.each _ (di_mem h2)) ad b))
    · exact h
  · exact h
def rdAX (a : ArS) (i ad : Int) : Int := if a.off = true then 130 else if thA a i then faX (diA a i) ad else 1
def rdAB (a : ArS) (i ad : Int) : List UInt8 := if a.off = true then [] else if thA a i then rdB (diA a i) ad else []
def flAX (a : ArS) : Int := if a.off = true then 130 else 0
def flAS (a : ArS) : ArS := if a.off = true then a else { a with D := a.D.map flS }
theorem flAS_ok {a : ArS} (h : a.Ok) : (flAS a).Ok := by
  unfold flAS
  split
  · exact h
  · exact ⟨by simpa using h.d1, by simpa using h.d2, by simpa using h.b, fun d hd => by
      obtain ⟨e, he, rfl⟩ := List.mem_map.1 hd
      exact flS_ok (h.each e he), h.l⟩
/-- the power comes -/
def reAS (a : ArS) (K : List (List Int)) : ArS := { a with D := a.D.mapIdx (fun i d => crS d (K.getD i [])), left := -1, off := false }
theorem reAS_ok {a : ArS} (h : a.Ok) (K : List (List Int)) : (reAS a K).Ok :=
  ⟨by simpa [reAS] using h.d1, by simpa [reAS] using h.d2, by simpa [reAS] using h.b, fun d hd => by
    obtain ⟨i, hi, rfl⟩ := List.mem_mapIdx.1 hd
    exact crS_ok (h.each _ (List.getElem_mem hi)) _, fun _ => by simp [reAS]⟩
def bornA (a : ArS) (i : Int) : ArS := { a with B := a.B.set i.toNat (IntKind.i64.wrap (a.B.getD i.toNat 0 + 1)) }
theorem bornA_ok {a : ArS} (h : a.Ok) (i : Int) : (bornA a i).Ok := ⟨h.d1, h.d2, by simp [bornA]; exact h.b, h.each, h.l⟩
def thX (a : ArS) (i : Int) : Int := if thA a i then 0 else 1
def faAS (a : ArS) (i : Int) : ArS := if thA a i then bornA (setA a i (faS (diA a i))) i else a
def rpAS (a : ArS) (i : Int) : ArS := if thA a i then bornA (setA a i (reS (diA a i))) i else a
theorem faAS_ok {a : ArS} (h : a.Ok) (i : Int) : (faAS a i).Ok := by
  unfold faAS
  split
  · rename_i h2; exact bornA_ok (setA_ok h (faS_ok (h.each _ (di_mem h2)))) i
  · exact h
theorem rpAS_ok {a : ArS} (h : a.Ok) (i : Int) : (rpAS a i).Ok := by
  unfold rpAS
  split
  · rename_i h2; exact bornA_ok (setA_ok h (reS_ok (h.each _ (di_mem h2)))) i
  · exact h
def coAX (a : ArS) (i ad : Int) : Int := if thA a i then coX (diA a i) ad else 1
def coAS (a : ArS) (i ad at_ : Int) (y : UInt8) : ArS := if thA a i then setA a i (coS (diA a i) ad at_ y) else a
theorem coAS_ok {a : ArS} (h : a.Ok) (i ad at_ : Int) (y : UInt8) : (coAS a i ad at_ y).Ok := by
  unfold coAS
  split
  · rename_i h2; exact setA_ok h (coS_ok (h.each _ (di_mem h2)) ad at_ y)
  · exact h
/-- a script -/
def smallA (c : CallA) : Prop := c.b.length ≤ 4200 ∧ c.keep.length ≤ 40 ∧ ∀ r ∈ c.keep, r.2.length ≤ 100
instance (c : CallA) : Decidable (smallA c) := inferInstanceAs (Decidable (_ ∧ _ ∧ _))
def playA (a : ArS) (c : CallA) : ArS :=
  if c.kind = 1 then wrAS a c.d c.n c.b else if c.kind = 3 then flAS a else if c.kind = 4 then caA a c.n else if c.kind = 5 then reAS a (c.keep.map (·.2)) else if c.kind = 6 then faAS a c.d else if c.kind = 7 then rpAS a c.d else if c.kind = 8 then coAS a c.d c.n c.m c.by8 else a
def stepA (a : ArS) (c : CallA) : ArS := if smallA c then playA a c else a
def runA (a : ArS) (L : List CallA) : ArS := L.foldl stepA a
theorem runA_take {L : List CallA} {a : ArS} {k : Nat} (h : k < L.length) : runA a (L.take (k + 1)) = stepA (runA a (L.take k)) (L.getD k default) := by
  unfold runA
  rw [List.take_add_one, List.foldl_append, List.getElem?_eq_getElem h]
  simp [List.getD, h]
end Go.Proofs.Ytgahaebfgmbckaa.Gf

namespace Go.Proofs.Ytgahaebfgmbckaa.Gf
set_option linter.unusedVariables false
set_option linter.unusedSimpArgs false
open Go.RowKit
theorem tickA_D (a : ArS) : (tickA a).D = a.D := by unfold tickA; split <;> rfl
theorem caA_D (a : ArS) (n : Int) : (caA a n).D = a.D := by unfold caA; split <;> rfl
theorem playA_len (a : ArS) (c : CallA) : (playA a c).D.length = a.D.length := by
  unfold playA
  split
  · unfold wrAS
    split
    · rfl
    split
    · split
      · rw [tickA_D]; simp [setA]
      · rfl
    · rfl
  split
  · unfold flAS; split <;> simp
  split
  · rw [caA_D]
  split
  · simp [reAS]
  split
  · unfold faAS; split <;> simp [bornA, setA]
  split
  · unfold rpAS; split <;> simp [bornA, setA]
  split
  · unfold coAS; split <;> simp [setA]
  · rfl
theorem stepA_len (a : ArS) (c : CallA) : (stepA a c).D.length = a.D.length := by
  unfold stepA
  split
  · exact playA_len a c
  · rfl
theorem runA_len (L : List CallA) (a : ArS) : (runA a L).D.length = a.D.length := by
  unfold runA
  induction L generalizing a with
  | nil => rfl
  | cons c L ih => exact (ih _).trans (stepA_len a c)
/-- a restart, disk by disk -/
theorem re_at {a : ArS} {K : List (List Int)} {i : Nat} (hi : i < a.D.length) : (reAS a K).D.getD i default = crS (a.D.getD i default) (K.getD i []) := by simp [reAS, List.getD, hi]
end Go.Proofs.Ytgahaebfgmbckaa.Gf

namespace Go.Proofs.Ytgahaebfgmbckaa.Gf
set_option linter.unusedVariables false
set_option linter.unusedSimpArgs false
section
variable {a : ArS} {i ad : Int} {b : List UInt8}
theorem faX_in (d : DkS) (x : Int) : faX d x = 0 ∨ faX d x = 120 ∨ faX d x = 121 := by
  unfold faX
  split
  · exact Or.inr (Or.inl rfl)
  · split
    · exact Or.inl rfl
    · exact Or.inr (Or.inr rfl)
theorem wrAX_crash {i ad : Int} {b : List UInt8} : wrAX a i ad b = 130 ↔ a.off = true := by
  unfold wrAX
  cases h : a.off
  · rw [if_neg (by decide)]
    refine ⟨fun e => ?_, fun e => by cases e⟩
    exfalso
    split at e
    · unfold wrX at e
      rcases faX_in (diA a i) ad with q | q | q <;> rw [q] at e
      · rw [if_pos rfl] at e
        split at e <;> cases e
      · rw [if_neg (by decide)] at e; cases e
      · rw [if_neg (by decide)] at e; cases e
    · cases e
  · rw [if_pos rfl]
    exact ⟨fun _ => rfl, fun _ => rfl⟩
/-- the power is there, and no crash is to come -/
def Calm (a : ArS) : Prop := a.off = false ∧ ¬ 0 < a.left
theorem calm_new (n s : Nat) : Calm (newA n s) := ⟨rfl, by show ¬ (0 : Int) < -1; omega⟩
theorem setA_len (d : DkS) : (setA a i d).D.length = a.D.length := by simp [setA]
theorem diA_set (hi : thA a i) (d : DkS) {j : Int} (hj : 0 ≤ j) : diA (setA a i d) j = if j = i then d else diA a j := by
  have hl : i.toNat < a.D.length := by have := hi.1; have := hi.2; omega
  unfold diA setA
  show (a.D.set i.toNat d).getD j.toNat default = _
  by_cases e : j = i
  · rw [if_pos e, e]
    simp [List.getD, hl]
  · rw [if_neg e]
    have hn : i.toNat ≠ j.toNat := by have := hi.1; omega
    simp [List.getD, List.getElem?_set, hn]
theorem wr_set (hc : Calm a) (ht : thA a i) (h : wrX (diA a i) ad b = 0) : wrAX a i ad b = 0 ∧ wrAS a i ad b = setA a i (wrS (diA a i) ad b) := by
  refine ⟨?_, ?_⟩
  · unfold wrAX
    rw [if_neg (by rw [hc.1]; decide), if_pos ht, h]
  · unfold wrAS tickA
    rw [if_neg (by rw [hc.1]; decide), if_pos ht, if_pos h]
    exact if_neg hc.2
theorem rd_at (ho : a.off = false) (ht : thA a i) : rdAB a i ad = rdB (diA a i) ad := by
  unfold rdAB
  rw [if_neg (by rw [ho]; decide), if_pos ht]
theorem wrX_ok {d : DkS} (hd : d.dead = false) (h0 : 0 ≤ ad) (h1 : ad < (d.s : Int)) (hb : OkB b) : wrX d ad b = 0 := by
  unfold wrX
  rw [if_pos (faX_ok hd ⟨h0, h1⟩), if_pos hb]
theorem wrS_at {d : DkS} (hd : d.dead = false) (h0 : 0 ≤ ad) (h1 : ad < (d.s : Int)) (hb : OkB b) : wrS d ad b = { d with wait := putB d.wait ad b } := if_pos ⟨faX_ok hd ⟨h0, h1⟩, hb⟩
theorem rdB_wr {d : DkS} (hd : d.dead = false) (h0 : 0 ≤ ad) (h1 : ad < (d.s : Int)) (hb : OkB b) (x : Int) : rdB (wrS d ad b) x = if x = ad then b else rdB d x := by
  rw [wrS_at hd h0 h1 hb]
  by_cases e : x = ad
  · rw [if_pos e, e]
    unfold rdB
    have e1 : faX ({ d with wait := putB d.wait ad b } : DkS) ad = 0 := faX_ok (d := { d with wait := putB d.wait ad b }) hd ⟨h0, h1⟩
    rw [if_pos e1]
    simp [atD, putB]
  · rw [if_neg e]
    have e1 : faX ({ d with wait := putB d.wait ad b } : DkS) x = faX d x := rfl
    have e2 : atD ({ d with wait := putB d.wait ad b } : DkS) x = atD d x := by simp [atD, putB, e]
    unfold rdB
    rw [e1, e2]
theorem wrS_dead {d : DkS} : (wrS d ad b).dead = d.dead := by unfold wrS; split <;> rfl
/-- a disk that is hurt: it fails (0), is replaced (1), or has a byte changed -/
def hdD (kind ad at_ : Int) (d : DkS) : DkS := if kind = 0 then faS d else if kind = 1 then reS d else coS d ad at_ 1
def hdA (kind ad at_ : Int) (a : ArS) (d : Int) : ArS := if kind = 0 then faAS a d else if kind = 1 then rpAS a d else coAS a d ad at_ 1
theorem hd_calm {kind ad at_ d : Int} (hc : Calm a) : Calm (hdA kind ad at_ a d) := by
  unfold hdA faAS rpAS coAS
  split
  · split
    · exact hc
    · exact hc
  · split
    · split
      · exact hc
      · exact hc
    · split
      · exact hc
      · exact hc
theorem hd_len {kind ad at_ d : Int} : (hdA kind ad at_ a d).D.length = a.D.length := by
  unfold hdA faAS rpAS coAS
  split
  · split
    · exact setA_len _
    · rfl
  · split
    · split
      · exact setA_len _
      · rfl
    · split
      · exact setA_len _
      · rfl
theorem diA_born {d j : Int} : diA (bornA a d) j = diA a j := rfl
theorem hd_di {kind ad at_ d j : Int} (ht : thA a d) (hj : 0 ≤ j) : diA (hdA kind ad at_ a d) j = if j = d then hdD kind ad at_ (diA a d) else diA a j := by
  unfold hdA faAS rpAS coAS hdD
  by_cases k0 : kind = 0
  · rw [if_pos k0, if_pos ht, if_pos k0, diA_born, diA_set ht _ hj]
  · rw [if_neg k0, if_neg k0]
    by_cases k1 : kind = 1
    · rw [if_pos k1, if_pos ht, if_pos k1, diA_born, diA_set ht _ hj]
    · rw [if_neg k1, if_neg k1, if_pos ht, diA_set ht _ hj]
theorem hdD_s {kind ad at_ : Int} {d : DkS} : (hdD kind ad at_ d).s = d.s := by
  unfold hdD
  split
  · rfl
  · split
    · rfl
    · exact coS_s _ _ _ _
theorem coS_dead {d : DkS} {ad at_ : Int} {y : UInt8} : (coS d ad at_ y).dead = d.dead := by
  unfold coS
  split
  · split
    · rfl
    · split <;> rfl
  · rfl
theorem hdD_dead {kind ad at_ : Int} {d : DkS} (hd : d.dead = false) : (hdD kind ad at_ d).dead = decide (kind = 0) := by
  unfold hdD
  by_cases k0 : kind = 0
  · rw [if_pos k0, decide_eq_true k0]; rfl
  · rw [if_neg k0, decide_eq_false k0]
    split
    · rfl
    · rw [coS_dead]; exact hd
theorem rdB_co {d : DkS} {ad at_ : Int} {y : UInt8} {b : List UInt8} (hf : faX d ad = 0) (h : atD d ad = some b) : rdB (coS d ad at_ y) ad = chB b at_ y := by
  have hf' : ∀ e : DkS, e.dead = d.dead → e.s = d.s → faX e ad = 0 := fun e e1 e2 => by
    have := hf
    unfold faX at this ⊢
    rw [e1, e2]
    exact this
  unfold rdB
  rw [if_pos (hf' _ coS_dead (coS_s _ _ _ _))]
  unfold atD at h
  cases e : d.wait ad with
  | some c =>
    rw [e] at h
    have : c = b := by simpa using h
    subst this
    unfold coS
    rw [if_pos hf, e]
    simp [atD, putB]
  | none =>
    rw [e] at h
    have h' : d.last ad = some b := h
    unfold coS
    rw [if_pos hf, e, h']
    simp [atD, putB, e]
theorem rdB_some {d : DkS} {ad : Int} {b : List UInt8} (h : rdB d ad = b) (hb : b ≠ []) : faX d ad = 0 ∧ atD d ad = some b := by
  unfold rdB at h
  by_cases e : faX d ad = 0
  · rw [if_pos e] at h
    refine ⟨e, ?_⟩
    cases q : atD d ad with
    | none => rw [q] at h; exact absurd h.symm hb
    | some c => rw [q] at h; rw [show c = b from h]
  · rw [if_neg e] at h
    exact absurd h.symm hb
end
end Go.Proofs.Ytgahaebfgmbckaa.Gf
