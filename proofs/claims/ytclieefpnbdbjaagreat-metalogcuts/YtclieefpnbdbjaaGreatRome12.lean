/- TEXTS JOINED: ArCall, ArMath, ArLawM, ArCalm, ArAt. -/
import Derived.Lib.SmallJoins
import Derived.Test.YtclieefpnbdbjaaGreatRome9
namespace Go.Proofs.YtclieefpnbdbjaaGreat.Gf
set_option linter.unusedVariables false
set_option linter.unusedSimpArgs false
open Go.RowKit
open Go.ChangeShapes
/-- a row of integers, with its slice -/
abbrev VI := Value × List Int
instance : Inhabited VI := ⟨(.slice none 0 0, [])⟩
structure RowAt (w : World) (b off : Nat) (r : VI) : Prop where
  c : w.cell? ⟨b, off, none⟩ = some r.1
  rd : RdI w r.1 r.2
  wf : ∀ z ∈ r.2, (Lit.int .i64 z).wf = true
def RdII (w : World) (v : Value) (L : List VI) : Prop :=
  (∃ ao cap, L = [] ∧ v = .slice ao 0 cap) ∨ (∃ b off cap, L ≠ [] ∧ v = .slice (some ⟨b, off, none⟩) L.length cap ∧ L.length ≤ maxLen ∧ b < w.heap.size ∧ ∀ i, i < L.length → RowAt w b (off + i) (L.getD i default))
theorem RdII.below {w w' : World} {v : Value} {L : List VI} (h : RdII w v L) (hb : Below w.heap.size w w') : RdII w' v L := by
  rcases h with h | ⟨b, off, cap, h1, h2, h3, h4, h5⟩
  · exact Or.inl h
  · refine Or.inr ⟨b, off, cap, h1, h2, h3, Nat.lt_of_lt_of_le h4 hb.size, fun i hi => ?_⟩
    have h6 := h5 i hi
    exact ⟨(hb.cell (p := ⟨b, off + i, none⟩) h4).trans h6.c, h6.rd.below hb, h6.wf⟩
theorem RdII.form {w : World} {v : Value} {L : List VI} (h : RdII w v L) : ∃ a c, v = .slice a L.length c := by
  rcases h with ⟨a, c, rfl, rfl⟩ | ⟨b, off, c, _, rfl, _⟩
  · exact ⟨a, c, rfl⟩
  · exact ⟨_, c, rfl⟩
theorem RdII.lenEq {w : World} {a : Option Addr} {len cap : Nat} {L : List VI} (h : RdII w (.slice a len cap) L) : len = L.length := by
  obtain ⟨_, _, e⟩ := h.form
  simp at e
  exact e.2.1
theorem RdII.at {w : World} {a : Option Addr} {c : Nat} {L : List VI} (h : RdII w (.slice a L.length c) L) {k : Nat} (hk : k < L.length) : ∃ b off, a = some ⟨b, off, none⟩ ∧ b < w.heap.size ∧ RowAt w b (off + k) (L.getD k default) := by
  rcases h with ⟨_, _, h1, _⟩ | ⟨b, off, c, h1, h2, h3, h4, h5⟩
  · rw [h1] at hk; simp at hk
  · simp at h2
    exact ⟨b, off, h2.1, h4, h5 k hk⟩
section
variable {H : Type} {enc : TypeId × Value → H} {P : Program} {w : World} {base : Nat} {held : Bool}
/-- an argument of type [][]int -/
theorem open_rows {t s i : TypeId} {fuel : Nat} {cs : List Value} {x : DataW H × List MemPlace} (ht : P.underlying t = some (.slice s)) (hs : P.underlying s = some (.slice i)) (hi : P.underlying i = some (.int .i64)) (ci : P.cellsOf i = 1) (cs1 : P.cellsOf s = 1)
    (h : DataW.trod enc P w base (fun _ => true) held fuel t cs = some x) : ∃ a len cap L, cs = [.slice a len cap] ∧ len = L.length ∧ RdII w (.slice a len cap) L := by
  rcases Go.Deep.open_slice ht h with ⟨rfl, _⟩ | ⟨a, len, cap, m, n, D, Pl, rfl, hb, hl, hm, hmm, rfl, hx⟩
  · exact ⟨none, 0, 0, [], rfl, rfl, Or.inl ⟨none, 0, rfl, rfl⟩⟩
  simp only [if_true] at hmm
  by_cases hl0 : len = 0
  · subst hl0
    exact ⟨some a, 0, cap, [], rfl, rfl, Or.inl ⟨_, _, rfl, rfl⟩⟩
  obtain ⟨bb, off, spot⟩ := a
  have hspot : spot = none := by
    obtain ⟨cs', h1, _⟩ := hx 0 (by omega)
    rw [cs1] at h1
    have hc := World.cells?_some h1
    have h2 := hc.2.2 0 (by omega)
    obtain ⟨v, hv⟩ : ∃ v, cs'[0]? = some v := ⟨cs'[0]'(by omega), List.getElem?_eq_getElem (by omega)⟩
    rw [hv] at h2
    have := World.cell?_spot h2
    simpa [Addr.add] using this
  subst hspot
  have each : ∀ j, j < len → ∃ r : VI, RowAt w bb (off + j) r := by
    intro j hj
    obtain ⟨cs', h1, h2⟩ := hx j (by omega)
    rw [cs1] at h1
    obtain ⟨_, hlen, hc⟩ := World.cells?_some h1
    obtain ⟨v, rfl⟩ : ∃ v, cs' = [v] := by
      match cs', hlen with
      | [v], _ => exact ⟨v, rfl⟩
    have hcell : w.cell? ⟨bb, off + j, none⟩ = some v := by
      have := hc 0 (by omega)
      rw [Go.Deep.add_add, add_at] at this
      simpa using this
    rcases open_ints hs hi ci h2 with ⟨hcs, _⟩ | ⟨x5, l5, c5, zs, hcs, _, hl5, hm5, hz, _, hcell5, hwz⟩
    · simp at hcs
      subst hcs
      exact ⟨(.slice none 0 0, []), hcell, Or.inl ⟨none, 0, rfl, rfl⟩, by simp⟩
    · simp at hcs
      subst hcs
      obtain ⟨p, hp, hw⟩ := rdI_row2 (w := w) (a := some x5) (len := l5) (cap := c5) (zs := zs) (Or.inr ⟨x5, rfl, hl5, hm5, by simpa using hz, hcell5, hwz⟩)
      exact ⟨(_, p), hcell, hp, hw⟩
  obtain ⟨F, hF⟩ := Go.Deep.choose_lt each
  have hlen : ((List.range len).map F).length = len := by simp
  refine ⟨some ⟨bb, off, none⟩, len, cap, (List.range len).map F, rfl, hlen.symm, ?_⟩
  have hc0 := (hF 0 (by omega)).c
  have hbw : bb < w.heap.size := by
    unfold World.cell? at hc0
    by_cases hb : bb < w.heap.size
    · exact hb
    · rw [Array.getElem?_eq_none (by show w.heap.size ≤ bb; omega)] at hc0; cases hc0
  refine Or.inr ⟨bb, off, cap, fun e => by rw [e] at hlen; simp at hlen; omega, by rw [hlen], by rw [hlen]; omega, hbw, fun j hj => ?_⟩
  rw [hlen] at hj
  have e1 : ((List.range len).map F).getD j default = F j := by simp [List.getD, hj]
  rw [e1]
  exact hF j hj
end
end Go.Proofs.YtclieefpnbdbjaaGreat.Gf

namespace Go.Proofs.YtclieefpnbdbjaaGreat.Gf
set_option linter.unusedVariables false
set_option linter.unusedSimpArgs false
open Go.RowKit
/-- an array: its disks, their births, what is left (below 0: no crash is to come), whether it is down -/
structure ArS where
  D : List DkS
  B : List Int
  left : Int
  off : Bool
instance : Inhabited DkS := ⟨newD 1⟩
structure ArS.Ok (a : ArS) : Prop where
  d1 : 1 ≤ a.D.length
  d2 : a.D.length ≤ 32
  b : a.B.length = a.D.length
  each : ∀ d ∈ a.D, d.Ok
  l : a.off = false → a.left ≠ 0
def newA (n s : Nat) : ArS := ⟨List.replicate n (newD s), List.replicate n 0, -1, false⟩
theorem newA_ok {n s : Nat} (h1 : 1 ≤ n) (h2 : n ≤ 32) (h3 : 1 ≤ s) (h4 : s ≤ 4096) : (newA n s).Ok :=
  ⟨by simp [newA]; omega, by simp [newA]; omega, by simp [newA], fun d hd => by rw [List.eq_of_mem_replicate hd]; exact newD_ok h3 h4, fun _ => by simp [newA]⟩
/-- is there such a disk? -/
def thA (a : ArS) (i : Int) : Prop := 0 ≤ i ∧ i < (a.D.length : Int)
instance (a : ArS) (i : Int) : Decidable (thA a i) := inferInstanceAs (Decidable (_ ∧ _))
def diA (a : ArS) (i : Int) : DkS := a.D.getD i.toNat default
def setA (a : ArS) (i : Int) (d : DkS) : ArS := { a with D := a.D.set i.toNat d }
theorem di_mem {a : ArS} {i : Int} (h : thA a i) : diA a i ∈ a.D := by
  have hl : i.toNat < a.D.length := by have := h.2; have := h.1; omega
  unfold diA
  rw [show a.D.getD i.toNat default = a.D[i.toNat] by simp [List.getD, hl]]
  exact List.getElem_mem hl
theorem setA_ok {a : ArS} (h : a.Ok) {i : Int} {d : DkS} (hd : d.Ok) : (setA a i d).Ok :=
  ⟨by simp [setA]; exact h.d1, by simp [setA]; exact h.d2, by simp [setA]; exact h.b, fun e he => by
    rcases List.mem_or_eq_of_mem_set he with h1 | h1
    · exact h.each e h1
    · rw [h1]; exact hd, h.l⟩
def caA (a : ArS) (n : Int) : ArS := if a.off = true then a else { a with left := if 0 ≤ n then n else -1, off := decide (n = 0) }
theorem caA_ok {a : ArS} (h : a.Ok) (n : Int) : (caA a n).Ok := by
  unfold caA
  split
  · exact h
  · refine ⟨h.d1, h.d2, h.b, h.each, fun e => ?_⟩
    have e' : ¬ n = 0 := by simpa using e
    show (if 0 ≤ n then n else -1) ≠ 0
    split <;> omega
/-- behind a write that was done -/
def tickA (a : ArS) : ArS := if 0 < a.left then { a with left := a.left - 1, off := decide (a.left - 1 = 0) } else a
theorem tickA_ok {a : ArS} (h : a.Ok) : (tickA a).Ok := by
  unfold tickA
  split
  · exact ⟨h.d1, h.d2, h.b, h.each, fun e => by simpa using e⟩
  · exact h
def wrAX (a : ArS) (i ad : Int) (b : List UInt8) : Int := if a.off = true then 130 else if thA a i then wrX (diA a i) ad b else 1
def wrAS (a : ArS) (i ad : Int) (b : List UInt8) : ArS := if a.off = true then a else if thA a i then (if wrX (diA a i) ad b = 0 then tickA (setA a i (wrS (diA a i) ad b)) else a) else a
theorem wrAS_ok {a : ArS} (h : a.Ok) (i ad : Int) (b : List UInt8) : (wrAS a i ad b).Ok := by
  unfold wrAS
  split
  · exact h
  split
  · rename_i h2
    split
    · exact tickA_ok (setA_ok h (wrS_ok (h.each _ (di_mem h2)) ad b))
    · exact h
  · exact h
def rdAX (a : ArS) (i ad : Int) : Int := if a.off = true then 130 else if thA a i then faX (diA a i) ad else 1
def rdAB (a : ArS) (i ad : Int) : List UInt8 := if a.off = true then [] else if thA a i then rdB (diA a i) ad else []
def flAX (a : ArS) : Int := if a.off = true then 130 else 0
def flAS (a : ArS) : ArS := if a.off = true then a else { a with D := a.D.map flS }
theorem flAS_ok {a : ArS} (h : a.Ok) : (flAS a).Ok := by
  unfold flAS
  split
  · exact h
  · exact ⟨by simpa using h.d1, by simpa using h.d2, by simpa using h.b, fun d hd => by
      obtain ⟨e, he, rfl⟩ := List.mem_map.1 hd
      exact flS_ok (h.each e he), h.l⟩
/-- the power comes -/
def reAS (a : ArS) (K : List (List Int)) : ArS := { a with D := a.D.mapIdx (fun i d => crS d (K.getD i [])), left := -1, off := false }
theorem reAS_ok {a : ArS} (h : a.Ok) (K : List (List Int)) : (reAS a K).Ok :=
  ⟨by simpa [reAS] using h.d1, by simpa [reAS] using h.d2, by simpa [reAS] using h.b, fun d hd => by
    obtain ⟨i, hi, rfl⟩ := List.mem_mapIdx.1 hd
    exact crS_ok (h.each _ (List.getElem_mem hi)) _, fun _ => by simp [reAS]⟩
def bornA (a : ArS) (i : Int) : ArS := { a with B := a.B.set i.toNat (IntKind.i64.wrap (a.B.getD i.toNat 0 + 1)) }
theorem bornA_ok {a : ArS} (h : a.Ok) (i : Int) : (bornA a i).Ok := ⟨h.d1, h.d2, by simp [bornA]; exact h.b, h.each, h.l⟩
def thX (a : ArS) (i : Int) : Int := if thA a i then 0 else 1
def faAS (a : ArS) (i : Int) : ArS := if thA a i then bornA (setA a i (faS (diA a i))) i else a
def rpAS (a : ArS) (i : Int) : ArS := if thA a i then bornA (setA a i (reS (diA a i))) i else a
theorem faAS_ok {a : ArS} (h : a.Ok) (i : Int) : (faAS a i).Ok := by
  unfold faAS
  split
  · rename_i h2; exact bornA_ok (setA_ok h (faS_ok (h.each _ (di_mem h2)))) i
  · exact h
theorem rpAS_ok {a : ArS} (h : a.Ok) (i : Int) : (rpAS a i).Ok := by
  unfold rpAS
  split
  · rename_i h2; exact bornA_ok (setA_ok h (reS_ok (h.each _ (di_mem h2)))) i
  · exact h
end Go.Proofs.YtclieefpnbdbjaaGreat.Gf

namespace Go.Proofs.YtclieefpnbdbjaaGreat.Gf
set_option linter.unusedVariables false
set_option linter.unusedSimpArgs false
open Go.RowKit
theorem tickA_D (a : ArS) : (tickA a).D = a.D := by unfold tickA; split <;> rfl
theorem caA_D (a : ArS) (n : Int) : (caA a n).D = a.D := by unfold caA; split <;> rfl
/-- a restart, disk by disk -/
theorem re_at {a : ArS} {K : List (List Int)} {i : Nat} (hi : i < a.D.length) : (reAS a K).D.getD i default = crS (a.D.getD i default) (K.getD i []) := by simp [reAS, List.getD, hi]
end Go.Proofs.YtclieefpnbdbjaaGreat.Gf

namespace Go.Proofs.YtclieefpnbdbjaaGreat.Gf
set_option linter.unusedVariables false
set_option linter.unusedSimpArgs false
section
variable {a : ArS} {i ad : Int} {b : List UInt8}
theorem faX_in (d : DkS) (x : Int) : faX d x = 0 ∨ faX d x = 120 ∨ faX d x = 121 := by
  unfold faX
  split
  · exact Or.inr (Or.inl rfl)
  · split
    · exact Or.inl rfl
    · exact Or.inr (Or.inr rfl)
theorem wrAX_crash {i ad : Int} {b : List UInt8} : wrAX a i ad b = 130 ↔ a.off = true := by
  unfold wrAX
  cases h : a.off
  · rw [if_neg (by decide)]
    refine ⟨fun e => ?_, fun e => by cases e⟩
    exfalso
    split at e
    · unfold wrX at e
      rcases faX_in (diA a i) ad with q | q | q <;> rw [q] at e
      · rw [if_pos rfl] at e
        split at e <;> cases e
      · rw [if_neg (by decide)] at e; cases e
      · rw [if_neg (by decide)] at e; cases e
    · cases e
  · rw [if_pos rfl]
    exact ⟨fun _ => rfl, fun _ => rfl⟩
/-- the power is there, and no crash is to come -/
def Calm (a : ArS) : Prop := a.off = false ∧ ¬ 0 < a.left
theorem calm_new (n s : Nat) : Calm (newA n s) := ⟨rfl, by show ¬ (0 : Int) < -1; omega⟩
theorem setA_len (d : DkS) : (setA a i d).D.length = a.D.length := by simp [setA]
theorem diA_set (hi : thA a i) (d : DkS) {j : Int} (hj : 0 ≤ j) : diA (setA a i d) j = if j = i then d else diA a j := by
  have hl : i.toNat < a.D.length := by have := hi.1; have := hi.2; omega
  unfold diA setA
  show (a.D.set i.toNat d).getD j.toNat default = _
  by_cases e : j = i
  · rw [if_pos e, e]
    simp [List.getD, hl]
  · rw [if_neg e]
    have hn : i.toNat ≠ j.toNat := by have := hi.1; omega
    simp [List.getD, List.getElem?_set, hn]
theorem wr_set (hc : Calm a) (ht : thA a i) (h : wrX (diA a i) ad b = 0) : wrAX a i ad b = 0 ∧ wrAS a i ad b = setA a i (wrS (diA a i) ad b) := by
  refine ⟨?_, ?_⟩
  · unfold wrAX
    rw [if_neg (by rw [hc.1]; decide), if_pos ht, h]
  · unfold wrAS tickA
    rw [if_neg (by rw [hc.1]; decide), if_pos ht, if_pos h]
    exact if_neg hc.2
theorem rd_at (ho : a.off = false) (ht : thA a i) : rdAB a i ad = rdB (diA a i) ad := by
  unfold rdAB
  rw [if_neg (by rw [ho]; decide), if_pos ht]
theorem wrX_ok {d : DkS} (hd : d.dead = false) (h0 : 0 ≤ ad) (h1 : ad < (d.s : Int)) (hb : OkB b) : wrX d ad b = 0 := by
  unfold wrX
  rw [if_pos (faX_ok hd ⟨h0, h1⟩), if_pos hb]
theorem wrS_at {d : DkS} (hd : d.dead = false) (h0 : 0 ≤ ad) (h1 : ad < (d.s : Int)) (hb : OkB b) : wrS d ad b = { d with wait := putB d.wait ad b } := if_pos ⟨faX_ok hd ⟨h0, h1⟩, hb⟩
theorem diA_born {d j : Int} : diA (bornA a d) j = diA a j := rfl
theorem rdB_some {d : DkS} {ad : Int} {b : List UInt8} (h : rdB d ad = b) (hb : b ≠ []) : faX d ad = 0 ∧ atD d ad = some b := by
  unfold rdB at h
  by_cases e : faX d ad = 0
  · rw [if_pos e] at h
    refine ⟨e, ?_⟩
    cases q : atD d ad with
    | none => rw [q] at h; exact absurd h.symm hb
    | some c => rw [q] at h; rw [show c = b from h]
  · rw [if_neg e] at h
    exact absurd h.symm hb
end
end Go.Proofs.YtclieefpnbdbjaaGreat.Gf

namespace Go.Proofs.YtclieefpnbdbjaaGreat.Gf
set_option linter.unusedVariables false
set_option linter.unusedSimpArgs false
open Go.RowKit
/-- what is left, as the program keeps it -/
def leC (l : Int) : Int := if 0 < l then l else 0
structure ArM (w : World) (ab mb : Nat) (db : Nat → Nat) (GD : Nat → Nat → Prop) (GA : Nat → Prop) (a : ArS) : Prop where
  c0 : w.cell? ⟨ab, 0, none⟩ = some (.slice (some ⟨mb, 0, none⟩) a.D.length a.D.length)
  c1 : w.cell? ⟨ab, 1, none⟩ = some (.int .i64 (leC a.left))
  c2 : w.cell? ⟨ab, 2, none⟩ = some (.bool a.off)
  f1 : w.frozen? ⟨ab, 1, none⟩ = false
  f2 : w.frozen? ⟨ab, 2, none⟩ = false
  m0 : ∀ i, i < a.D.length → w.cell? ⟨mb, i * 2, none⟩ = some (.pointer (some ⟨db i, 0, none⟩))
  m1 : ∀ i, i < a.D.length → w.cell? ⟨mb, i * 2 + 1, none⟩ = some (.int .i64 (a.B.getD i 0))
  fm : ∀ i, i < a.D.length → w.frozen? ⟨mb, i * 2 + 1, none⟩ = false
  dk : ∀ i, i < a.D.length → DiskAt w (db i) (GD i) (a.D.getD i default)
  sep : ∀ i j, i < a.D.length → j < a.D.length → i ≠ j → ∀ k, GD i k → ¬ GD j k
  sa : ∀ i, i < a.D.length → ¬ GD i ab ∧ ¬ GD i mb
  ne : ab ≠ mb
  ga : GA ab
  gm : GA mb
  gd : ∀ i, i < a.D.length → ∀ k, GD i k → GA k
  lt : ∀ k, GA k → k < w.heap.size
  d1 : 1 ≤ a.D.length
  d2 : a.D.length ≤ 32
  b : a.B.length = a.D.length
  wl : (Lit.int .i64 a.left).wf = true
def ArIn (w : World) (ab mb : Nat) (db : Nat → Nat) (GD : Nat → Nat → Prop) (GA : Nat → Prop) (a : ArS) : Prop := ArM w ab mb db GD GA a ∧ a.Ok
def ArAt (w : World) (ab : Nat) (GA : Nat → Prop) (a : ArS) : Prop := ∃ mb db GD, ArIn w ab mb db GD GA a
/-- what a call on an array leaves -/
def LeavesA (w : World) (ab : Nat) (GA : Nat → Prop) (a' : ArS) (x : Value) (e : Ending) (w' : World) : Prop := e = .returned x ∧ ∃ GA', ArAt w' ab GA' a' ∧ Grew GA w GA' w'
section
variable {w w' : World} {ab mb : Nat} {db : Nat → Nat} {GD : Nat → Nat → Prop} {GA : Nat → Prop} {a : ArS}
theorem ArM.keep (h : ArM w ab mb db GD GA a) (hk : ∀ k, GA k → w'.heap[k]? = w.heap[k]?) (hs : w.heap.size ≤ w'.heap.size) : ArM w' ab mb db GD GA a where
  c0 := (World.cell?_of_block (w := w) (hk ab h.ga)).trans h.c0
  c1 := (World.cell?_of_block (w := w) (hk ab h.ga)).trans h.c1
  c2 := (World.cell?_of_block (w := w) (hk ab h.ga)).trans h.c2
  f1 := (World.frozen?_of_block (w := w) (hk ab h.ga)).trans h.f1
  f2 := (World.frozen?_of_block (w := w) (hk ab h.ga)).trans h.f2
  m0 := fun i hi => (World.cell?_of_block (w := w) (hk mb h.gm)).trans (h.m0 i hi)
  m1 := fun i hi => (World.cell?_of_block (w := w) (hk mb h.gm)).trans (h.m1 i hi)
  fm := fun i hi => (World.frozen?_of_block (w := w) (hk mb h.gm)).trans (h.fm i hi)
  dk := fun i hi => (h.dk i hi).keep (fun k hk2 => hk k (h.gd i hi k hk2)) hs
  sep := h.sep
  sa := h.sa
  ne := h.ne
  ga := h.ga
  gm := h.gm
  gd := h.gd
  lt := fun k hk2 => Nat.lt_of_lt_of_le (h.lt k hk2) hs
  d1 := h.d1
  d2 := h.d2
  b := h.b
  wl := h.wl
theorem ArM.below (h : ArM w ab mb db GD GA a) (hb : Below w.heap.size w w') : ArM w' ab mb db GD GA a := h.keep (fun k hk => hb.block k (h.lt k hk)) hb.size
theorem ArIn.below (h : ArIn w ab mb db GD GA a) (hb : Below w.heap.size w w') : ArIn w' ab mb db GD GA a := ⟨h.1.below hb, h.2⟩
theorem ArAt.below (h : ArAt w ab GA a) (hb : Below w.heap.size w w') : ArAt w' ab GA a := by
  obtain ⟨mb, db, GD, h⟩ := h
  exact ⟨mb, db, GD, h.below hb⟩
theorem ArAt.keep (h : ArAt w ab GA a) (hk : ∀ k, GA k → w'.heap[k]? = w.heap[k]?) (hs : w.heap.size ≤ w'.heap.size) : ArAt w' ab GA a := by
  obtain ⟨mb, db, GD, h1, h2⟩ := h
  exact ⟨mb, db, GD, h1.keep hk hs, h2⟩
theorem ArAt.lt (h : ArAt w ab GA a) : ∀ k, GA k → k < w.heap.size := by
  obtain ⟨mb, db, GD, h, _⟩ := h
  exact h.lt
theorem ArAt.ok (h : ArAt w ab GA a) : a.Ok := by
  obtain ⟨mb, db, GD, _, h⟩ := h
  exact h
theorem getD_set {α : Type} {l : List α} {i j : Nat} {x d : α} (hi : i < l.length) : (l.set i x).getD j d = if j = i then x else l.getD j d := by
  by_cases e : j = i
  · subst e
    simp [List.getD, hi]
  · simp only [List.getD, List.getElem?_set, if_neg (fun h => e (h.symm) : ¬ i = j), if_neg e]
/-- a disk of the array was changed -/
theorem ArM.disk (h : ArM w ab mb db GD GA a) {i : Nat} (hi : i < a.D.length) {G' : Nat → Prop} {d' : DkS} (hD : DiskAt w' (db i) G' d') (g : Grew (GD i) w G' w') :
    ArM w' ab mb db (fun j => if j = i then G' else GD j) (fun k => GA k ∨ G' k) { a with D := a.D.set i d' } ∧ Grew GA w (fun k => GA k ∨ G' k) w' := by
  have na : ¬ GD i ab := (h.sa i hi).1
  have nm : ¬ GD i mb := (h.sa i hi).2
  have la := h.lt _ h.ga
  have lm := h.lt _ h.gm
  have hl : (a.D.set i d').length = a.D.length := by simp
  have hS : ∀ k, G' k → GD i k ∨ w.heap.size ≤ k := g.grow
  refine ⟨⟨?_, ?_, ?_, ?_, ?_, ?_, ?_, ?_, ?_, ?_, ?_, h.ne, Or.inl h.ga, Or.inl h.gm, ?_, ?_, ?_, ?_, ?_, h.wl⟩, ?_⟩
  · show _ = some (Value.slice _ (a.D.set i d').length (a.D.set i d').length)
    rw [hl]; exact (g.turn.cell (p := ⟨ab, 0, none⟩) la na).trans h.c0
  · exact (g.turn.cell (p := ⟨ab, 1, none⟩) la na).trans h.c1
  · exact (g.turn.cell (p := ⟨ab, 2, none⟩) la na).trans h.c2
  · exact (g.turn.frozen (p := ⟨ab, 1, none⟩) la na).trans h.f1
  · exact (g.turn.frozen (p := ⟨ab, 2, none⟩) la na).trans h.f2
  · intro j hj
    exact (g.turn.cell (p := ⟨mb, j * 2, none⟩) lm nm).trans (h.m0 j (hl ▸ hj))
  · intro j hj
    exact (g.turn.cell (p := ⟨mb, j * 2 + 1, none⟩) lm nm).trans (h.m1 j (hl ▸ hj))
  · intro j hj
    exact (g.turn.frozen (p := ⟨mb, j * 2 + 1, none⟩) lm nm).trans (h.fm j (hl ▸ hj))
  · intro j hj
    have hj2 : j < a.D.length := hl ▸ hj
    show DiskAt w' (db j) (if j = i then G' else GD j) ((a.D.set i d').getD j default)
    rw [getD_set hi]
    by_cases e : j = i
    · subst e
      rw [if_pos rfl, if_pos rfl]
      exact hD
    · rw [if_neg e, if_neg e]
      exact (h.dk j hj2).apart g (fun k hk hk2 => h.sep i j hi hj2 (fun e2 => e e2.symm) k hk hk2)
  · intro j l hj hl2 hne k hk hk2
    have hj2 : j < a.D.length := hl ▸ hj
    have hl3 : l < a.D.length := hl ▸ hl2
    replace hk : (if j = i then G' else GD j) k := hk
    replace hk2 : (if l = i then G' else GD l) k := hk2
    by_cases e : j = i
    · rw [if_pos e] at hk
      rw [if_neg (fun e2 => hne (e.trans e2.symm))] at hk2
      rcases hS k hk with h1 | h1
      · exact h.sep i l hi hl3 (fun e2 => hne (e.trans e2)) k h1 hk2
      · have := h.lt k (h.gd l hl3 k hk2); omega
    · rw [if_neg e] at hk
      by_cases e2 : l = i
      · rw [if_pos e2] at hk2
        rcases hS k hk2 with h1 | h1
        · exact h.sep j i hj2 hi e k hk h1
        · have := h.lt k (h.gd j hj2 k hk); omega
      · rw [if_neg e2] at hk2
        exact h.sep j l hj2 hl3 hne k hk hk2
  · intro j hj
    have hj2 : j < a.D.length := hl ▸ hj
    show ¬ (if j = i then G' else GD j) ab ∧ ¬ (if j = i then G' else GD j) mb
    by_cases e : j = i
    · rw [if_pos e]
      exact ⟨g.off la na, g.off lm nm⟩
    · rw [if_neg e]
      exact h.sa j hj2
  · intro j hj k hk
    have hj2 : j < a.D.length := hl ▸ hj
    replace hk : (if j = i then G' else GD j) k := hk
    by_cases e : j = i
    · rw [if_pos e] at hk; exact Or.inr hk
    · rw [if_neg e] at hk; exact Or.inl (h.gd j hj2 k hk)
  · intro k hk
    rcases hk with h1 | h1
    · exact Nat.lt_of_lt_of_le (h.lt k h1) g.turn.size
    · exact hD.lt k h1
  · show 1 ≤ (a.D.set i d').length
    rw [hl]; exact h.d1
  · show (a.D.set i d').length ≤ 32
    rw [hl]; exact h.d2
  · show a.B.length = (a.D.set i d').length
    rw [hl]; exact h.b
  · refine g.wide (fun k hk => h.gd i hi k hk) (fun k hk => ?_)
    rcases hk with h1 | h1
    · exact Or.inl h1
    · rcases g.grow k h1 with h2 | h2
      · exact Or.inl (h.gd i hi k h2)
      · exact Or.inr h2
/-- cells of the array's own: what stands in other blocks stands -/
theorem ArM.own (h : ArM w ab mb db GD GA a) {g j : Nat} {v : Value} (hg : g = ab ∨ g = mb) {i : Nat} (hi : i < a.D.length) : DiskAt (w.setCell ⟨g, j, none⟩ v) (db i) (GD i) (a.D.getD i default) :=
  (h.dk i hi).keep (fun k hk => Below.heap_setCell w ⟨g, j, none⟩ v k (fun e => by
    have e2 : k = g := e
    subst e2
    rcases hg with e3 | e3
    · rw [e3] at hk; exact (h.sa i hi).1 hk
    · rw [e3] at hk; exact (h.sa i hi).2 hk)) (by simp)
theorem ArM.setLeft (h : ArM w ab mb db GD GA a) {l : Int} (hl : (Lit.int .i64 l).wf = true) : ArM (w.setCell ⟨ab, 1, none⟩ (.int .i64 (leC l))) ab mb db GD GA { a with left := l } := by
  have c1 := h.c1
  have f1 := h.f1
  have hb : ∀ k, k ≠ ab → (w.setCell ⟨ab, 1, none⟩ (.int .i64 (leC l))).heap[k]? = w.heap[k]? := fun k hk => Below.heap_setCell w ⟨ab, 1, none⟩ _ k hk
  have hm := hb mb h.ne.symm
  refine ⟨?_, ?_, ?_, ?_, ?_, fun i hi => (World.cell?_of_block (w := w) hm).trans (h.m0 i hi), fun i hi => (World.cell?_of_block (w := w) hm).trans (h.m1 i hi), fun i hi => (World.frozen?_of_block (w := w) hm).trans (h.fm i hi), fun i hi => h.own (Or.inl rfl) hi, h.sep, h.sa, h.ne, h.ga, h.gm, h.gd, fun k hk => by simpa using h.lt k hk, h.d1, h.d2, h.b, hl⟩
  · rw [← h.c0]; simp [go_sem]
  · simp [go_sem, c1]
  · rw [← h.c2]; simp [go_sem]
  · simp [go_sem, f1]
  · rw [← h.f2]; simp [go_sem]
theorem ArM.setOff (h : ArM w ab mb db GD GA a) (x : Bool) : ArM (w.setCell ⟨ab, 2, none⟩ (.bool x)) ab mb db GD GA { a with off := x } := by
  have c2 := h.c2
  have f2 := h.f2
  have hb : ∀ k, k ≠ ab → (w.setCell ⟨ab, 2, none⟩ (.bool x)).heap[k]? = w.heap[k]? := fun k hk => Below.heap_setCell w ⟨ab, 2, none⟩ _ k hk
  have hm := hb mb h.ne.symm
  refine ⟨?_, ?_, ?_, ?_, ?_, fun i hi => (World.cell?_of_block (w := w) hm).trans (h.m0 i hi), fun i hi => (World.cell?_of_block (w := w) hm).trans (h.m1 i hi), fun i hi => (World.frozen?_of_block (w := w) hm).trans (h.fm i hi), fun i hi => h.own (Or.inl rfl) hi, h.sep, h.sa, h.ne, h.ga, h.gm, h.gd, fun k hk => by simpa using h.lt k hk, h.d1, h.d2, h.b, h.wl⟩
  · rw [← h.c0]; simp [go_sem]
  · rw [← h.c1]; simp [go_sem]
  · simp [go_sem, c2]
  · rw [← h.f1]; simp [go_sem]
  · simp [go_sem, f2]
theorem cell_set_ne (w : World) {g i j : Nat} (v : Value) (h : i ≠ j) : (w.setCell ⟨g, j, none⟩ v).cell? ⟨g, i, none⟩ = w.cell? ⟨g, i, none⟩ := by
  simp [go_sem, h]
theorem cell_set_eq {w : World} {g j : Nat} {u : Value} (v : Value) (h : w.cell? ⟨g, j, none⟩ = some u) : (w.setCell ⟨g, j, none⟩ v).cell? ⟨g, j, none⟩ = some v := by
  simp [go_sem, h]
theorem frozen_set (w : World) {g i j : Nat} (v : Value) : (w.setCell ⟨g, j, none⟩ v).frozen? ⟨g, i, none⟩ = w.frozen? ⟨g, i, none⟩ := by
  simp [go_sem]
/-- a birth more -/
theorem ArM.setBorn (h : ArM w ab mb db GD GA a) {i : Nat} (hi : i < a.D.length) (z : Int) : ArM (w.setCell ⟨mb, i * 2 + 1, none⟩ (.int .i64 z)) ab mb db GD GA { a with B := a.B.set i z } := by
  have hb : ∀ k, k ≠ mb → (w.setCell ⟨mb, i * 2 + 1, none⟩ (.int .i64 z)).heap[k]? = w.heap[k]? := fun k hk => Below.heap_setCell w ⟨mb, i * 2 + 1, none⟩ _ k hk
  have hm := hb ab h.ne
  have hB : i < a.B.length := by rw [h.b]; exact hi
  refine ⟨(World.cell?_of_block (w := w) hm).trans h.c0, (World.cell?_of_block (w := w) hm).trans h.c1, (World.cell?_of_block (w := w) hm).trans h.c2, (World.frozen?_of_block (w := w) hm).trans h.f1, (World.frozen?_of_block (w := w) hm).trans h.f2, fun j hj => ?_, fun j hj => ?_, fun j hj => ?_, fun i hi => h.own (Or.inr rfl) hi, h.sep, h.sa, h.ne, h.ga, h.gm, h.gd, fun k hk => by simpa using h.lt k hk, h.d1, h.d2, ?_, h.wl⟩
  · rw [cell_set_ne w _ (by omega)]; exact h.m0 j hj
  · show _ = some (Value.int .i64 ((a.B.set i z).getD j 0))
    rw [getD_set hB]
    by_cases e : j = i
    · subst e
      rw [if_pos rfl]
      exact cell_set_eq _ (h.m1 j hj)
    · rw [if_neg e, cell_set_ne w _ (by omega)]; exact h.m1 j hj
  · rw [frozen_set]; exact h.fm j hj
  · show (a.B.set i z).length = _
    simp; exact h.b
end
end Go.Proofs.YtclieefpnbdbjaaGreat.Gf
