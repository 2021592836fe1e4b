/- TEXTS JOINED: ArMath, ArLawM, ArCalm, ArAt, ArCA. -/
import Derived.Lib.SmallJoins
import Derived.Test.YtclieefpnbdbjaaGreatTome11
namespace Go.Proofs.YtclieefpnbdbjaaGreat.Gf
set_option linter.unusedVariables false
set_option linter.unusedSimpArgs false
open Go.RowKit
/-- an array: its disks, their births, what is left (below 0: no crash is to come), whether it is down -/
structure ArS where
  D : List DkS
  B : List Int
  left : Int
  off : Bool
instance : Inhabited DkS := ⟨newD 1⟩
structure ArS.Ok (a : ArS) : Prop where
  d1 : 1 ≤ a.D.length
  d2 : a.D.length ≤ 32
  b : a.B.length = a.D.length
  each : ∀ d ∈ a.D, d.Ok
  l : a.off = false → a.left ≠ 0
def newA (n s : Nat) : ArS := ⟨List.replicate n (newD s), List.replicate n 0, -1, false⟩
theorem newA_ok {n s : Nat} (h1 : 1 ≤ n) (h2 : n ≤ 32) (h3 : 1 ≤ s) (h4 : s ≤ 4096) : (newA n s).Ok :=
  ⟨by simp [newA]; omega, by simp [newA]; omega, by simp [newA], fun d hd => by rw [List.eq_of_mem_replicate hd]; exact newD_ok h3 h4, fun _ => by simp [newA]⟩
/-- is there such a disk? -/
def thA (a : ArS) (i : Int) : Prop := 0 ≤ i ∧ i < (a.D.length : Int)
instance (a : ArS) (i : Int) : Decidable (thA a i) := inferInstanceAs (Decidable (_ ∧ _))
def diA (a : ArS) (i : Int) : DkS := a.D.getD i.toNat default
def setA (a : ArS) (i : Int) (d : DkS) : ArS := { a with D := a.D.set i.toNat d }
theorem di_mem {a : ArS} {i : Int} (h : thA a i) : diA a i ∈ a.D := by
  have hl : i.toNat < a.D.length := by have := h.2; have := h.1; omega
  unfold diA
  rw [show a.D.getD i.toNat default = a.D[i.toNat] by simp [List.getD, hl]]
  exact List.getElem_mem hl
theorem setA_ok {a : ArS} (h : a.Ok) {i : Int} {d : DkS} (hd : d.Ok) : (setA a i d).Ok :=
  ⟨by simp [setA]; exact h.d1, by simp [setA]; exact h.d2, by simp [setA]; exact h.b, fun e he => by
    rcases List.mem_or_eq_of_mem_set he with h1 | h1
    · exact h.each e h1
    · rw [h1]; exact hd, h.l⟩
/-- behind a write that was done -/
def tickA (a : ArS) : ArS := if 0 < a.left then { a with left := a.left - 1, off := decide (a.left - 1 = 0) } else a
theorem tickA_ok {a : ArS} (h : a.Ok) : (tickA a).Ok := by
  unfold tickA
  split
  · exact ⟨h.d1, h.d2, h.b, h.each, fun e => by simpa using e⟩
  · exact h
def wrAX (a : ArS) (i ad : Int) (b : List UInt8) : Int := if a.off = true then 130 else if thA a i then wrX (diA a i) ad b else 1
def wrAS (a : ArS) (i ad : Int) (b : List UInt8) : ArS := if a.off = true then a else if thA a i then (if wrX (diA a i) ad b = 0 then tickA (setA a i (wrS (diA a i) ad b)) else a) else a
theorem wrAS_ok {a : ArS} (h : a.Ok) (i ad : Int) (b : List UInt8) : (wrAS a i ad b).Ok := by
  unfold wrAS
  split
  · exact h
  split
  · rename_i h2
    split
    · exact tickA_ok (setA_ok h (wrS_ok (h.each _ (di_mem h2)) ad b))
    · exact h
  · exact h
def rdAX (a : ArS) (i ad : Int) : Int := if a.off = true then 130 else if thA a i then faX (diA a i) ad else 1
def rdAB (a : ArS) (i ad : Int) : List UInt8 := if a.off = true then [] else if thA a i then rdB (diA a i) ad else []
def flAX (a : ArS) : Int := if a.off = true then 130 else 0
def flAS (a : ArS) : ArS := if a.off = true then a else { a with D := a.D.map flS }
theorem flAS_ok {a : ArS} (h : a.Ok) : (flAS a).Ok := by
  unfold flAS
  split
  · exact h
  · exact ⟨by simpa using h.d1, by simpa using h.d2, by simpa using h.b, fun d hd => by
      obtain ⟨e, he, rfl⟩ := List.mem_map.1 hd
      exact flS_ok (h.each e he), h.l⟩
def bornA (a : ArS) (i : Int) : ArS := { a with B := a.B.set i.toNat (IntKind.i64.wrap (a.B.getD i.toNat 0 + 1)) }
theorem bornA_ok {a : ArS} (h : a.Ok) (i : Int) : (bornA a i).Ok := ⟨h.d1, h.d2, by simp [bornA]; exact h.b, h.each, h.l⟩
def thX (a : ArS) (i : Int) : Int := if thA a i then 0 else 1
def faAS (a : ArS) (i : Int) : ArS := if thA a i then bornA (setA a i (faS (diA a i))) i else a
def rpAS (a : ArS) (i : Int) : ArS := if thA a i then bornA (setA a i (reS (diA a i))) i else a
theorem faAS_ok {a : ArS} (h : a.Ok) (i : Int) : (faAS a i).Ok := by
  unfold faAS
  split
  · rename_i h2; exact bornA_ok (setA_ok h (faS_ok (h.each _ (di_mem h2)))) i
  · exact h
theorem rpAS_ok {a : ArS} (h : a.Ok) (i : Int) : (rpAS a i).Ok := by
  unfold rpAS
  split
  · rename_i h2; exact bornA_ok (setA_ok h (reS_ok (h.each _ (di_mem h2)))) i
  · exact h
def coAX (a : ArS) (i ad : Int) : Int := if thA a i then coX (diA a i) ad else 1
def coAS (a : ArS) (i ad at_ : Int) (y : UInt8) : ArS := if thA a i then setA a i (coS (diA a i) ad at_ y) else a
theorem coAS_ok {a : ArS} (h : a.Ok) (i ad at_ : Int) (y : UInt8) : (coAS a i ad at_ y).Ok := by
  unfold coAS
  split
  · rename_i h2; exact setA_ok h (coS_ok (h.each _ (di_mem h2)) ad at_ y)
  · exact h
end Go.Proofs.YtclieefpnbdbjaaGreat.Gf

namespace Go.Proofs.YtclieefpnbdbjaaGreat.Gf
set_option linter.unusedVariables false
set_option linter.unusedSimpArgs false
open Go.RowKit
theorem tickA_D (a : ArS) : (tickA a).D = a.D := by unfold tickA; split <;> rfl
end Go.Proofs.YtclieefpnbdbjaaGreat.Gf

namespace Go.Proofs.YtclieefpnbdbjaaGreat.Gf
set_option linter.unusedVariables false
set_option linter.unusedSimpArgs false
section
variable {a : ArS} {i ad : Int} {b : List UInt8}
theorem faX_in (d : DkS) (x : Int) : faX d x = 0 ∨ faX d x = 120 ∨ faX d x = 121 := by
  unfold faX
  split
  · exact Or.inr (Or.inl rfl)
  · split
    · exact Or.inl rfl
    · exact Or.inr (Or.inr rfl)
theorem wrAX_crash {i ad : Int} {b : List UInt8} : wrAX a i ad b = 130 ↔ a.off = true := by
  unfold wrAX
  cases h : a.off
  · rw [if_neg (by decide)]
    refine ⟨fun e => ?_, fun e => by cases e⟩
    exfalso
    split at e
    · unfold wrX at e
      rcases faX_in (diA a i) ad with q | q | q <;> rw [q] at e
      · rw [if_pos rfl] at e
        split at e <;> cases e
      · rw [if_neg (by decide)] at e; cases e
      · rw [if_neg (by decide)] at e; cases e
    · cases e
  · rw [if_pos rfl]
    exact ⟨fun _ => rfl, fun _ => rfl⟩
/-- the power is there, and no crash is to come -/
def Calm (a : ArS) : Prop := a.off = false ∧ ¬ 0 < a.left
theorem calm_new (n s : Nat) : Calm (newA n s) := ⟨rfl, by show ¬ (0 : Int) < -1; omega⟩
theorem setA_len (d : DkS) : (setA a i d).D.length = a.D.length := by simp [setA]
theorem diA_set (hi : thA a i) (d : DkS) {j : Int} (hj : 0 ≤ j) : diA (setA a i d) j = if j = i then d else diA a j := by
  have hl : i.toNat < a.D.length := by have := hi.1; have := hi.2; omega
  unfold diA setA
  show (a.D.set i.toNat d).getD j.toNat default = _
  by_cases e : j = i
  · rw [if_pos e, e]
    simp [List.getD, hl]
  · rw [if_neg e]
    have hn : i.toNat ≠ j.toNat := by have := hi.1; omega
    simp [List.getD, List.getElem?_set, hn]
theorem wr_set (hc : Calm a) (ht : thA a i) (h : wrX (diA a i) ad b = 0) : wrAX a i ad b = 0 ∧ wrAS a i ad b = setA a i (wrS (diA a i) ad b) := by
  refine ⟨?_, ?_⟩
  · unfold wrAX
    rw [if_neg (by rw [hc.1]; decide), if_pos ht, h]
  · unfold wrAS tickA
    rw [if_neg (by rw [hc.1]; decide), if_pos ht, if_pos h]
    exact if_neg hc.2
theorem rd_at (ho : a.off = false) (ht : thA a i) : rdAB a i ad = rdB (diA a i) ad := by
  unfold rdAB
  rw [if_neg (by rw [ho]; decide), if_pos ht]
theorem wrX_ok {d : DkS} (hd : d.dead = false) (h0 : 0 ≤ ad) (h1 : ad < (d.s : Int)) (hb : OkB b) : wrX d ad b = 0 := by
  unfold wrX
  rw [if_pos (faX_ok hd ⟨h0, h1⟩), if_pos hb]
theorem wrS_at {d : DkS} (hd : d.dead = false) (h0 : 0 ≤ ad) (h1 : ad < (d.s : Int)) (hb : OkB b) : wrS d ad b = { d with wait := putB d.wait ad b } := if_pos ⟨faX_ok hd ⟨h0, h1⟩, hb⟩
theorem diA_born {d j : Int} : diA (bornA a d) j = diA a j := rfl
theorem coS_dead {d : DkS} {ad at_ : Int} {y : UInt8} : (coS d ad at_ y).dead = d.dead := by
  unfold coS
  split
  · split
    · rfl
    · split <;> rfl
  · rfl
theorem rdB_co {d : DkS} {ad at_ : Int} {y : UInt8} {b : List UInt8} (hf : faX d ad = 0) (h : atD d ad = some b) : rdB (coS d ad at_ y) ad = chB b at_ y := by
  have hf' : ∀ e : DkS, e.dead = d.dead → e.s = d.s → faX e ad = 0 := fun e e1 e2 => by
    have := hf
    unfold faX at this ⊢
    rw [e1, e2]
    exact this
  unfold rdB
  rw [if_pos (hf' _ coS_dead (coS_s _ _ _ _))]
  unfold atD at h
  cases e : d.wait ad with
  | some c =>
    rw [e] at h
    have : c = b := by simpa using h
    subst this
    unfold coS
    rw [if_pos hf, e]
    simp [atD, putB]
  | none =>
    rw [e] at h
    have h' : d.last ad = some b := h
    unfold coS
    rw [if_pos hf, e, h']
    simp [atD, putB, e]
theorem rdB_some {d : DkS} {ad : Int} {b : List UInt8} (h : rdB d ad = b) (hb : b ≠ []) : faX d ad = 0 ∧ atD d ad = some b := by
  unfold rdB at h
  by_cases e : faX d ad = 0
  · rw [if_pos e] at h
    refine ⟨e, ?_⟩
    cases q : atD d ad with
    | none => rw [q] at h; exact absurd h.symm hb
    | some c => rw [q] at h; rw [show c = b from h]
  · rw [if_neg e] at h
    exact absurd h.symm hb
end
end Go.Proofs.YtclieefpnbdbjaaGreat.Gf

namespace Go.Proofs.YtclieefpnbdbjaaGreat.Gf
set_option linter.unusedVariables false
set_option linter.unusedSimpArgs false
open Go.RowKit
/-- what is left, as the program keeps it -/
def leC (l : Int) : Int := if 0 < l then l else 0
structure ArM (w : World) (ab mb : Nat) (db : Nat → Nat) (GD : Nat → Nat → Prop) (GA : Nat → Prop) (a : ArS) : Prop where
  c0 : w.cell? ⟨ab, 0, none⟩ = some (.slice (some ⟨mb, 0, none⟩) a.D.length a.D.length)
  c1 : w.cell? ⟨ab, 1, none⟩ = some (.int .i64 (leC a.left))
  c2 : w.cell? ⟨ab, 2, none⟩ = some (.bool a.off)
  f1 : w.frozen? ⟨ab, 1, none⟩ = false
  f2 : w.frozen? ⟨ab, 2, none⟩ = false
  m0 : ∀ i, i < a.D.length → w.cell? ⟨mb, i * 2, none⟩ = some (.pointer (some ⟨db i, 0, none⟩))
  m1 : ∀ i, i < a.D.length → w.cell? ⟨mb, i * 2 + 1, none⟩ = some (.int .i64 (a.B.getD i 0))
  fm : ∀ i, i < a.D.length → w.frozen? ⟨mb, i * 2 + 1, none⟩ = false
  dk : ∀ i, i < a.D.length → DiskAt w (db i) (GD i) (a.D.getD i default)
  sep : ∀ i j, i < a.D.length → j < a.D.length → i ≠ j → ∀ k, GD i k → ¬ GD j k
  sa : ∀ i, i < a.D.length → ¬ GD i ab ∧ ¬ GD i mb
  ne : ab ≠ mb
  ga : GA ab
  gm : GA mb
  gd : ∀ i, i < a.D.length → ∀ k, GD i k → GA k
  lt : ∀ k, GA k → k < w.heap.size
  d1 : 1 ≤ a.D.length
  d2 : a.D.length ≤ 32
  b : a.B.length = a.D.length
  wl : (Lit.int .i64 a.left).wf = true
def ArIn (w : World) (ab mb : Nat) (db : Nat → Nat) (GD : Nat → Nat → Prop) (GA : Nat → Prop) (a : ArS) : Prop := ArM w ab mb db GD GA a ∧ a.Ok
def ArAt (w : World) (ab : Nat) (GA : Nat → Prop) (a : ArS) : Prop := ∃ mb db GD, ArIn w ab mb db GD GA a
/-- what a call on an array leaves -/
def LeavesA (w : World) (ab : Nat) (GA : Nat → Prop) (a' : ArS) (x : Value) (e : Ending) (w' : World) : Prop := e = .returned x ∧ ∃ GA', ArAt w' ab GA' a' ∧ Grew GA w GA' w'
section
variable {w w' : World} {ab mb : Nat} {db : Nat → Nat} {GD : Nat → Nat → Prop} {GA : Nat → Prop} {a : ArS}
theorem ArM.keep (h : ArM w ab mb db GD GA a) (hk : ∀ k, GA k → w'.heap[k]? = w.heap[k]?) (hs : w.heap.size ≤ w'.heap.size) : ArM w' ab mb db GD GA a where
  c0 := (World.cell?_of_block (w := w) (hk ab h.ga)).trans h.c0
  c1 := (World.cell?_of_block (w := w) (hk ab h.ga)).trans h.c1
  c2 := (World.cell?_of_block (w := w) (hk ab h.ga)).trans h.c2
  f1 := (World.frozen?_of_block (w := w) (hk ab h.ga)).trans h.f1
  f2 := (World.frozen?_of_block (w := w) (hk ab h.ga)).trans h.f2
  m0 := fun i hi => (World.cell?_of_block (w := w) (hk mb h.gm)).trans (h.m0 i hi)
  m1 := fun i hi => (World.cell?_of_block (w := w) (hk mb h.gm)).trans (h.m1 i hi)
  fm := fun i hi => (World.frozen?_of_block (w := w) (hk mb h.gm)).trans (h.fm i hi)
  dk := fun i hi => (h.dk i hi).keep (fun k hk2 => hk k (h.gd i hi k hk2)) hs
  sep := h.sep
  sa := h.sa
  ne := h.ne
  ga := h.ga
  gm := h.gm
  gd := h.gd
  lt := fun k hk2 => Nat.lt_of_lt_of_le (h.lt k hk2) hs
  d1 := h.d1
  d2 := h.d2
  b := h.b
  wl := h.wl
theorem ArM.below (h : ArM w ab mb db GD GA a) (hb : Below w.heap.size w w') : ArM w' ab mb db GD GA a := h.keep (fun k hk => hb.block k (h.lt k hk)) hb.size
theorem ArIn.below (h : ArIn w ab mb db GD GA a) (hb : Below w.heap.size w w') : ArIn w' ab mb db GD GA a := ⟨h.1.below hb, h.2⟩
theorem ArAt.below (h : ArAt w ab GA a) (hb : Below w.heap.size w w') : ArAt w' ab GA a := by
  obtain ⟨mb, db, GD, h⟩ := h
  exact ⟨mb, db, GD, h.below hb⟩
theorem ArAt.keep (h : ArAt w ab GA a) (hk : ∀ k, GA k → w'.heap[k]? = w.heap[k]?) (hs : w.heap.size ≤ w'.heap.size) : ArAt w' ab GA a := by
  obtain ⟨mb, db, GD, h1, h2⟩ := h
  exact ⟨mb, db, GD, h1.keep hk hs, h2⟩
theorem ArAt.lt (h : ArAt w ab GA a) : ∀ k, GA k → k < w.heap.size := by
  obtain ⟨mb, db, GD, h, _⟩ := h
  exact h.lt
theorem ArAt.ok (h : ArAt w ab GA a) : a.Ok := by
  obtain ⟨mb, db, GD, _, h⟩ := h
  exact h
theorem getD_set {α : Type} {l : List α} {i j : Nat} {x d : α} (hi : i < l.length) : (l.set i x).getD j d = if j = i then x else l.getD j d := by
  by_cases e : j = i
  · subst e
    simp [List.getD, hi]
  · simp only [List.getD, List.getElem?_set, if_neg (fun h => e (h.symm) : ¬ i = j), if_neg e]
/-- a disk of the array was changed -/
theorem ArM.disk (h : ArM w ab mb db GD GA a) {i : Nat} (hi : i < a.D.length) {G' : Nat → Prop} {d' : DkS} (hD : DiskAt w' (db i) G' d') (g : Grew (GD i) w G' w') :
    ArM w' ab mb db (fun j => if j = i then G' else GD j) (fun k => GA k ∨ G' k) { a with D := a.D.set i d' } ∧ Grew GA w (fun k => GA k ∨ G' k) w' := by
  have na : ¬ GD i ab := (h.sa i hi).1
  have nm : ¬ GD i mb := (h.sa i hi).2
  have la := h.lt _ h.ga
  have lm := h.lt _ h.gm
  have hl : (a.D.set i d').length = a.D.length := by simp
  have hS : ∀ k, G' k → GD i k ∨ w.heap.size ≤ k := g.grow
  refine ⟨⟨?_, ?_, ?_, ?_, ?_, ?_, ?_, ?_, ?_, ?_, ?_, h.ne, Or.inl h.ga, Or.inl h.gm, ?_, ?_, ?_, ?_, ?_, h.wl⟩, ?_⟩
  · show _ = some (Value.slice _ (a.D.set i d').length (a.D.set i d').length)
    rw [hl]; exact (g.turn.cell (p := ⟨ab, 0, none⟩) la na).trans h.c0
  · exact (g.turn.cell (p := ⟨ab, 1, none⟩) la na).trans h.c1
  · exact (g.turn.cell (p := ⟨ab, 2, none⟩) la na).trans h.c2
  · exact (g.turn.frozen (p := ⟨ab, 1, none⟩) la na).trans h.f1
  · exact (g.turn.frozen (p := ⟨ab, 2, none⟩) la na).trans h.f2
  · intro j hj
    exact (g.turn.cell (p := ⟨mb, j * 2, none⟩) lm nm).trans (h.m0 j (hl ▸ hj))
  · intro j hj
    exact (g.turn.cell (p := ⟨mb, j * 2 + 1, none⟩) lm nm).trans (h.m1 j (hl ▸ hj))
  · intro j hj
    exact (g.turn.frozen (p := ⟨mb, j * 2 + 1, none⟩) lm nm).trans (h.fm j (hl ▸ hj))
  · intro j hj
    have hj2 : j < a.D.length := hl ▸ hj
    show DiskAt w' (db j) (if j = i then G' else GD j) ((a.D.set i d').getD j default)
    rw [getD_set hi]
    by_cases e : j = i
    · subst e
      rw [if_pos rfl, if_pos rfl]
      exact hD
    · rw [if_neg e, if_neg e]
      exact (h.dk j hj2).apart g (fun k hk hk2 => h.sep i j hi hj2 (fun e2 => e e2.symm) k hk hk2)
  · intro j l hj hl2 hne k hk hk2
    have hj2 : j < a.D.length := hl ▸ hj
    have hl3 : l < a.D.length := hl ▸ hl2
    replace hk : (if j = i then G' else GD j) k := hk
    replace hk2 : (if l = i then G' else GD l) k := hk2
    by_cases e : j = i
    · rw [if_pos e] at hk
      rw [if_neg (fun e2 => hne (e.trans e2.symm))] at hk2
      rcases hS k hk with h1 | h1
      · exact h.sep i l hi hl3 (fun e2 => hne (e.trans e2)) k h1 hk2
      · have := h.lt k (h.gd l hl3 k hk2); omega
    · rw [if_neg e] at hk
      by_cases e2 : l = i
      · rw [if_pos e2] at hk2
        rcases hS k hk2 with h1 | h1
        · exact h.sep j i hj2 hi e k hk h1
        · have := h.lt k (h.gd j hj2 k hk); omega
      · rw [if_neg e2] at hk2
        exact h.sep j l hj2 hl3 hne k hk hk2
  · intro j hj
    have hj2 : j < a.D.length := hl ▸ hj
    show ¬ (if j = i then G' else GD j) ab ∧ ¬ (if j = i then G' else GD j) mb
    by_cases e : j = i
    · rw [if_pos e]
      exact ⟨g.off la na, g.off lm nm⟩
    · rw [if_neg e]
      exact h.sa j hj2
  · intro j hj k hk
    have hj2 : j < a.D.length := hl ▸ hj
    replace hk : (if j = i then G' else GD j) k := hk
    by_cases e : j = i
    · rw [if_pos e] at hk; exact Or.inr hk
    · rw [if_neg e] at hk; exact Or.inl (h.gd j hj2 k hk)
  · intro k hk
    rcases hk with h1 | h1
    · exact Nat.lt_of_lt_of_le (h.lt k h1) g.turn.size
    · exact hD.lt k h1
  · show 1 ≤ (a.D.set i d').length
    rw [hl]; exact h.d1
  · show (a.D.set i d').length ≤ 32
    rw [hl]; exact h.d2
  · show a.B.length = (a.D.set i d').length
    rw [hl]; exact h.b
  · refine g.wide (fun k hk => h.gd i hi k hk) (fun k hk => ?_)
    rcases hk with h1 | h1
    · exact Or.inl h1
    · rcases g.grow k h1 with h2 | h2
      · exact Or.inl (h.gd i hi k h2)
      · exact Or.inr h2
/-- cells of the array's own: what stands in other blocks stands -/
theorem ArM.own (h : ArM w ab mb db GD GA a) {g j : Nat} {v : Value} (hg : g = ab ∨ g = mb) {i : Nat} (hi : i < a.D.length) : DiskAt (w.setCell ⟨g, j, none⟩ v) (db i) (GD i) (a.D.getD i default) :=
  (h.dk i hi).keep (fun k hk => Below.heap_setCell w ⟨g, j, none⟩ v k (fun e => by
    have e2 : k = g := e
    subst e2
    rcases hg with e3 | e3
    · rw [e3] at hk; exact (h.sa i hi).1 hk
    · rw [e3] at hk; exact (h.sa i hi).2 hk)) (by simp)
theorem ArM.setLeft (h : ArM w ab mb db GD GA a) {l : Int} (hl : (Lit.int .i64 l).wf = true) : ArM (w.setCell ⟨ab, 1, none⟩ (.int .i64 (leC l))) ab mb db GD GA { a with left := l } := by
  have c1 := h.c1
  have f1 := h.f1
  have hb : ∀ k, k ≠ ab → (w.setCell ⟨ab, 1, none⟩ (.int .i64 (leC l))).heap[k]? = w.heap[k]? := fun k hk => Below.heap_setCell w ⟨ab, 1, none⟩ _ k hk
  have hm := hb mb h.ne.symm
  refine ⟨?_, ?_, ?_, ?_, ?_, fun i hi => (World.cell?_of_block (w := w) hm).trans (h.m0 i hi), fun i hi => (World.cell?_of_block (w := w) hm).trans (h.m1 i hi), fun i hi => (World.frozen?_of_block (w := w) hm).trans (h.fm i hi), fun i hi => h.own (Or.inl rfl) hi, h.sep, h.sa, h.ne, h.ga, h.gm, h.gd, fun k hk => by simpa using h.lt k hk, h.d1, h.d2, h.b, hl⟩
  · rw [← h.c0]; simp [go_sem]
  · simp [go_sem, c1]
  · rw [← h.c2]; simp [go_sem]
  · simp [go_sem, f1]
  · rw [← h.f2]; simp [go_sem]
theorem ArM.setOff (h : ArM w ab mb db GD GA a) (x : Bool) : ArM (w.setCell ⟨ab, 2, none⟩ (.bool x)) ab mb db GD GA { a with off := x } := by
  have c2 := h.c2
  have f2 := h.f2
  have hb : ∀ k, k ≠ ab → (w.setCell ⟨ab, 2, none⟩ (.bool x)).heap[k]? = w.heap[k]? := fun k hk => Below.heap_setCell w ⟨ab, 2, none⟩ _ k hk
  have hm := hb mb h.ne.symm
  refine ⟨?_, ?_, ?_, ?_, ?_, fun i hi => (World.cell?_of_block (w := w) hm).trans (h.m0 i hi), fun i hi => (World.cell?_of_block (w := w) hm).trans (h.m1 i hi), fun i hi => (World.frozen?_of_block (w := w) hm).trans (h.fm i hi), fun i hi => h.own (Or.inl rfl) hi, h.sep, h.sa, h.ne, h.ga, h.gm, h.gd, fun k hk => by simpa using h.lt k hk, h.d1, h.d2, h.b, h.wl⟩
  · rw [← h.c0]; simp [go_sem]
  · rw [← h.c1]; simp [go_sem]
  · simp [go_sem, c2]
  · rw [← h.f1]; simp [go_sem]
  · simp [go_sem, f2]
theorem cell_set_ne (w : World) {g i j : Nat} (v : Value) (h : i ≠ j) : (w.setCell ⟨g, j, none⟩ v).cell? ⟨g, i, none⟩ = w.cell? ⟨g, i, none⟩ := by
  simp [go_sem, h]
theorem cell_set_eq {w : World} {g j : Nat} {u : Value} (v : Value) (h : w.cell? ⟨g, j, none⟩ = some u) : (w.setCell ⟨g, j, none⟩ v).cell? ⟨g, j, none⟩ = some v := by
  simp [go_sem, h]
theorem frozen_set (w : World) {g i j : Nat} (v : Value) : (w.setCell ⟨g, j, none⟩ v).frozen? ⟨g, i, none⟩ = w.frozen? ⟨g, i, none⟩ := by
  simp [go_sem]
/-- a birth more -/
theorem ArM.setBorn (h : ArM w ab mb db GD GA a) {i : Nat} (hi : i < a.D.length) (z : Int) : ArM (w.setCell ⟨mb, i * 2 + 1, none⟩ (.int .i64 z)) ab mb db GD GA { a with B := a.B.set i z } := by
  have hb : ∀ k, k ≠ mb → (w.setCell ⟨mb, i * 2 + 1, none⟩ (.int .i64 z)).heap[k]? = w.heap[k]? := fun k hk => Below.heap_setCell w ⟨mb, i * 2 + 1, none⟩ _ k hk
  have hm := hb ab h.ne
  have hB : i < a.B.length := by rw [h.b]; exact hi
  refine ⟨(World.cell?_of_block (w := w) hm).trans h.c0, (World.cell?_of_block (w := w) hm).trans h.c1, (World.cell?_of_block (w := w) hm).trans h.c2, (World.frozen?_of_block (w := w) hm).trans h.f1, (World.frozen?_of_block (w := w) hm).trans h.f2, fun j hj => ?_, fun j hj => ?_, fun j hj => ?_, fun i hi => h.own (Or.inr rfl) hi, h.sep, h.sa, h.ne, h.ga, h.gm, h.gd, fun k hk => by simpa using h.lt k hk, h.d1, h.d2, ?_, h.wl⟩
  · rw [cell_set_ne w _ (by omega)]; exact h.m0 j hj
  · show _ = some (Value.int .i64 ((a.B.set i z).getD j 0))
    rw [getD_set hB]
    by_cases e : j = i
    · subst e
      rw [if_pos rfl]
      exact cell_set_eq _ (h.m1 j hj)
    · rw [if_neg e, cell_set_ne w _ (by omega)]; exact h.m1 j hj
  · rw [frozen_set]; exact h.fm j hj
  · show (a.B.set i z).length = _
    simp; exact h.b
end
end Go.Proofs.YtclieefpnbdbjaaGreat.Gf

namespace Go.Proofs.YtclieefpnbdbjaaGreat.Gf
set_option linter.unusedVariables false
set_option linter.unusedSimpArgs false
open Go.RowKit
section
variable {w : World} {ab mb : Nat} {db : Nat → Nat} {GD : Nat → Nat → Prop} {GA : Nat → Prop} {a : ArS}
theorem amem_at {n : Nat} (c0 : w.cell? ⟨ab, 0, none⟩ = some (.slice (some ⟨mb, 0, none⟩) n n)) {j : Nat} (hj : j < n) : Calls Tryz.prog 55 #[.pointer (some ⟨ab, 0, none⟩), .int .i64 (j : Int)] w fun e w' => e = .returned (.pointer (some ⟨mb, j * 2, none⟩)) ∧ w' = w := by
  have q1 : ¬ (j : Int) < 0 := by omega
  have q2 : ¬ (j : Int) ≥ (n : Int) := by omega
  have q3 : (j : Int) < (n : Int) := by omega
  go_enter Tryz.func55, Tryz.ntmps55
  go_wp2
  go_ret
  exact ⟨rfl, rfl⟩
theorem amem_no {n : Nat} (c0 : w.cell? ⟨ab, 0, none⟩ = some (.slice (some ⟨mb, 0, none⟩) n n)) {i : Int} (hi : ¬ (0 ≤ i ∧ i < (n : Int))) : Calls Tryz.prog 55 #[.pointer (some ⟨ab, 0, none⟩), .int .i64 i] w fun e w' => e = .returned (.pointer none) ∧ w' = w := by
  by_cases q1 : i < 0
  · go_enter Tryz.func55, Tryz.ntmps55
    go_wp2
    go_ret
    exact ⟨rfl, rfl⟩
  · have q2 : i ≥ (n : Int) := by omega
    go_enter Tryz.func55, Tryz.ntmps55
    go_wp2
    go_ret
    exact ⟨rfl, rfl⟩
theorem aref_any {x : Bool} (c2 : w.cell? ⟨ab, 2, none⟩ = some (.bool x)) : Calls Tryz.prog 127 #[.pointer (some ⟨ab, 0, none⟩)] w fun e w' => e = .returned (.int .i64 (if x = true then 130 else 0)) ∧ w' = w := by
  cases x
  · go_enter Tryz.func127, Tryz.ntmps127
    go_wp2
    go_ret
    exact ⟨rfl, rfl⟩
  · go_enter Tryz.func127, Tryz.ntmps127
    go_wp2
    go_ret
    exact ⟨rfl, rfl⟩
theorem apow_off (c2 : w.cell? ⟨ab, 2, none⟩ = some (.bool true)) {i : Int} : Calls Tryz.prog 110 #[.pointer (some ⟨ab, 0, none⟩), .int .i64 i] w fun e w' => e = .returned (.tuple #[.pointer none, .int .i64 130]) ∧ w' = w := by
  have K := aref_any c2
  simp only [if_true] at K
  go_enter Tryz.func110, Tryz.ntmps110
  go_wp2_with fail
  refine K.mono ?_
  rintro _ wq ⟨rfl, hwq⟩
  rw [hwq]
  clear hwq wq K
  go_wp2
  refine bodyPost_ret (v := .tuple #[.pointer none, .int .i64 130]) (by simp [results, Tryz.results110, go_sem]) rfl ?_
  exact ⟨rfl, rfl⟩
theorem apow_no {n : Nat} (c0 : w.cell? ⟨ab, 0, none⟩ = some (.slice (some ⟨mb, 0, none⟩) n n)) (c2 : w.cell? ⟨ab, 2, none⟩ = some (.bool false)) {i : Int} (hi : ¬ (0 ≤ i ∧ i < (n : Int))) : Calls Tryz.prog 110 #[.pointer (some ⟨ab, 0, none⟩), .int .i64 i] w fun e w' => e = .returned (.tuple #[.pointer none, .int .i64 1]) ∧ w' = w := by
  have K := aref_any c2
  have KM := amem_no c0 hi
  simp only [Bool.false_eq_true, if_false] at K
  go_enter Tryz.func110, Tryz.ntmps110
  go_wp2_with fail
  refine K.mono ?_
  rintro _ wq ⟨rfl, hwq⟩
  rw [hwq]
  clear hwq wq K
  go_wp2_with fail
  refine KM.mono ?_
  rintro _ wq ⟨rfl, hwq⟩
  rw [hwq]
  clear hwq wq KM
  go_wp2
  refine bodyPost_ret (v := .tuple #[.pointer none, .int .i64 1]) (by simp [results, Tryz.results110, go_sem]) rfl ?_
  exact ⟨rfl, rfl⟩
theorem apow_at {n : Nat} (c0 : w.cell? ⟨ab, 0, none⟩ = some (.slice (some ⟨mb, 0, none⟩) n n)) (c2 : w.cell? ⟨ab, 2, none⟩ = some (.bool false)) {j : Nat} (hj : j < n) : Calls Tryz.prog 110 #[.pointer (some ⟨ab, 0, none⟩), .int .i64 (j : Int)] w fun e w' => e = .returned (.tuple #[.pointer (some ⟨mb, j * 2, none⟩), .int .i64 0]) ∧ w' = w := by
  have K := aref_any c2
  have KM := amem_at c0 hj
  simp only [Bool.false_eq_true, if_false] at K
  go_enter Tryz.func110, Tryz.ntmps110
  go_wp2_with fail
  refine K.mono ?_
  rintro _ wq ⟨rfl, hwq⟩
  rw [hwq]
  clear hwq wq K
  go_wp2_with fail
  refine KM.mono ?_
  rintro _ wq ⟨rfl, hwq⟩
  rw [hwq]
  clear hwq wq KM
  go_wp2
  refine bodyPost_ret (v := .tuple #[.pointer (some ⟨mb, j * 2, none⟩), .int .i64 0]) (by simp [results, Tryz.results110, go_sem]) rfl ?_
  exact ⟨rfl, rfl⟩
/-- a write that was done is counted -/
theorem acount_any (h : ArM w ab mb db GD GA a) : Calls Tryz.prog 126 #[.pointer (some ⟨ab, 0, none⟩)] w fun e w' => e = .returned (.tuple #[]) ∧ ArM w' ab mb db GD GA (tickA a) ∧ TurnG GA w w' := by
  have c1 := h.c1
  have c2 := h.c2
  have f1 := h.f1
  have f2 := h.f2
  by_cases hl : 0 < a.left
  · have eL : leC a.left = a.left := if_pos hl
    have wb := bounds_i64 h.wl
    have hwf : (Lit.int .i64 (a.left - 1)).wf = true := by simp [Lit.wf, IntKind.min, IntKind.max, IntKind.signed, IntKind.bits]; omega
    have M1 := (h.setLeft hwf).setOff (decide (a.left - 1 = 0))
    have eL2 : leC (a.left - 1) = a.left - 1 := by unfold leC; split <;> omega
    have eT : tickA a = { { a with left := a.left - 1 } with off := decide (a.left - 1 = 0) } := if_pos hl
    rw [eL2] at M1
    have FIN : Hid (ArM ((w.setCell ⟨ab, 1, none⟩ (.int .i64 (a.left - 1))).setCell ⟨ab, 2, none⟩ (.bool (decide (a.left - 1 = 0)))) ab mb db GD GA (tickA a) ∧ TurnG GA w ((w.setCell ⟨ab, 1, none⟩ (.int .i64 (a.left - 1))).setCell ⟨ab, 2, none⟩ (.bool (decide (a.left - 1 = 0))))) := by
      rw [eT]
      exact ⟨M1, (setCell_turnG h.ga).trans (setCell_turnG h.ga)⟩
    clear M1 eT eL2 hwf
    rw [eL] at c1
    have q0 : ¬ a.left = 0 := by omega
    have q1 : (a.left == 0) = false := beq_eq_false_iff_ne.2 q0
    have g1 : IntKind.i64.wrap (a.left - 1) = a.left - 1 := by rw [IntKind.wrap_i64]; omega
    have q2 : (a.left - 1 == 0) = decide (a.left - 1 = 0) := by by_cases e : a.left - 1 = 0 <;> simp [e]
    clear h wb eL hl
    go_enter Tryz.func126, Tryz.ntmps126
    go_wp2
    go_end0
    exact ⟨rfl, FIN.out⟩
  · have eL : leC a.left = 0 := if_neg hl
    have eT : tickA a = a := if_neg hl
    have FIN : Hid (ArM w ab mb db GD GA (tickA a)) := by rw [eT]; exact h
    rw [eL] at c1
    clear h eT eL
    go_enter Tryz.func126, Tryz.ntmps126
    go_wp2
    refine bodyPost_ret (v := .tuple #[]) (by simp [results, Tryz.results126, go_sem]) rfl ?_
    exact ⟨rfl, FIN.out, TurnG.refl _ _⟩
end
end Go.Proofs.YtclieefpnbdbjaaGreat.Gf
