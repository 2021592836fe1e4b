/- TEXTS JOINED: ArMath, ArRef, ArAt, ArCA, ArCB, ArCC, ArCD, ArNew, ArAwM, LyMath, LyKit. -/
import Derived.Test.YtddnfhfangfgeaaGreatTome14
import Derived.Test.YtddnfhfangfgeaaGreatTome13
import Derived.Deep.OwnRows
import Derived.Below
import Derived.OpenShut
import Derived.Lib.SmallJoins
import Derived.Test.YtddnfhfangfgeaaGreatTome12
namespace Go.Proofs.YtddnfhfangfgeaaGreat.Gf
set_option linter.unusedVariables false
set_option linter.unusedSimpArgs false
open Go.RowKit
/-- an array: its disks, their births, what is left (below 0: no crash is to come), whether it is down -/
structure ArS where
  D : List DkS
  B : List Int
  left : Int
  off : Bool
instance : Inhabited DkS := ⟨newD 1⟩
structure ArS.Ok (a : ArS) : Prop where
  d1 : 1 ≤ a.D.length
  d2 : a.D.length ≤ 32
  b : a.B.length = a.D.length
  each : ∀ d ∈ a.D, d.Ok
  l : a.off = false → a.left ≠ 0
def newA (n s : Nat) : ArS := ⟨List.replicate n (newD s), List.replicate n 0, -1, false⟩
theorem newA_ok {n s : Nat} (h1 : 1 ≤ n) (h2 : n ≤ 32) (h3 : 1 ≤ s) (h4 : s ≤ 4096) : (newA n s).Ok :=
  ⟨by simp [newA]; omega, by simp [newA]; omega, by simp [newA], fun d hd => by rw [List.eq_of_mem_replicate hd]; exact newD_ok h3 h4, fun _ => by simp [newA]⟩
/-- is there such a disk? -/
def thA (a : ArS) (i : Int) : Prop := 0 ≤ i ∧ i < (a.D.length : Int)
instance (a : ArS) (i : Int) : Decidable (thA a i) := inferInstanceAs (Decidable (_ ∧ _))
def diA (a : ArS) (i : Int) : DkS := a.D.getD i.toNat default
def setA (a : ArS) (i : Int) (d : DkS) : ArS := { a with D := a.D.set i.toNat d }
theorem di_mem {a : ArS} {i : Int} (h : thA a i) : diA a i ∈ a.D := by
  have hl : i.toNat < a.D.length := by have := h.2; have := h.1; omega
  unfold diA
  rw [show a.D.getD i.toNat default = a.D[i.toNat] by simp [List.getD, hl]]
  exact List.getElem_mem hl
theorem setA_ok {a : ArS} (h : a.Ok) {i : Int} {d : DkS} (hd : d.Ok) : (setA a i d).Ok :=
  ⟨by simp [setA]; exact h.d1, by simp [setA]; exact h.d2, by simp [setA]; exact h.b, fun e he => by
    rcases List.mem_or_eq_of_mem_set he with h1 | h1
    · exact h.each e h1
    · rw [h1]; exact hd, h.l⟩
/-- behind a write that was done -/
def tickA (a : ArS) : ArS := if 0 < a.left then { a with left := a.left - 1, off := decide (a.left - 1 = 0) } else a
theorem tickA_ok {a : ArS} (h : a.Ok) : (tickA a).Ok := by
  unfold tickA
  split
  · exact ⟨h.d1, h.d2, h.b, h.each, fun e => by simpa using e⟩
  · exact h
def wrAX (a : ArS) (i ad : Int) (b : List UInt8) : Int := if a.off = true then 130 else if thA a i then wrX (diA a i) ad b else 1
def wrAS (a : ArS) (i ad : Int) (b : List UInt8) : ArS := if a.off = true then a else if thA a i then (if wrX (diA a i) ad b = 0 then tickA (setA a i (wrS (diA a i) ad b)) else a) else a
theorem wrAS_ok {a : ArS} (h : a.Ok) (i ad : Int) (b : List UInt8) : (wrAS a i ad b).Ok := by
  unfold wrAS
  split
  · exact h
  split
  · rename_i h2
    split
    · exact tickA_ok (setA_ok h (wrS_ok (h.each _ (di_mem h2)) ad b))
    · exact h
  · exact h
def rdAX (a : ArS) (i ad : Int) : Int := if a.off = true then 130 else if thA a i then faX (diA a i) ad else 1
def rdAB (a : ArS) (i ad : Int) : List UInt8 := if a.off = true then [] else if thA a i then rdB (diA a i) ad else []
def bornA (a : ArS) (i : Int) : ArS := { a with B := a.B.set i.toNat (IntKind.i64.wrap (a.B.getD i.toNat 0 + 1)) }
theorem bornA_ok {a : ArS} (h : a.Ok) (i : Int) : (bornA a i).Ok := ⟨h.d1, h.d2, by simp [bornA]; exact h.b, h.each, h.l⟩
def thX (a : ArS) (i : Int) : Int := if thA a i then 0 else 1
def faAS (a : ArS) (i : Int) : ArS := if thA a i then bornA (setA a i (faS (diA a i))) i else a
def rpAS (a : ArS) (i : Int) : ArS := if thA a i then bornA (setA a i (reS (diA a i))) i else a
theorem faAS_ok {a : ArS} (h : a.Ok) (i : Int) : (faAS a i).Ok := by
  unfold faAS
  split
  · rename_i h2; exact bornA_ok (setA_ok h (faS_ok (h.each _ (di_mem h2)))) i
  · exact h
theorem rpAS_ok {a : ArS} (h : a.Ok) (i : Int) : (rpAS a i).Ok := by
  unfold rpAS
  split
  · rename_i h2; exact bornA_ok (setA_ok h (reS_ok (h.each _ (di_mem h2)))) i
  · exact h
def coAX (a : ArS) (i ad : Int) : Int := if thA a i then coX (diA a i) ad else 1
def coAS (a : ArS) (i ad at_ : Int) (y : UInt8) : ArS := if thA a i then setA a i (coS (diA a i) ad at_ y) else a
theorem coAS_ok {a : ArS} (h : a.Ok) (i ad at_ : Int) (y : UInt8) : (coAS a i ad at_ y).Ok := by
  unfold coAS
  split
  · rename_i h2; exact setA_ok h (coS_ok (h.each _ (di_mem h2)) ad at_ y)
  · exact h
end Go.Proofs.YtddnfhfangfgeaaGreat.Gf

namespace Go.Proofs.YtddnfhfangfgeaaGreat.Gf
set_option linter.unusedVariables false
set_option linter.unusedSimpArgs false
open Go.RowKit
section
variable {w w' : World} {rb db : Nat} {H H' K K' G : Nat → Prop} {d : DkS}
/-- a disk of the program's, behind what was done to blocks that are not its own -/
theorem DiskAt.apart (h : DiskAt w db G d) (g : Grew K w K' w') (hn : ∀ k, K k → ¬ G k) : DiskAt w' db G d :=
  h.keep (fun k hk => g.turn.block k (h.lt k hk) (fun e => hn k e hk)) g.turn.size
theorem Grew.wide {K2 K2' : Nat → Prop} (g : Grew K w K' w') (h : ∀ k, K k → K2 k) (h2 : ∀ k, K2' k → K2 k ∨ w.heap.size ≤ k) : Grew K2 w K2' w' :=
  ⟨⟨g.turn.os, g.turn.tape, g.turn.output, g.turn.size, fun k hk hn => g.turn.block k hk (fun e => hn (h k e))⟩, h2⟩
end
end Go.Proofs.YtddnfhfangfgeaaGreat.Gf

namespace Go.Proofs.YtddnfhfangfgeaaGreat.Gf
set_option linter.unusedVariables false
set_option linter.unusedSimpArgs false
open Go.RowKit
/-- what is left, as the program keeps it -/
def leC (l : Int) : Int := if 0 < l then l else 0
structure ArM (w : World) (ab mb : Nat) (db : Nat → Nat) (GD : Nat → Nat → Prop) (GA : Nat → Prop) (a : ArS) : Prop where
  c0 : w.cell? ⟨ab, 0, none⟩ = some (.slice (some ⟨mb, 0, none⟩) a.D.length a.D.length)
  c1 : w.cell? ⟨ab, 1, none⟩ = some (.int .i64 (leC a.left))
  c2 : w.cell? ⟨ab, 2, none⟩ = some (.bool a.off)
  f1 : w.frozen? ⟨ab, 1, none⟩ = false
  f2 : w.frozen? ⟨ab, 2, none⟩ = false
  m0 : ∀ i, i < a.D.length → w.cell? ⟨mb, i * 2, none⟩ = some (.pointer (some ⟨db i, 0, none⟩))
  m1 : ∀ i, i < a.D.length → w.cell? ⟨mb, i * 2 + 1, none⟩ = some (.int .i64 (a.B.getD i 0))
  fm : ∀ i, i < a.D.length → w.frozen? ⟨mb, i * 2 + 1, none⟩ = false
  dk : ∀ i, i < a.D.length → DiskAt w (db i) (GD i) (a.D.getD i default)
  sep : ∀ i j, i < a.D.length → j < a.D.length → i ≠ j → ∀ k, GD i k → ¬ GD j k
  sa : ∀ i, i < a.D.length → ¬ GD i ab ∧ ¬ GD i mb
  ne : ab ≠ mb
  ga : GA ab
  gm : GA mb
  gd : ∀ i, i < a.D.length → ∀ k, GD i k → GA k
  lt : ∀ k, GA k → k < w.heap.size
  d1 : 1 ≤ a.D.length
  d2 : a.D.length ≤ 32
  b : a.B.length = a.D.length
  wl : (Lit.int .i64 a.left).wf = true
def ArIn (w : World) (ab mb : Nat) (db : Nat → Nat) (GD : Nat → Nat → Prop) (GA : Nat → Prop) (a : ArS) : Prop := ArM w ab mb db GD GA a ∧ a.Ok
def ArAt (w : World) (ab : Nat) (GA : Nat → Prop) (a : ArS) : Prop := ∃ mb db GD, ArIn w ab mb db GD GA a
/-- what a call on an array leaves -/
def LeavesA (w : World) (ab : Nat) (GA : Nat → Prop) (a' : ArS) (x : Value) (e : Ending) (w' : World) : Prop := e = .returned x ∧ ∃ GA', ArAt w' ab GA' a' ∧ Grew GA w GA' w'
section
variable {w w' : World} {ab mb : Nat} {db : Nat → Nat} {GD : Nat → Nat → Prop} {GA : Nat → Prop} {a : ArS}
theorem ArM.keep (h : ArM w ab mb db GD GA a) (hk : ∀ k, GA k → w'.heap[k]? = w.heap[k]?) (hs : w.heap.size ≤ w'.heap.size) : ArM w' ab mb db GD GA a where
  c0 := (World.cell?_of_block (w := w) (hk ab h.ga)).trans h.c0
  c1 := (World.cell?_of_block (w := w) (hk ab h.ga)).trans h.c1
  c2 := (World.cell?_of_block (w := w) (hk ab h.ga)).trans h.c2
  f1 := (World.frozen?_of_block (w := w) (hk ab h.ga)).trans h.f1
  f2 := (World.frozen?_of_block (w := w) (hk ab h.ga)).trans h.f2
  m0 := fun i hi => (World.cell?_of_block (w := w) (hk mb h.gm)).trans (h.m0 i hi)
  m1 := fun i hi => (World.cell?_of_block (w := w) (hk mb h.gm)).trans (h.m1 i hi)
  fm := fun i hi => (World.frozen?_of_block (w := w) (hk mb h.gm)).trans (h.fm i hi)
  dk := fun i hi => (h.dk i hi).keep (fun k hk2 => hk k (h.gd i hi k hk2)) hs
  sep := h.sep
  sa := h.sa
  ne := h.ne
  ga := h.ga
  gm := h.gm
  gd := h.gd
  lt := fun k hk2 => Nat.lt_of_lt_of_le (h.lt k hk2) hs
  d1 := h.d1
  d2 := h.d2
  b := h.b
  wl := h.wl
theorem ArM.below (h : ArM w ab mb db GD GA a) (hb : Below w.heap.size w w') : ArM w' ab mb db GD GA a := h.keep (fun k hk => hb.block k (h.lt k hk)) hb.size
theorem ArIn.below (h : ArIn w ab mb db GD GA a) (hb : Below w.heap.size w w') : ArIn w' ab mb db GD GA a := ⟨h.1.below hb, h.2⟩
theorem ArAt.below (h : ArAt w ab GA a) (hb : Below w.heap.size w w') : ArAt w' ab GA a := by
  obtain ⟨mb, db, GD, h⟩ := h
  exact ⟨mb, db, GD, h.below hb⟩
theorem ArAt.keep (h : ArAt w ab GA a) (hk : ∀ k, GA k → w'.heap[k]? = w.heap[k]?) (hs : w.heap.size ≤ w'.heap.size) : ArAt w' ab GA a := by
  obtain ⟨mb, db, GD, h1, h2⟩ := h
  exact ⟨mb, db, GD, h1.keep hk hs, h2⟩
theorem ArAt.lt (h : ArAt w ab GA a) : ∀ k, GA k → k < w.heap.size := by
  obtain ⟨mb, db, GD, h, _⟩ := h
  exact h.lt
theorem ArAt.ok (h : ArAt w ab GA a) : a.Ok := by
  obtain ⟨mb, db, GD, _, h⟩ := h
  exact h
theorem getD_set {α : Type} {l : List α} {i j : Nat} {x d : α} (hi : i < l.length) : (l.set i x).getD j d = if j = i then x else l.getD j d := by
  by_cases e : j = i
  · subst e
    simp [List.getD, hi]
  · simp only [List.getD, List.getElem?_set, if_neg (fun h => e (h.symm) : ¬ i = j), if_neg e]
/-- a disk of the array was changed -/
theorem ArM.disk (h : ArM w ab mb db GD GA a) {i : Nat} (hi : i < a.D.length) {G' : Nat → Prop} {d' : DkS} (hD : DiskAt w' (db i) G' d') (g : Grew (GD i) w G' w') :
    ArM w' ab mb db (fun j => if j = i then G' else GD j) (fun k => GA k ∨ G' k) { a with D := a.D.set i d' } ∧ Grew GA w (fun k => GA k ∨ G' k) w' := by
  have na : ¬ GD i ab := (h.sa i hi).1
  have nm : ¬ GD i mb := (h.sa i hi).2
  have la := h.lt _ h.ga
  have lm := h.lt _ h.gm
  have hl : (a.D.set i d').length = a.D.length := by simp
  have hS : ∀ k, G' k → GD i k ∨ w.heap.size ≤ k := g.grow
  refine ⟨⟨?_, ?_, ?_, ?_, ?_, ?_, ?_, ?_, ?_, ?_, ?_, h.ne, Or.inl h.ga, Or.inl h.gm, ?_, ?_, ?_, ?_, ?_, h.wl⟩, ?_⟩
  · show _ = some (Value.slice _ (a.D.set i d').length (a.D.set i d').length)
    rw [hl]; exact (g.turn.cell (p := ⟨ab, 0, none⟩) la na).trans h.c0
  · exact (g.turn.cell (p := ⟨ab, 1, none⟩) la na).trans h.c1
  · exact (g.turn.cell (p := ⟨ab, 2, none⟩) la na).trans h.c2
  · exact (g.turn.frozen (p := ⟨ab, 1, none⟩) la na).trans h.f1
  · exact (g.turn.frozen (p := ⟨ab, 2, none⟩) la na).trans h.f2
  · intro j hj
    exact (g.turn.cell (p := ⟨mb, j * 2, none⟩) lm nm).trans (h.m0 j (hl ▸ hj))
  · intro j hj
    exact (g.turn.cell (p := ⟨mb, j * 2 + 1, none⟩) lm nm).trans (h.m1 j (hl ▸ hj))
  · intro j hj
    exact (g.turn.frozen (p := ⟨mb, j * 2 + 1, none⟩) lm nm).trans (h.fm j (hl ▸ hj))
  · intro j hj
    have hj2 : j < a.D.length := hl ▸ hj
    show DiskAt w' (db j) (if j = i then G' else GD j) ((a.D.set i d').getD j default)
    rw [getD_set hi]
    by_cases e : j = i
    · subst e
      rw [if_pos rfl, if_pos rfl]
      exact hD
    · rw [if_neg e, if_neg e]
      exact (h.dk j hj2).apart g (fun k hk hk2 => h.sep i j hi hj2 (fun e2 => e e2.symm) k hk hk2)
  · intro j l hj hl2 hne k hk hk2
    have hj2 : j < a.D.length := hl ▸ hj
    have hl3 : l < a.D.length := hl ▸ hl2
    replace hk : (if j = i then G' else GD j) k := hk
    replace hk2 : (if l = i then G' else GD l) k := hk2
    by_cases e : j = i
    · rw [if_pos e] at hk
      rw [if_neg (fun e2 => hne (e.trans e2.symm))] at hk2
      rcases hS k hk with h1 | h1
      · exact h.sep i l hi hl3 (fun e2 => hne (e.trans e2)) k h1 hk2
      · have := h.lt k (h.gd l hl3 k hk2); omega
    · rw [if_neg e] at hk
      by_cases e2 : l = i
      · rw [if_pos e2] at hk2
        rcases hS k hk2 with h1 | h1
        · exact h.sep j i hj2 hi e k hk h1
        · have := h.lt k (h.gd j hj2 k hk); omega
      · rw [if_neg e2] at hk2
        exact h.sep j l hj2 hl3 hne k hk hk2
  · intro j hj
    have hj2 : j < a.D.length := hl ▸ hj
    show ¬ (if j = i then G' else GD j) ab ∧ ¬ (if j = i then G' else GD j) mb
    by_cases e : j = i
    · rw [if_pos e]
      exact ⟨g.off la na, g.off lm nm⟩
    · rw [if_neg e]
      exact h.sa j hj2
  · intro j hj k hk
    have hj2 : j < a.D.length := hl ▸ hj
    replace hk : (if j = i then G' else GD j) k := hk
    by_cases e : j = i
    · rw [if_pos e] at hk; exact Or.inr hk
    · rw [if_neg e] at hk; exact Or.inl (h.gd j hj2 k hk)
  · intro k hk
    rcases hk with h1 | h1
    · exact Nat.lt_of_lt_of_le (h.lt k h1) g.turn.size
    · exact hD.lt k h1
  · show 1 ≤ (a.D.set i d').length
    rw [hl]; exact h.d1
  · show (a.D.set i d').length ≤ 32
    rw [hl]; exact h.d2
  · show a.B.length = (a.D.set i d').length
    rw [hl]; exact h.b
  · refine g.wide (fun k hk => h.gd i hi k hk) (fun k hk => ?_)
    rcases hk with h1 | h1
    · exact Or.inl h1
    · rcases g.grow k h1 with h2 | h2
      · exact Or.inl (h.gd i hi k h2)
      · exact Or.inr h2
/-- cells of the array's own: what stands in other blocks stands -/
theorem ArM.own (h : ArM w ab mb db GD GA a) {g j : Nat} {v : Value} (hg : g = ab ∨ g = mb) {i : Nat} (hi : i < a.D.length) : DiskAt (w.setCell ⟨g, j, none⟩ v) (db i) (GD i) (a.D.getD i default) :=
  (h.dk i hi).keep (fun k hk => Below.heap_setCell w ⟨g, j, none⟩ v k (fun e => by
    have e2 : k = g := e
    subst e2
    rcases hg with e3 | e3
    · rw [e3] at hk; exact (h.sa i hi).1 hk
    · rw [e3] at hk; exact (h.sa i hi).2 hk)) (by simp)
theorem ArM.setLeft (h : ArM w ab mb db GD GA a) {l : Int} (hl : (Lit.int .i64 l).wf = true) : ArM (w.setCell ⟨ab, 1, none⟩ (.int .i64 (leC l))) ab mb db GD GA { a with left := l } := by
  have c1 := h.c1
  have f1 := h.f1
  have hb : ∀ k, k ≠ ab → (w.setCell ⟨ab, 1, none⟩ (.int .i64 (leC l))).heap[k]? = w.heap[k]? := fun k hk => Below.heap_setCell w ⟨ab, 1, none⟩ _ k hk
  have hm := hb mb h.ne.symm
  refine ⟨?_, ?_, ?_, ?_, ?_, fun i hi => (World.cell?_of_block (w := w) hm).trans (h.m0 i hi), fun i hi => (World.cell?_of_block (w := w) hm).trans (h.m1 i hi), fun i hi => (World.frozen?_of_block (w := w) hm).trans (h.fm i hi), fun i hi => h.own (Or.inl rfl) hi, h.sep, h.sa, h.ne, h.ga, h.gm, h.gd, fun k hk => by simpa using h.lt k hk, h.d1, h.d2, h.b, hl⟩
  · rw [← h.c0]; simp [go_sem]
  · simp [go_sem, c1]
  · rw [← h.c2]; simp [go_sem]
  · simp [go_sem, f1]
  · rw [← h.f2]; simp [go_sem]
theorem ArM.setOff (h : ArM w ab mb db GD GA a) (x : Bool) : ArM (w.setCell ⟨ab, 2, none⟩ (.bool x)) ab mb db GD GA { a with off := x } := by
  have c2 := h.c2
  have f2 := h.f2
  have hb : ∀ k, k ≠ ab → (w.setCell ⟨ab, 2, none⟩ (.bool x)).heap[k]? = w.heap[k]? := fun k hk => Below.heap_setCell w ⟨ab, 2, none⟩ _ k hk
  have hm := hb mb h.ne.symm
  refine ⟨?_, ?_, ?_, ?_, ?_, fun i hi => (World.cell?_of_block (w := w) hm).trans (h.m0 i hi), fun i hi => (World.cell?_of_block (w := w) hm).trans (h.m1 i hi), fun i hi => (World.frozen?_of_block (w := w) hm).trans (h.fm i hi), fun i hi => h.own (Or.inl rfl) hi, h.sep, h.sa, h.ne, h.ga, h.gm, h.gd, fun k hk => by simpa using h.lt k hk, h.d1, h.d2, h.b, h.wl⟩
  · rw [← h.c0]; simp [go_sem]
  · rw [← h.c1]; simp [go_sem]
  · simp [go_sem, c2]
  · rw [← h.f1]; simp [go_sem]
  · simp [go_sem, f2]
theorem cell_set_ne (w : World) {g i j : Nat} (v : Value) (h : i ≠ j) : (w.setCell ⟨g, j, none⟩ v).cell? ⟨g, i, none⟩ = w.cell? ⟨g, i, none⟩ := by
  simp [go_sem, h]
theorem cell_set_eq {w : World} {g j : Nat} {u : Value} (v : Value) (h : w.cell? ⟨g, j, none⟩ = some u) : (w.setCell ⟨g, j, none⟩ v).cell? ⟨g, j, none⟩ = some v := by
  simp [go_sem, h]
theorem frozen_set (w : World) {g i j : Nat} (v : Value) : (w.setCell ⟨g, j, none⟩ v).frozen? ⟨g, i, none⟩ = w.frozen? ⟨g, i, none⟩ := by
  simp [go_sem]
/-- a birth more -/
theorem ArM.setBorn (h : ArM w ab mb db GD GA a) {i : Nat} (hi : i < a.D.length) (z : Int) : ArM (w.setCell ⟨mb, i * 2 + 1, none⟩ (.int .i64 z)) ab mb db GD GA { a with B := a.B.set i z } := by
  have hb : ∀ k, k ≠ mb → (w.setCell ⟨mb, i * 2 + 1, none⟩ (.int .i64 z)).heap[k]? = w.heap[k]? := fun k hk => Below.heap_setCell w ⟨mb, i * 2 + 1, none⟩ _ k hk
  have hm := hb ab h.ne
  have hB : i < a.B.length := by rw [h.b]; exact hi
  refine ⟨(World.cell?_of_block (w := w) hm).trans h.c0, (World.cell?_of_block (w := w) hm).trans h.c1, (World.cell?_of_block (w := w) hm).trans h.c2, (World.frozen?_of_block (w := w) hm).trans h.f1, (World.frozen?_of_block (w := w) hm).trans h.f2, fun j hj => ?_, fun j hj => ?_, fun j hj => ?_, fun i hi => h.own (Or.inr rfl) hi, h.sep, h.sa, h.ne, h.ga, h.gm, h.gd, fun k hk => by simpa using h.lt k hk, h.d1, h.d2, ?_, h.wl⟩
  · rw [cell_set_ne w _ (by omega)]; exact h.m0 j hj
  · show _ = some (Value.int .i64 ((a.B.set i z).getD j 0))
    rw [getD_set hB]
    by_cases e : j = i
    · subst e
      rw [if_pos rfl]
      exact cell_set_eq _ (h.m1 j hj)
    · rw [if_neg e, cell_set_ne w _ (by omega)]; exact h.m1 j hj
  · rw [frozen_set]; exact h.fm j hj
  · show (a.B.set i z).length = _
    simp; exact h.b
end
end Go.Proofs.YtddnfhfangfgeaaGreat.Gf

namespace Go.Proofs.YtddnfhfangfgeaaGreat.Gf
set_option linter.unusedVariables false
set_option linter.unusedSimpArgs false
open Go.RowKit
section
variable {w : World} {ab mb : Nat} {db : Nat → Nat} {GD : Nat → Nat → Prop} {GA : Nat → Prop} {a : ArS}
theorem amem_at {n : Nat} (c0 : w.cell? ⟨ab, 0, none⟩ = some (.slice (some ⟨mb, 0, none⟩) n n)) {j : Nat} (hj : j < n) : Calls Tryz.prog 56 #[.pointer (some ⟨ab, 0, none⟩), .int .i64 (j : Int)] w fun e w' => e = .returned (.pointer (some ⟨mb, j * 2, none⟩)) ∧ w' = w := by
  have q1 : ¬ (j : Int) < 0 := by omega
  have q2 : ¬ (j : Int) ≥ (n : Int) := by omega
  have q3 : (j : Int) < (n : Int) := by omega
  go_enter Tryz.func56, Tryz.ntmps56
  go_wp2
  go_ret
  exact ⟨rfl, rfl⟩
theorem amem_no {n : Nat} (c0 : w.cell? ⟨ab, 0, none⟩ = some (.slice (some ⟨mb, 0, none⟩) n n)) {i : Int} (hi : ¬ (0 ≤ i ∧ i < (n : Int))) : Calls Tryz.prog 56 #[.pointer (some ⟨ab, 0, none⟩), .int .i64 i] w fun e w' => e = .returned (.pointer none) ∧ w' = w := by
  by_cases q1 : i < 0
  · go_enter Tryz.func56, Tryz.ntmps56
    go_wp2
    go_ret
    exact ⟨rfl, rfl⟩
  · have q2 : i ≥ (n : Int) := by omega
    go_enter Tryz.func56, Tryz.ntmps56
    go_wp2
    go_ret
    exact ⟨rfl, rfl⟩
theorem aref_any {x : Bool} (c2 : w.cell? ⟨ab, 2, none⟩ = some (.bool x)) : Calls Tryz.prog 115 #[.pointer (some ⟨ab, 0, none⟩)] w fun e w' => e = .returned (.int .i64 (if x = true then 130 else 0)) ∧ w' = w := by
  cases x
  · go_enter Tryz.func115, Tryz.ntmps115
    go_wp2
    go_ret
    exact ⟨rfl, rfl⟩
  · go_enter Tryz.func115, Tryz.ntmps115
    go_wp2
    go_ret
    exact ⟨rfl, rfl⟩
theorem apow_off (c2 : w.cell? ⟨ab, 2, none⟩ = some (.bool true)) {i : Int} : Calls Tryz.prog 108 #[.pointer (some ⟨ab, 0, none⟩), .int .i64 i] w fun e w' => e = .returned (.tuple #[.pointer none, .int .i64 130]) ∧ w' = w := by
  have K := aref_any c2
  simp only [if_true] at K
  go_enter Tryz.func108, Tryz.ntmps108
  go_wp2_with fail
  refine K.mono ?_
  rintro _ wq ⟨rfl, hwq⟩
  rw [hwq]
  clear hwq wq K
  go_wp2
  refine bodyPost_ret (v := .tuple #[.pointer none, .int .i64 130]) (by simp [results, Tryz.results108, go_sem]) rfl ?_
  exact ⟨rfl, rfl⟩
theorem apow_no {n : Nat} (c0 : w.cell? ⟨ab, 0, none⟩ = some (.slice (some ⟨mb, 0, none⟩) n n)) (c2 : w.cell? ⟨ab, 2, none⟩ = some (.bool false)) {i : Int} (hi : ¬ (0 ≤ i ∧ i < (n : Int))) : Calls Tryz.prog 108 #[.pointer (some ⟨ab, 0, none⟩), .int .i64 i] w fun e w' => e = .returned (.tuple #[.pointer none, .int .i64 1]) ∧ w' = w := by
  have K := aref_any c2
  have KM := amem_no c0 hi
  simp only [Bool.false_eq_true, if_false] at K
  go_enter Tryz.func108, Tryz.ntmps108
  go_wp2_with fail
  refine K.mono ?_
  rintro _ wq ⟨rfl, hwq⟩
  rw [hwq]
  clear hwq wq K
  go_wp2_with fail
  refine KM.mono ?_
  rintro _ wq ⟨rfl, hwq⟩
  rw [hwq]
  clear hwq wq KM
  go_wp2
  refine bodyPost_ret (v := .tuple #[.pointer none, .int .i64 1]) (by simp [results, Tryz.results108, go_sem]) rfl ?_
  exact ⟨rfl, rfl⟩
theorem apow_at {n : Nat} (c0 : w.cell? ⟨ab, 0, none⟩ = some (.slice (some ⟨mb, 0, none⟩) n n)) (c2 : w.cell? ⟨ab, 2, none⟩ = some (.bool false)) {j : Nat} (hj : j < n) : Calls Tryz.prog 108 #[.pointer (some ⟨ab, 0, none⟩), .int .i64 (j : Int)] w fun e w' => e = .returned (.tuple #[.pointer (some ⟨mb, j * 2, none⟩), .int .i64 0]) ∧ w' = w := by
  have K := aref_any c2
  have KM := amem_at c0 hj
  simp only [Bool.false_eq_true, if_false] at K
  go_enter Tryz.func108, Tryz.ntmps108
  go_wp2_with fail
  refine K.mono ?_
  rintro _ wq ⟨rfl, hwq⟩
  rw [hwq]
  clear hwq wq K
  go_wp2_with fail
  refine KM.mono ?_
  rintro _ wq ⟨rfl, hwq⟩
  rw [hwq]
  clear hwq wq KM
  go_wp2
  refine bodyPost_ret (v := .tuple #[.pointer (some ⟨mb, j * 2, none⟩), .int .i64 0]) (by simp [results, Tryz.results108, go_sem]) rfl ?_
  exact ⟨rfl, rfl⟩
/-- a write that was done is counted -/
theorem acount_any (h : ArM w ab mb db GD GA a) : Calls Tryz.prog 110 #[.pointer (some ⟨ab, 0, none⟩)] w fun e w' => e = .returned (.tuple #[]) ∧ ArM w' ab mb db GD GA (tickA a) ∧ TurnG GA w w' := by
  have c1 := h.c1
  have c2 := h.c2
  have f1 := h.f1
  have f2 := h.f2
  by_cases hl : 0 < a.left
  · have eL : leC a.left = a.left := if_pos hl
    have wb := bounds_i64 h.wl
    have hwf : (Lit.int .i64 (a.left - 1)).wf = true := by simp [Lit.wf, IntKind.min, IntKind.max, IntKind.signed, IntKind.bits]; omega
    have M1 := (h.setLeft hwf).setOff (decide (a.left - 1 = 0))
    have eL2 : leC (a.left - 1) = a.left - 1 := by unfold leC; split <;> omega
    have eT : tickA a = { { a with left := a.left - 1 } with off := decide (a.left - 1 = 0) } := if_pos hl
    rw [eL2] at M1
    have FIN : Hid (ArM ((w.setCell ⟨ab, 1, none⟩ (.int .i64 (a.left - 1))).setCell ⟨ab, 2, none⟩ (.bool (decide (a.left - 1 = 0)))) ab mb db GD GA (tickA a) ∧ TurnG GA w ((w.setCell ⟨ab, 1, none⟩ (.int .i64 (a.left - 1))).setCell ⟨ab, 2, none⟩ (.bool (decide (a.left - 1 = 0))))) := by
      rw [eT]
      exact ⟨M1, (setCell_turnG h.ga).trans (setCell_turnG h.ga)⟩
    clear M1 eT eL2 hwf
    rw [eL] at c1
    have q0 : ¬ a.left = 0 := by omega
    have q1 : (a.left == 0) = false := beq_eq_false_iff_ne.2 q0
    have g1 : IntKind.i64.wrap (a.left - 1) = a.left - 1 := by rw [IntKind.wrap_i64]; omega
    have q2 : (a.left - 1 == 0) = decide (a.left - 1 = 0) := by by_cases e : a.left - 1 = 0 <;> simp [e]
    clear h wb eL hl
    go_enter Tryz.func110, Tryz.ntmps110
    go_wp2
    go_end0
    exact ⟨rfl, FIN.out⟩
  · have eL : leC a.left = 0 := if_neg hl
    have eT : tickA a = a := if_neg hl
    have FIN : Hid (ArM w ab mb db GD GA (tickA a)) := by rw [eT]; exact h
    rw [eL] at c1
    clear h eT eL
    go_enter Tryz.func110, Tryz.ntmps110
    go_wp2
    refine bodyPost_ret (v := .tuple #[]) (by simp [results, Tryz.results110, go_sem]) rfl ?_
    exact ⟨rfl, FIN.out, TurnG.refl _ _⟩
end
end Go.Proofs.YtddnfhfangfgeaaGreat.Gf

namespace Go.Proofs.YtddnfhfangfgeaaGreat.Gf
set_option linter.unusedVariables false
set_option linter.unusedSimpArgs false
open Go.RowKit
section
variable {w : World} {ab : Nat} {GA : Nat → Prop} {a : ArS}
theorem th_at {a : ArS} {i : Int} (h : thA a i) : ∃ j : Nat, i = (j : Int) ∧ j < a.D.length := ⟨i.toNat, by have := h.1; omega, by have := h.1; have := h.2; omega⟩
theorem wrS_no {d : DkS} {x : Int} {b : List UInt8} (h : ¬ wrX d x b = 0) : wrS d x b = d := by
  unfold wrS
  rw [if_neg]
  rintro ⟨h1, h2⟩
  exact h (by unfold wrX; rw [if_pos h1, if_pos h2])
theorem set_self {α : Type} (l : List α) (j : Nat) (d : α) (h : j < l.length) : l.set j (l.getD j d) = l := by
  rw [show l.getD j d = l[j] by simp [List.getD, h]]
  exact List.set_getElem_self h
theorem setA_same {a : ArS} {j : Nat} (h : j < a.D.length) : ({ a with D := a.D.set j (a.D.getD j default) } : ArS) = a := by rw [set_self _ _ _ h]
theorem stays {a' : ArS} (h : ArAt w ab GA a) (e : a' = a) : ∃ GA', ArAt w ab GA' a' ∧ Grew GA w GA' w := ⟨GA, by rw [e]; exact h, Grew.refl _ _⟩
set_option maxRecDepth 100000 in
theorem awrite_any (h : ArAt w ab GA a) {i ad : Int} (hi : (Lit.int .i64 i).wf = true) (ha : (Lit.int .i64 ad).wf = true) {v : Value} {p : List UInt8} (hp : Rd w v p) :
    Calls Tryz.prog 70 #[.pointer (some ⟨ab, 0, none⟩), .int .i64 i, .int .i64 ad, v] w (LeavesA w ab GA (wrAS a i ad p) (.int .i64 (wrAX a i ad p))) := by
  have h0 := h
  obtain ⟨mb, db, GD, hM, ok⟩ := h
  obtain ⟨va, vc, rfl⟩ := hp.form
  cases ho : a.off with
  | true =>
    have c2 := hM.c2
    rw [ho] at c2
    have K := @apow_off w ab c2 i
    rw [show wrAX a i ad p = 130 from if_pos ho]
    have FIN : Hid (∃ GA', ArAt w ab GA' (wrAS a i ad p) ∧ Grew GA w GA' w) := stays h0 (if_pos ho)
    clear h0 hM ok c2
    go_enter Tryz.func70, Tryz.ntmps70
    go_wp2_with fail
    refine K.mono ?_
    rintro _ wq ⟨rfl, hwq⟩
    rw [hwq]
    clear hwq wq K
    go_wp2
    go_ret
    exact ⟨rfl, FIN.out⟩
  | false =>
    have no : ¬ a.off = true := by rw [ho]; simp
    have c0 := hM.c0
    have c2 := hM.c2
    rw [ho] at c2
    by_cases ht : thA a i
    · have eX : wrAX a i ad p = wrX (diA a i) ad p := by unfold wrAX; rw [if_neg no, if_pos ht]
      have eS : wrAS a i ad p = if wrX (diA a i) ad p = 0 then tickA (setA a i (wrS (diA a i) ad p)) else a := by unfold wrAS; rw [if_neg no, if_pos ht]
      have okS := wrAS_ok ok i ad p
      obtain ⟨j, rfl, hj⟩ := th_at ht
      have KP := @apow_at w ab mb _ c0 c2 j hj
      have KW := dwrite_any (hM.dk j hj) ha hp
      have m0 := hM.m0 j hj
      have eD : diA a (j : Int) = a.D.getD j default := rfl
      rw [eX, eS]
      rw [eS] at okS
      rw [eD] at okS ⊢
      clear eX eS eD
      obtain ⟨d, hd⟩ : ∃ d, d = a.D.getD j default := ⟨_, rfl⟩
      rw [← hd] at KW okS ⊢
      by_cases hx : wrX d ad p = 0
      · rw [hx] at KW ⊢
        rw [if_pos rfl]
        rw [hx, if_pos rfl] at okS
        go_enter Tryz.func70, Tryz.ntmps70
        go_wp2_with fail
        refine KP.mono ?_
        rintro _ wq ⟨rfl, hwq⟩
        rw [hwq]
        clear hwq wq KP
        go_wp2_with fail
        refine KW.mono ?_
        rintro _ w1 ⟨rfl, G1, D1, g1⟩
        obtain ⟨M1, gg1⟩ := hM.disk hj D1 g1
        have KC := acount_any M1
        have FIN : Hid (∀ w2, ArM w2 ab mb db (fun k => if k = j then G1 else GD k) (fun k => GA k ∨ G1 k) (tickA { a with D := a.D.set j (wrS d ad p) }) → TurnG (fun k => GA k ∨ G1 k) w1 w2 → ∃ GA', ArAt w2 ab GA' (tickA (setA a (j : Int) (wrS d ad p))) ∧ Grew GA w GA' w2) := fun w2 M2 t2 =>
          ⟨_, ⟨mb, db, _, M2, okS⟩, gg1.trans (Grew.of_turn t2)⟩
        clear M1 gg1 D1 g1 KW hM ok h0 okS c0 c2 m0 hp hd
        go_wp2_with fail
        refine KC.mono ?_
        rintro _ w2 ⟨rfl, M2, t2⟩
        have F2 : Hid (∃ GA', ArAt w2 ab GA' (tickA (setA a (j : Int) (wrS d ad p))) ∧ Grew GA w GA' w2) := FIN.out w2 M2 t2
        clear M2 t2 FIN KC
        go_wp2
        go_ret
        exact ⟨rfl, F2.out⟩
      · rw [if_neg hx]
        have eQ : wrS d ad p = d := wrS_no hx
        rw [eQ] at KW
        obtain ⟨x, hxx⟩ : ∃ x, x = wrX d ad p := ⟨_, rfl⟩
        rw [← hxx] at KW hx ⊢
        have q1 : (x == 0) = false := beq_eq_false_iff_ne.2 hx
        go_enter Tryz.func70, Tryz.ntmps70
        go_wp2_with fail
        refine KP.mono ?_
        rintro _ wq ⟨rfl, hwq⟩
        rw [hwq]
        clear hwq wq KP
        go_wp2_with fail
        refine KW.mono ?_
        rintro _ w1 ⟨rfl, G1, D1, g1⟩
        obtain ⟨M1, gg1⟩ := hM.disk hj D1 g1
        have F2 : Hid (∃ GA', ArAt w1 ab GA' a ∧ Grew GA w GA' w1) := ⟨_, ⟨mb, db, _, by
          have e2 : ({ a with D := a.D.set j d } : ArS) = a := by rw [hd]; exact setA_same hj
          rw [e2] at M1
          exact M1, ok⟩, gg1⟩
        clear M1 gg1 D1 g1 KW hM ok h0 okS c0 c2 m0 hp hd hxx eQ
        go_wp2
        go_ret
        exact ⟨rfl, F2.out⟩
    · have K := @apow_no w ab mb _ c0 c2 i ht
      rw [show wrAX a i ad p = 1 by unfold wrAX; rw [if_neg no, if_neg ht]]
      have FIN : Hid (∃ GA', ArAt w ab GA' (wrAS a i ad p) ∧ Grew GA w GA' w) := stays h0 (by unfold wrAS; rw [if_neg no, if_neg ht])
      clear h0 hM ok c2 c0
      go_enter Tryz.func70, Tryz.ntmps70
      go_wp2_with fail
      refine K.mono ?_
      rintro _ wq ⟨rfl, hwq⟩
      rw [hwq]
      clear hwq wq K
      go_wp2
      go_ret
      exact ⟨rfl, FIN.out⟩
theorem aread_any (h : ArAt w ab GA a) {i ad : Int} (hi : (Lit.int .i64 i).wf = true) (ha : (Lit.int .i64 ad).wf = true) :
    Calls Tryz.prog 72 #[.pointer (some ⟨ab, 0, none⟩), .int .i64 i, .int .i64 ad] w (Tells w (rdAX a i ad) (rdAB a i ad)) := by
  obtain ⟨mb, db, GD, hM, ok⟩ := h
  cases ho : a.off with
  | true =>
    have c2 := hM.c2
    rw [ho] at c2
    have K := @apow_off w ab c2 i
    rw [show rdAX a i ad = 130 from if_pos ho, show rdAB a i ad = [] from if_pos ho]
    clear hM ok c2
    go_enter Tryz.func72, Tryz.ntmps72
    go_wp2_with fail
    refine K.mono ?_
    rintro _ wq ⟨rfl, hwq⟩
    rw [hwq]
    clear hwq wq K
    go_wp2
    refine bodyPost_ret (v := .tuple #[.slice none 0 0, .int .i64 130]) (by simp [results, Tryz.results72, go_sem]) rfl ?_
    exact ⟨_, rfl, own_none _ _ _, Below.refl _ _⟩
  | false =>
    have no : ¬ a.off = true := by rw [ho]; simp
    have c0 := hM.c0
    have c2 := hM.c2
    rw [ho] at c2
    by_cases ht : thA a i
    · rw [show rdAX a i ad = faX (diA a i) ad by unfold rdAX; rw [if_neg no, if_pos ht], show rdAB a i ad = rdB (diA a i) ad by unfold rdAB; rw [if_neg no, if_pos ht]]
      obtain ⟨j, rfl, hj⟩ := th_at ht
      have KP := @apow_at w ab mb _ c0 c2 j hj
      have KR := dread_any (hM.dk j hj) ha
      have m0 := hM.m0 j hj
      rw [show diA a (j : Int) = a.D.getD j default from rfl]
      obtain ⟨x, hx⟩ : ∃ x, x = faX (a.D.getD j default) ad := ⟨_, rfl⟩
      obtain ⟨r, hr⟩ : ∃ r, r = rdB (a.D.getD j default) ad := ⟨_, rfl⟩
      rw [← hx, ← hr] at KR ⊢
      clear hM ok hx hr ht c0 c2
      go_enter Tryz.func72, Tryz.ntmps72
      go_wp2_with fail
      refine KP.mono ?_
      rintro _ wq ⟨rfl, hwq⟩
      rw [hwq]
      clear hwq wq KP
      go_wp2_with fail
      refine KR.mono ?_
      rintro _ w1 ⟨v, rfl, O1, B1⟩
      go_wp2
      refine bodyPost_ret (v := .tuple #[v, .int .i64 x]) (by simp [results, Tryz.results72, go_sem]) rfl ?_
      exact ⟨_, rfl, O1, B1⟩
    · have K := @apow_no w ab mb _ c0 c2 i ht
      rw [show rdAX a i ad = 1 by unfold rdAX; rw [if_neg no, if_neg ht], show rdAB a i ad = [] by unfold rdAB; rw [if_neg no, if_neg ht]]
      clear hM ok c2 c0
      go_enter Tryz.func72, Tryz.ntmps72
      go_wp2_with fail
      refine K.mono ?_
      rintro _ wq ⟨rfl, hwq⟩
      rw [hwq]
      clear hwq wq K
      go_wp2
      refine bodyPost_ret (v := .tuple #[.slice none 0 0, .int .i64 1]) (by simp [results, Tryz.results72, go_sem]) rfl ?_
      exact ⟨_, rfl, own_none _ _ _, Below.refl _ _⟩
theorem afail_any (h : ArAt w ab GA a) {i : Int} (hi : (Lit.int .i64 i).wf = true) :
    Calls Tryz.prog 20 #[.pointer (some ⟨ab, 0, none⟩), .int .i64 i] w (LeavesA w ab GA (faAS a i) (.int .i64 (thX a i))) := by
  have h0 := h
  obtain ⟨mb, db, GD, hM, ok⟩ := h
  have c0 := hM.c0
  by_cases ht : thA a i
  · have okS := faAS_ok ok i
    have eS : faAS a i = bornA (setA a i (faS (diA a i))) i := if_pos ht
    rw [show thX a i = 0 from if_pos ht]
    rw [eS] at okS ⊢
    obtain ⟨j, rfl, hj⟩ := th_at ht
    have KP := @amem_at w ab mb _ c0 j hj
    have KW := dfail_any (hM.dk j hj)
    have m0 := hM.m0 j hj
    rw [show diA a (j : Int) = a.D.getD j default from rfl] at okS ⊢
    obtain ⟨d, hd⟩ : ∃ d, d = a.D.getD j default := ⟨_, rfl⟩
    rw [← hd] at KW okS ⊢
    go_enter Tryz.func20, Tryz.ntmps20
    go_wp2_with fail
    refine KP.mono ?_
    rintro _ wq ⟨rfl, hwq⟩
    rw [hwq]
    clear hwq wq KP
    go_wp2_with fail
    refine KW.mono ?_
    rintro _ w1 ⟨rfl, G1, D1, g1⟩
    obtain ⟨M1, gg1⟩ := hM.disk hj D1 g1
    have hj1 : j < (a.D.set j (faS d)).length := by simpa using hj
    have m1 : w1.cell? ⟨mb, j * 2 + 1, none⟩ = some (.int .i64 (a.B.getD j 0)) := M1.m1 j hj1
    have fm := M1.fm j hj1
    have M2 := M1.setBorn hj1 (IntKind.i64.wrap (a.B.getD j 0 + 1))
    have FIN : Hid (∃ GA', ArAt (w1.setCell ⟨mb, j * 2 + 1, none⟩ (.int .i64 (IntKind.i64.wrap (a.B.getD j 0 + 1)))) ab GA' (bornA (setA a (j : Int) (faS d)) (j : Int)) ∧ Grew GA w GA' (w1.setCell ⟨mb, j * 2 + 1, none⟩ (.int .i64 (IntKind.i64.wrap (a.B.getD j 0 + 1))))) :=
      ⟨_, ⟨mb, db, _, M2, okS⟩, gg1.trans (Grew.of_turn (setCell_turnG (Or.inl hM.gm)))⟩
    obtain ⟨z, hz⟩ : ∃ z, z = a.B.getD j 0 := ⟨_, rfl⟩
    rw [← hz] at m1 FIN
    obtain ⟨z1, gz⟩ : ∃ z1, IntKind.i64.wrap (z + 1) = z1 := ⟨_, rfl⟩
    rw [gz] at FIN
    clear M1 M2 gg1 D1 g1 KW hM ok h0 okS c0 m0 hd hj1 hz
    go_wp2
    go_ret
    exact ⟨rfl, FIN.out⟩
  · have K := @amem_no w ab mb _ c0 i ht
    rw [show thX a i = 1 from if_neg ht]
    have FIN : Hid (∃ GA', ArAt w ab GA' (faAS a i) ∧ Grew GA w GA' w) := stays h0 (if_neg ht)
    clear h0 hM ok c0
    go_enter Tryz.func20, Tryz.ntmps20
    go_wp2_with fail
    refine K.mono ?_
    rintro _ wq ⟨rfl, hwq⟩
    rw [hwq]
    clear hwq wq K
    go_wp2
    go_ret
    exact ⟨rfl, FIN.out⟩
theorem arepl_any (h : ArAt w ab GA a) {i : Int} (hi : (Lit.int .i64 i).wf = true) :
    Calls Tryz.prog 21 #[.pointer (some ⟨ab, 0, none⟩), .int .i64 i] w (LeavesA w ab GA (rpAS a i) (.int .i64 (thX a i))) := by
  have h0 := h
  obtain ⟨mb, db, GD, hM, ok⟩ := h
  have c0 := hM.c0
  by_cases ht : thA a i
  · have okS := rpAS_ok ok i
    have eS : rpAS a i = bornA (setA a i (reS (diA a i))) i := if_pos ht
    rw [show thX a i = 0 from if_pos ht]
    rw [eS] at okS ⊢
    obtain ⟨j, rfl, hj⟩ := th_at ht
    have KP := @amem_at w ab mb _ c0 j hj
    have KW := drepl_any (hM.dk j hj)
    have m0 := hM.m0 j hj
    rw [show diA a (j : Int) = a.D.getD j default from rfl] at okS ⊢
    obtain ⟨d, hd⟩ : ∃ d, d = a.D.getD j default := ⟨_, rfl⟩
    rw [← hd] at KW okS ⊢
    go_enter Tryz.func21, Tryz.ntmps21
    go_wp2_with fail
    refine KP.mono ?_
    rintro _ wq ⟨rfl, hwq⟩
    rw [hwq]
    clear hwq wq KP
    go_wp2_with fail
    refine KW.mono ?_
    rintro _ w1 ⟨rfl, G1, D1, g1⟩
    obtain ⟨M1, gg1⟩ := hM.disk hj D1 g1
    have hj1 : j < (a.D.set j (reS d)).length := by simpa using hj
    have m1 : w1.cell? ⟨mb, j * 2 + 1, none⟩ = some (.int .i64 (a.B.getD j 0)) := M1.m1 j hj1
    have fm := M1.fm j hj1
    have M2 := M1.setBorn hj1 (IntKind.i64.wrap (a.B.getD j 0 + 1))
    have FIN : Hid (∃ GA', ArAt (w1.setCell ⟨mb, j * 2 + 1, none⟩ (.int .i64 (IntKind.i64.wrap (a.B.getD j 0 + 1)))) ab GA' (bornA (setA a (j : Int) (reS d)) (j : Int)) ∧ Grew GA w GA' (w1.setCell ⟨mb, j * 2 + 1, none⟩ (.int .i64 (IntKind.i64.wrap (a.B.getD j 0 + 1))))) :=
      ⟨_, ⟨mb, db, _, M2, okS⟩, gg1.trans (Grew.of_turn (setCell_turnG (Or.inl hM.gm)))⟩
    obtain ⟨z, hz⟩ : ∃ z, z = a.B.getD j 0 := ⟨_, rfl⟩
    rw [← hz] at m1 FIN
    obtain ⟨z1, gz⟩ : ∃ z1, IntKind.i64.wrap (z + 1) = z1 := ⟨_, rfl⟩
    rw [gz] at FIN
    clear M1 M2 gg1 D1 g1 KW hM ok h0 okS c0 m0 hd hj1 hz
    go_wp2
    go_ret
    exact ⟨rfl, FIN.out⟩
  · have K := @amem_no w ab mb _ c0 i ht
    rw [show thX a i = 1 from if_neg ht]
    have FIN : Hid (∃ GA', ArAt w ab GA' (rpAS a i) ∧ Grew GA w GA' w) := stays h0 (if_neg ht)
    clear h0 hM ok c0
    go_enter Tryz.func21, Tryz.ntmps21
    go_wp2_with fail
    refine K.mono ?_
    rintro _ wq ⟨rfl, hwq⟩
    rw [hwq]
    clear hwq wq K
    go_wp2
    go_ret
    exact ⟨rfl, FIN.out⟩
theorem acorr_any (h : ArAt w ab GA a) {i ad at_ : Int} (hi : (Lit.int .i64 i).wf = true) (ha : (Lit.int .i64 ad).wf = true) (hat : (Lit.int .i64 at_).wf = true) (y : UInt8) :
    Calls Tryz.prog 22 #[.pointer (some ⟨ab, 0, none⟩), .int .i64 i, .int .i64 ad, .int .i64 at_, .int .u8 ((y.toNat : Nat) : Int)] w (LeavesA w ab GA (coAS a i ad at_ y) (.int .i64 (coAX a i ad))) := by
  have h0 := h
  obtain ⟨mb, db, GD, hM, ok⟩ := h
  have c0 := hM.c0
  by_cases ht : thA a i
  · have okS := coAS_ok ok i ad at_ y
    have eS : coAS a i ad at_ y = setA a i (coS (diA a i) ad at_ y) := if_pos ht
    rw [show coAX a i ad = coX (diA a i) ad from if_pos ht]
    rw [eS] at okS ⊢
    obtain ⟨j, rfl, hj⟩ := th_at ht
    have KP := @amem_at w ab mb _ c0 j hj
    have KW := dcorr_any (hM.dk j hj) ha hat y
    have m0 := hM.m0 j hj
    rw [show diA a (j : Int) = a.D.getD j default from rfl] at okS ⊢
    obtain ⟨x, hx⟩ : ∃ x, x = coX (a.D.getD j default) ad := ⟨_, rfl⟩
    rw [← hx] at KW ⊢
    obtain ⟨d, hd⟩ : ∃ d, d = a.D.getD j default := ⟨_, rfl⟩
    rw [← hd] at KW okS ⊢
    clear hx
    go_enter Tryz.func22, Tryz.ntmps22
    go_wp2_with fail
    refine KP.mono ?_
    rintro _ wq ⟨rfl, hwq⟩
    rw [hwq]
    clear hwq wq KP
    go_wp2_with fail
    refine KW.mono ?_
    rintro _ w1 ⟨rfl, G1, D1, g1⟩
    obtain ⟨M1, gg1⟩ := hM.disk hj D1 g1
    have FIN : Hid (∃ GA', ArAt w1 ab GA' (setA a (j : Int) (coS d ad at_ y)) ∧ Grew GA w GA' w1) := ⟨_, ⟨mb, db, _, M1, okS⟩, gg1⟩
    clear M1 gg1 D1 g1 KW hM ok h0 okS c0 m0 hd
    go_wp2
    go_ret
    exact ⟨rfl, FIN.out⟩
  · have K := @amem_no w ab mb _ c0 i ht
    rw [show coAX a i ad = 1 from if_neg ht]
    have FIN : Hid (∃ GA', ArAt w ab GA' (coAS a i ad at_ y) ∧ Grew GA w GA' w) := stays h0 (if_neg ht)
    clear h0 hM ok c0
    go_enter Tryz.func22, Tryz.ntmps22
    go_wp2_with fail
    refine K.mono ?_
    rintro _ wq ⟨rfl, hwq⟩
    rw [hwq]
    clear hwq wq K
    go_wp2
    go_ret
    exact ⟨rfl, FIN.out⟩
theorem alasts_at (h : ArAt w ab GA a) {j : Nat} (hj : j < a.D.length) : Calls Tryz.prog 29 #[.pointer (some ⟨ab, 0, none⟩), .int .i64 (j : Int)] w fun e w' => ∃ v, e = .returned v ∧ OwnH w' w.heap.size v (heldL (a.D.getD j default).last (a.D.getD j default).s) ∧ Below w.heap.size w w' := by
  obtain ⟨mb, db, GD, hM, ok⟩ := h
  have KP := @amem_at w ab mb _ hM.c0 j hj
  have KW := dlasts_any (hM.dk j hj)
  have m0 := hM.m0 j hj
  clear hM ok
  go_enter Tryz.func29, Tryz.ntmps29
  go_wp2_with fail
  refine KP.mono ?_
  rintro _ wq ⟨rfl, hwq⟩
  rw [hwq]
  clear hwq wq KP
  go_wp2_with fail
  refine KW.mono ?_
  rintro _ w1 ⟨v, rfl, O1, B1⟩
  go_wp2
  go_ret
  exact ⟨_, rfl, O1, B1⟩
theorem awaits_at (h : ArAt w ab GA a) {j : Nat} (hj : j < a.D.length) : Calls Tryz.prog 27 #[.pointer (some ⟨ab, 0, none⟩), .int .i64 (j : Int)] w fun e w' => ∃ v, e = .returned v ∧ OwnH w' w.heap.size v (heldL (a.D.getD j default).wait (a.D.getD j default).s) ∧ Below w.heap.size w w' := by
  obtain ⟨mb, db, GD, hM, ok⟩ := h
  have KP := @amem_at w ab mb _ hM.c0 j hj
  have KW := dwaits_any (hM.dk j hj)
  have m0 := hM.m0 j hj
  clear hM ok
  go_enter Tryz.func27, Tryz.ntmps27
  go_wp2_with fail
  refine KP.mono ?_
  rintro _ wq ⟨rfl, hwq⟩
  rw [hwq]
  clear hwq wq KP
  go_wp2_with fail
  refine KW.mono ?_
  rintro _ w1 ⟨v, rfl, O1, B1⟩
  go_wp2
  go_ret
  exact ⟨_, rfl, O1, B1⟩
end
end Go.Proofs.YtddnfhfangfgeaaGreat.Gf

namespace Go.Proofs.YtddnfhfangfgeaaGreat.Gf
set_option linter.unusedVariables false
set_option linter.unusedSimpArgs false
open Go.RowKit
section
variable {w : World} {ab : Nat} {GA : Nat → Prop} {a : ArS}
theorem RdI.lay {w : World} {v : Value} {p : List Int} (h : RdI w v p) {x : Addr} {n c : Nat} (e : v = .slice (some x) n c) : n = 0 ∨ x.block < w.heap.size := by
  rcases h with ⟨a, c', _, e2⟩ | ⟨b, off, cap, h1, h2, h3, h5, h6⟩
  · subst e2; simp at e; exact Or.inl e.2.1.symm
  · subst h2; simp at e; obtain ⟨rfl, rfl, rfl⟩ := e; exact Or.inr h5
theorem RdI.turnG {G : Nat → Prop} {w w' : World} {v : Value} {p : List Int} (h : RdI w v p) (ha : ApartG G v) (ho : TurnG G w w') : RdI w' v p := by
  rcases h with h | ⟨b, off, cap, h1, h2, h3, h5, h6⟩
  · exact Or.inl h
  · have hb : ¬ G b := by
      rcases ha _ _ _ h2 with e | e
      · exact absurd (List.length_eq_zero_iff.1 e) h1
      · exact e
    exact Or.inr ⟨b, off, cap, h1, h2, h3, Nat.lt_of_lt_of_le h5 ho.size, fun i hi => (ho.cell (p := ⟨b, off + i, none⟩) h5 hb).trans (h6 i hi)⟩
end
end Go.Proofs.YtddnfhfangfgeaaGreat.Gf

namespace Go.Proofs.YtddnfhfangfgeaaGreat.Gf
set_option linter.unusedVariables false
set_option linter.unusedSimpArgs false
open Go.RowKit
theorem info_bool13 : (Tryz.prog.info? 4).map (fun i => (i.zero, i.size, i.bytes)) = some (some (.bool false), 1, 1) := by kernel_rfl
theorem info_int13 : (Tryz.prog.info? 3).map (fun i => (i.zero, i.size, i.bytes)) = some (some (.int .i64 0), 1, 8) := by kernel_rfl
/-- a row of the call's own -/
def MadeRow (w : World) (t n : Nat) (f : Nat → Value) (e : Ending) (w' : World) : Prop := ∃ g, e = .returned (.slice (some ⟨g, 0, none⟩) n n) ∧ w'.rowIs g t n f ∧ w.heap.size ≤ g ∧ Below w.heap.size w w'
section
variable {w : World} {ab : Nat} {GA : Nat → Prop} {a : ArS}
set_option maxRecDepth 100000 in
theorem alive_any (h : ArAt w ab GA a) : Calls Tryz.prog 41 #[.pointer (some ⟨ab, 0, none⟩)] w (MadeRow w 4 a.D.length (fun i => .bool (!(a.D.getD i default).dead))) := by
  obtain ⟨mb, db, GD, hM, ok⟩ := h
  have c0 := hM.c0
  have d2 := hM.d2
  have mk1 := run_make_row' (P := Tryz.prog) 96 4 (.bool false) 1 Tryz.underlying96 info_bool13 rfl .i64 .i64 a.D.length (by omega) (by omega)
  obtain ⟨u, hu⟩ : ∃ u, u = w.alloc (Obj.cells (madeCells #[Value.bool false] a.D.length) 4) := ⟨_, rfl⟩
  have hub : Below w.heap.size w u := by rw [hu]; exact belA _ _
  have hur : u.rowIs w.heap.size 4 a.D.length (fun _ => .bool false) := by rw [hu]; exact World.rowIs_made _ _ _ _
  have hM1 := hM.below hub
  have c0m := hM1.c0
  have mk2 := mk1 w
  obtain ⟨g, hg⟩ : ∃ g, Hid (g = w.heap.size) := ⟨_, rfl⟩
  rw [← hu, ← hg.out] at mk2
  rw [← hg.out] at hur
  clear mk1 hu
  go_enter Tryz.func41, Tryz.ntmps41
  go_wp2
  have START : Hid (u.rowIs g 4 a.D.length (fun j => if j < 0 then .bool (!(a.D.getD j default).dead) else .bool false) ∧ Below w.heap.size w u) := ⟨hur, hub⟩
  clear hM1 c0m mk2 hub hur ok c0
  go_loopw [19] (fun i wr => ∃ k : Nat, k ≤ a.D.length ∧ i = .int .i64 (k : Int) ∧ wr.rowIs g 4 a.D.length (fun j => if j < k then .bool (!(a.D.getD j default).dead) else .bool false) ∧ Below w.heap.size w wr) (fun i _ => a.D.length - (intOf i).toNat)
  case atStart => exact ⟨0, Nat.zero_le _, rfl, START.out⟩
  case round =>
    clear START
    obtain ⟨k, hk, rfl, hr, hb⟩ := hrel
    by_cases hlt : k < a.D.length
    · have hlt' : (k : Int) < (a.D.length : Int) := by omega
      have g1 : IntKind.i64.wrap ((k : Int) + 1) = ((k + 1 : Nat) : Int) := by rw [IntKind.wrap_i64]; omega
      have hMr := hM.below hb
      have m0 := hMr.m0 k hlt
      have m1 := hMr.m1 k hlt
      have KD := fun o => @ddead_any (wr.alloc o) (db k) (a.D.getD k default).dead ((hMr.dk k hlt).below (belA wr o)).dead
      have R1 : Hid (∀ o, (wr.alloc o).rowIs g 4 a.D.length (fun j => if j < k then .bool (!(a.D.getD j default).dead) else .bool false) ∧ Below w.heap.size w (wr.alloc o)) := fun o => ⟨hr.alloc o, hb.trans ((belA wr o).mono hb.size)⟩
      obtain ⟨z, hz⟩ : ∃ z, z = a.B.getD k 0 := ⟨_, rfl⟩
      rw [← hz] at m1
      obtain ⟨x, hx⟩ : ∃ x, Hid (x = (a.D.getD k default).dead) := ⟨_, rfl⟩
      rw [← hx.out] at KD
      clear hz hMr hr hb
      go_wp2_with fail
      refine (KD _).mono ?_
      rintro _ wq ⟨rfl, hwq⟩
      obtain ⟨R2, B2⟩ := R1.out (Obj.cells #[Value.pointer (some ⟨db k, 0, none⟩), .int .i64 z] 81)
      rw [← hwq] at R2 B2
      have cq := R2.cell hlt
      have fq := R2.frozen k
      have R3 := R2.set k (.bool (!x))
      have E2 : Hid ((wq.setCell ⟨g, k, none⟩ (.bool (!x))).rowIs g 4 a.D.length (fun j => if j < k + 1 then .bool (!(a.D.getD j default).dead) else .bool false) ∧ Below w.heap.size w (wq.setCell ⟨g, k, none⟩ (.bool (!x)))) := by
        refine ⟨R3.congr fun j hj => ?_, B2.setCell (by rw [hg.out]; exact Nat.le_refl _) _⟩
        by_cases e : j = k
        · rw [if_pos e, if_pos (by omega), e, hx.out]
        · rw [if_neg e]
          by_cases e2 : j < k
          · rw [if_pos e2, if_pos (by omega)]
          · rw [if_neg e2, if_neg (by omega)]
      clear KD R1 R2 B2 R3 hwq m0 m1
      cases x <;> simp only [Bool.not_true, Bool.not_false] at E2
      all_goals
        go_wp2
        go_roundw
        case rel => exact ⟨k + 1, by omega, by go_num, E2.out⟩
        case measure => simp [intOf]; omega
    · have hlt' : ¬ (k : Int) < (a.D.length : Int) := by omega
      have hkn : k = a.D.length := by omega
      have FIN : Hid (wr.rowIs g 4 a.D.length (fun j => .bool (!(a.D.getD j default).dead)) ∧ w.heap.size ≤ g ∧ Below w.heap.size w wr) := ⟨hr.congr fun j hj => if_pos (by omega), by rw [hg.out]; exact Nat.le_refl _, hb⟩
      clear hr hb
      go_wp2
      go_ret
      exact ⟨g, rfl, FIN.out⟩
end
end Go.Proofs.YtddnfhfangfgeaaGreat.Gf

namespace Go.Proofs.YtddnfhfangfgeaaGreat.Gf
set_option linter.unusedVariables false
set_option linter.unusedSimpArgs false
open Go.RowKit
theorem info_member : (Tryz.prog.info? 81).map (fun i => (i.zero, i.size, i.bytes)) = some (some (.agg #[.pointer none, .int .i64 0]), 2, 16) := by kernel_rfl
/-- a row of members that are not yet -/
theorem run_make_members (n : Nat) (hn : n ≤ 32) (w : World) : (Instr.makeSlice 74 (.int .i64 (n : Int)) (.int .i64 (n : Int))).run Tryz.prog w = .ok (.slice (some ⟨w.heap.size, 0, none⟩) n n) (w.alloc (.cells (madeCells #[.pointer none, .int .i64 0] (n * 2)) 81)) := by
  obtain ⟨i, hi, hzz⟩ := Option.map_eq_some_iff.1 info_member
  simp only [Prod.mk.injEq] at hzz
  obtain ⟨hz, hs, hb⟩ := hzz
  have hr := run_make (P := Tryz.prog) w 74 81 i _ Tryz.underlying74 hi hz .i64 .i64 n n (by omega) (Int.le_refl _) (by rw [hb]; omega) (by omega)
  simp only [Int.toNat_natCast, hs] at hr
  exact hr
/-- a row of members, the first k of which have disks -/
def nfR (db : Nat → Nat) (k : Nat) (j : Nat) : Value := if j % 2 = 0 then (if j / 2 < k then .pointer (some ⟨db (j / 2), 0, none⟩) else .pointer none) else .int .i64 0
def faR (mb n : Nat) (j : Nat) : Value := if j = 0 then .slice (some ⟨mb, 0, none⟩) n n else if j = 1 then .int .i64 0 else .bool false
structure NewI (w wr : World) (ab mb n k s : Nat) (db : Nat → Nat) (GD : Nat → Nat → Prop) : Prop where
  b : Below w.heap.size w wr
  la : w.heap.size ≤ ab
  lm : w.heap.size ≤ mb
  ne : ab ≠ mb
  ra : wr.rowIs ab 76 3 (faR mb n)
  rm : wr.rowIs mb 81 (n * 2) (nfR db k)
  dk : ∀ i, i < k → DiskAt wr (db i) (GD i) (newD s)
  sep : ∀ i j, i < k → j < k → i ≠ j → ∀ x, GD i x → ¬ GD j x
  up : ∀ i, i < k → ∀ x, GD i x → x ≠ ab ∧ x ≠ mb ∧ w.heap.size ≤ x
section
variable {w wr w1 : World} {ab mb n k s : Nat} {db : Nat → Nat} {GD : Nat → Nat → Prop}
theorem NewI.step (h : NewI w wr ab mb n k s db GD) (hk : k < n) {d : Nat} {G : Nat → Prop} (hD : DiskAt w1 d G (newD s)) (hG : ∀ x, G x → wr.heap.size ≤ x) (hb : Below wr.heap.size wr w1) :
    NewI w (w1.setCell ⟨mb, k * 2, none⟩ (.pointer (some ⟨d, 0, none⟩))) ab mb n (k + 1) s (fun i => if i = k then d else db i) (fun i => if i = k then G else GD i) := by
  have lm := h.rm.lt
  have la := h.ra.lt
  have kb : ∀ x, x ≠ mb → (w1.setCell ⟨mb, k * 2, none⟩ (.pointer (some ⟨d, 0, none⟩))).heap[x]? = w1.heap[x]? := fun x hx => Below.heap_setCell w1 ⟨mb, k * 2, none⟩ _ x hx
  refine ⟨(h.b.trans (hb.mono h.b.size)).setCell h.lm _, h.la, h.lm, h.ne, ?_, ?_, ?_, ?_, ?_⟩
  · exact (h.ra.of_block (hb.block ab la)).setOther h.ne _
  · refine ((h.rm.of_block (hb.block mb lm)).set (k * 2) (.pointer (some ⟨d, 0, none⟩))).congr fun j hj => ?_
    unfold nfR
    by_cases e : j = k * 2
    · subst e
      rw [if_pos rfl, if_pos (by omega), if_pos (by omega)]
      show _ = Value.pointer (some ⟨if k * 2 / 2 = k then d else db (k * 2 / 2), 0, none⟩)
      rw [if_pos (by omega)]
    · rw [if_neg e]
      by_cases e1 : j % 2 = 0
      · rw [if_pos e1, if_pos e1]
        by_cases e2 : j / 2 < k
        · rw [if_pos e2, if_pos (by omega)]
          show _ = Value.pointer (some ⟨if j / 2 = k then d else db (j / 2), 0, none⟩)
          rw [if_neg (by omega)]
        · rw [if_neg e2, if_neg (by omega)]
      · rw [if_neg e1, if_neg e1]
  · intro i hi
    show DiskAt _ (if i = k then d else db i) (if i = k then G else GD i) _
    by_cases e : i = k
    · rw [if_pos e, if_pos e]
      exact hD.keep (fun x hx => kb x (fun e2 => by have := hG x hx; omega)) (by simp)
    · rw [if_neg e, if_neg e]
      have h1 := (h.dk i (by omega)).below hb
      exact h1.keep (fun x hx => kb x (h.up i (by omega) x hx).2.1) (by simp)
  · intro i j hi hj hne x hx hx2
    replace hx : (if i = k then G else GD i) x := hx
    replace hx2 : (if j = k then G else GD j) x := hx2
    by_cases e : i = k
    · rw [if_pos e] at hx
      rw [if_neg (by omega)] at hx2
      have h1 := hG x hx
      have h2 := (h.dk j (by omega)).lt x hx2
      omega
    · rw [if_neg e] at hx
      by_cases e2 : j = k
      · rw [if_pos e2] at hx2
        have h1 := hG x hx2
        have h2 := (h.dk i (by omega)).lt x hx
        omega
      · rw [if_neg e2] at hx2
        exact h.sep i j (by omega) (by omega) hne x hx hx2
  · intro i hi x hx
    replace hx : (if i = k then G else GD i) x := hx
    by_cases e : i = k
    · rw [if_pos e] at hx
      have h1 := hG x hx
      have h2 := h.b.size
      exact ⟨by omega, by omega, by omega⟩
    · rw [if_neg e] at hx
      exact h.up i (by omega) x hx
theorem rep_getD {α : Type} {n i : Nat} {x d : α} (h : i < n) : (List.replicate n x).getD i d = x := by simp [List.getD, h]
theorem NewI.done (h : NewI w wr ab mb n n s db GD) (h1 : 1 ≤ n) (h2 : n ≤ 32) (h3 : 1 ≤ s) (h4 : s ≤ 4096) : ArAt wr ab (fun x => x = ab ∨ x = mb ∨ ∃ i, i < n ∧ GD i x) (newA n s) := by
  have hl : (newA n s).D.length = n := by simp [newA]
  refine ⟨mb, db, GD, ⟨?_, h.ra.cell (i := 1) (by omega), h.ra.cell (i := 2) (by omega), h.ra.frozen 1, h.ra.frozen 2, fun i hi => ?_, fun i hi => ?_, fun i hi => h.rm.frozen _, fun i hi => ?_, fun i j hi hj => h.sep i j (hl ▸ hi) (hl ▸ hj), fun i hi => ⟨fun e => (h.up i (hl ▸ hi) _ e).1 rfl, fun e => (h.up i (hl ▸ hi) _ e).2.1 rfl⟩, h.ne, Or.inl rfl, Or.inr (Or.inl rfl), fun i hi x hx => Or.inr (Or.inr ⟨i, hl ▸ hi, hx⟩), fun x hx => ?_, by rw [hl]; exact h1, by rw [hl]; exact h2, by simp [newA], by simp [newA]; decide⟩, newA_ok h1 h2 h3 h4⟩
  · rw [hl]; exact h.ra.cell (i := 0) (by omega)
  · rw [hl] at hi
    rw [h.rm.cell (by omega)]
    unfold nfR
    rw [if_pos (by omega), if_pos (by omega), show i * 2 / 2 = i by omega]
  · rw [hl] at hi
    rw [h.rm.cell (by omega)]
    unfold nfR
    rw [if_neg (by omega)]
    simp only [newA]
    rw [rep_getD hi]
  · rw [hl] at hi
    simp only [newA]
    rw [rep_getD hi]
    exact h.dk i hi
  · rcases hx with h5 | h5 | ⟨i, hi, h5⟩
    · rw [h5]; exact h.ra.lt
    · rw [h5]; exact h.rm.lt
    · exact (h.dk i hi).lt x h5
end
/-- a new array -/
def NewsA (w : World) (n s : Nat) (e : Ending) (w' : World) : Prop := ∃ ab GA, e = .returned (.tuple #[.pointer (some ⟨ab, 0, none⟩), .int .i64 0]) ∧ ArAt w' ab GA (newA n s) ∧ (∀ k, GA k → w.heap.size ≤ k) ∧ Below w.heap.size w w'
theorem made_two (w : World) (n : Nat) (t : TypeId) : (w.alloc (.cells (madeCells #[.pointer none, .int .i64 0] (n * 2)) t)).rowIs w.heap.size t (n * 2) (nfR (fun _ => 0) 0) := by
  have hs : (madeCells #[Value.pointer none, .int .i64 0] (n * 2)).size = n * 2 := size_madeCells _ _
  have h := World.rowIs_alloc w (madeCells #[.pointer none, .int .i64 0] (n * 2)) t (nfR (fun _ => 0) 0) (fun i hi => by
    rw [hs] at hi
    unfold nfR
    rcases Nat.mod_two_eq_zero_or_one i with e | e <;> simp [madeCells, hi, e])
  rw [hs] at h
  exact h
/-- the members of a new array, laid -/
theorem laid_u (w : World) (n : Nat) (h2 : n ≤ 32) : ∃ u, (Instr.makeSlice 74 (.int .i64 (n : Int)) (.int .i64 (n : Int))).run Tryz.prog w = .ok (.slice (some ⟨w.heap.size, 0, none⟩) n n) u ∧ u.rowIs w.heap.size 81 (n * 2) (nfR (fun _ => 0) 0) ∧ Below w.heap.size w u ∧ u.heap.size = w.heap.size + 1 :=
  ⟨_, run_make_members n h2 w, made_two _ _ _, belA _ _, by simp⟩
theorem laid_a (u : World) (g n : Nat) : (u.alloc (.cells #[.slice (some ⟨g, 0, none⟩) n n, .int .i64 0, .bool false] 76)).rowIs u.heap.size 76 3 (faR g n) :=
  World.rowIs_alloc u #[.slice (some ⟨g, 0, none⟩) n n, .int .i64 0, .bool false] 76 (faR g n) (fun i hi => by
    have hi2 : i < 3 := hi
    match i, hi2 with
    | 0, _ => rfl
    | 1, _ => rfl
    | 2, _ => rfl)
set_option maxRecDepth 100000 in
theorem anew_any {w : World} {n : Nat} {s : Int} (h1 : 1 ≤ n) (h2 : n ≤ 32) (h3 : 1 ≤ s) (h4 : s ≤ 4096) : Calls Tryz.prog 12 #[.int .i64 (n : Int), .int .i64 s] w (NewsA w n s.toNat) := by
  have q1 : ¬ (n : Int) < 1 := by omega
  have q2 : ¬ (n : Int) > 32 := by omega
  obtain ⟨u, mk1, hr, hb, hs⟩ := laid_u w n h2
  obtain ⟨g, hg⟩ : ∃ g, Hid (g = w.heap.size) := ⟨_, rfl⟩
  rw [← hg.out] at mk1 hr
  have hs' : Hid (u.heap.size = w.heap.size + 1) := hs
  have LA := laid_a u g n
  have START : Hid (∃ db GD, NewI w (u.alloc (.cells #[.slice (some ⟨g, 0, none⟩) n n, .int .i64 0, .bool false] 76)) u.heap.size g n 0 s.toNat db GD) :=
    ⟨fun _ => 0, fun _ _ => False, (hb.alloc (by have := hb.size; omega) _), by omega, by rw [hg.out]; exact Nat.le_refl _, by rw [hg.out]; omega, LA, hr.alloc _, fun i hi => absurd hi (Nat.not_lt_zero _), fun i j hi => absurd hi (Nat.not_lt_zero _), fun i hi => absurd hi (Nat.not_lt_zero _)⟩
  have c0 := LA.cell (i := 0) (by omega)
  simp only [faR, if_true] at c0
  clear hs LA hb hr
  go_enter Tryz.func12, Tryz.ntmps12
  go_wp2
  obtain ⟨ab, hab⟩ : ∃ ab, Hid (ab = u.heap.size) := ⟨_, rfl⟩
  rw [← hab.out] at START ⊢
  go_loopw [25] (fun i wr => ∃ k : Nat, k ≤ n ∧ i = .int .i64 (k : Int) ∧ ∃ db GD, NewI w wr ab g n k s.toNat db GD) (fun i _ => n - (intOf i).toNat)
  case atStart => exact ⟨0, Nat.zero_le _, rfl, START.out⟩
  case round =>
    clear START
    obtain ⟨k, hk, rfl, db, GD, hN⟩ := hrel
    by_cases hlt : k < n
    · have hlt' : (k : Int) < (n : Int) := by omega
      have g1 : IntKind.i64.wrap ((k : Int) + 1) = ((k + 1 : Nat) : Int) := by rw [IntKind.wrap_i64]; omega
      go_wp2_with fail
      refine (dmake_any h3 h4).mono ?_
      rintro _ w1 ⟨d, G, rfl, D1, H1, B1⟩
      have c1 : w1.cell? ⟨ab, 0, none⟩ = some (.slice (some ⟨g, 0, none⟩) n n) := (B1.cell (p := ⟨ab, 0, none⟩) hN.ra.lt).trans (hN.ra.cell (i := 0) (by omega))
      have R1 := hN.rm.of_block (B1.block g hN.rm.lt)
      have c2 := R1.cell (i := k * 2) (by omega)
      have f2 := R1.frozen (k * 2)
      have E2 : Hid (∃ db GD, NewI w (w1.setCell ⟨g, k * 2, none⟩ (.pointer (some ⟨d, 0, none⟩))) ab g n (k + 1) s.toNat db GD) := ⟨_, _, hN.step hlt D1 H1 B1⟩
      clear hN D1 H1 B1 R1
      go_wp2
      go_roundw
      case rel => exact ⟨k + 1, by omega, by go_num, E2.out⟩
      case measure => simp [intOf]; omega
    · have hlt' : ¬ (k : Int) < (n : Int) := by omega
      have hkn : k = n := by omega
      rw [hkn] at hN
      have FIN : Hid (∃ GA, ArAt wr ab GA (newA n s.toNat) ∧ (∀ k, GA k → w.heap.size ≤ k) ∧ Below w.heap.size w wr) := ⟨_, hN.done h1 h2 (by omega) (by omega), fun x hx => by
        rcases hx with h5 | h5 | ⟨i, hi, h5⟩
        · rw [h5]; exact hN.la
        · rw [h5]; exact hN.lm
        · exact (hN.up i hi x h5).2.2, hN.b⟩
      clear hN
      go_wp2
      refine bodyPost_ret (v := .tuple #[.pointer (some ⟨ab, 0, none⟩), .int .i64 0]) (by simp [results, Tryz.results12, go_sem]) rfl ?_
      obtain ⟨GA, r⟩ := FIN.out
      exact ⟨ab, GA, rfl, r⟩
end Go.Proofs.YtddnfhfangfgeaaGreat.Gf

namespace Go.Proofs.YtddnfhfangfgeaaGreat.Gf
set_option linter.unusedVariables false
set_option linter.unusedSimpArgs false
open Go.RowKit
section
variable {w w' : World} {ab N : Nat} {GA GA' : Nat → Prop} {a a' : ArS}
/-- an array and the least number of its blocks -/
structure ArB (w : World) (N : Nat) (ab : Nat) (GA : Nat → Prop) (a : ArS) : Prop where
  at_ : ArAt w ab GA a
  low : ∀ k, GA k → N ≤ k
  size : N ≤ w.heap.size
theorem ArB.below (h : ArB w N ab GA a) (hb : Below w.heap.size w w') : ArB w' N ab GA a := ⟨h.at_.below hb, h.low, Nat.le_trans h.size hb.size⟩
theorem ArB.grew (h : ArB w N ab GA a) (hd : ArAt w' ab GA' a') (g : Grew GA w GA' w') : ArB w' N ab GA' a' := ⟨hd, g.base h.low h.size, Nat.le_trans h.size g.turn.size⟩
theorem ArB.bel (h : ArB w N ab GA a) (g : Grew GA w GA' w') : Below N w w' := g.below h.low h.size
theorem Told.ownA {v : Value} {p : List UInt8} {e : Nat} (h : ArAt w ab GA a) (ho : w'.ownsRow w.heap.size e 1 v p.length (p.map vb)) : Told w' GA v p := ⟨Rd.owned ho, ApartG.own ho h.lt⟩
end
theorem OwnH.formL {w : World} {base : Nat} {v : Value} {L : List (Int × List UInt8)} (h : OwnH w base v L) : ∃ a c, v = .slice a L.length c := by
  obtain ⟨T, h1, h2⟩ := h
  obtain ⟨a, c, e⟩ := owns_slice h2.row
  refine ⟨a, c, ?_⟩
  rw [e, ← h1]
  simp [bareT]
theorem newA_len (n s : Nat) : (newA n s).D.length = n := by simp [newA]
section
variable {w : World} {ab : Nat} {GA : Nat → Prop} {a : ArS}
theorem anew_is {w : World} {n s : Int} {m : Nat} (e : n = (m : Int)) (h1 : 1 ≤ m) (h2 : m ≤ 32) (h3 : 1 ≤ s) (h4 : s ≤ 4096) {k : Nat} (hs : s.toNat = k) : Calls Tryz.prog 12 #[.int .i64 n, .int .i64 s] w (NewsA w m k) := by
  subst e hs
  exact anew_any h1 h2 h3 h4
end
end Go.Proofs.YtddnfhfangfgeaaGreat.Gf

namespace Go.Proofs.YtddnfhfangfgeaaGreat.Gf
set_option linter.unusedVariables false
set_option linter.unusedSimpArgs false
open Go.RowKit
/-- a geometry: data shards, parity shards, bytes of a shard, stripes, slots, objects -/
structure GeoS where
  k : Int
  m : Int
  z : Int
  s : Int
  t : Int
  o : Int
structure GeoS.Wf (g : GeoS) : Prop where
  k : (Lit.int .i64 g.k).wf = true
  m : (Lit.int .i64 g.m).wf = true
  z : (Lit.int .i64 g.z).wf = true
  s : (Lit.int .i64 g.s).wf = true
  t : (Lit.int .i64 g.t).wf = true
  o : (Lit.int .i64 g.o).wf = true
def aggG (g : GeoS) : Value := .agg #[.int .i64 g.k, .int .i64 g.m, .int .i64 g.z, .int .i64 g.s, .int .i64 g.t, .int .i64 g.o]
def okG (g : GeoS) : Prop := 1 ≤ g.k ∧ 0 ≤ g.m ∧ g.k + g.m ≤ 32 ∧ 1 ≤ g.z ∧ g.z ≤ 4096 ∧ 1 ≤ g.s ∧ g.s ≤ 256 ∧ 1 ≤ g.t ∧ g.t ≤ 64 ∧ 1 ≤ g.o ∧ g.o ≤ 64
instance (g : GeoS) : Decidable (okG g) := inferInstanceAs (Decidable (_ ∧ _ ∧ _ ∧ _ ∧ _ ∧ _ ∧ _ ∧ _ ∧ _ ∧ _ ∧ _))
def mayG (g : GeoS) (i n : Int) : Prop := okG g ∧ 0 ≤ i ∧ i < n
instance (g : GeoS) (i n : Int) : Decidable (mayG g i n) := inferInstanceAs (Decidable (_ ∧ _ ∧ _))
/-- what Check, Sectors, Area, Slot, Stripe, Disk, Shard, Needs answer -/
def chG (g : GeoS) : Int := if okG g then 0 else 50
def secG (g : GeoS) : Int := if okG g then 5 + g.t + g.s else 0
def stG (g : GeoS) (i : Int) : Int := if mayG g i g.s then 5 + g.t + i else 0
def diG (g : GeoS) (st sh : Int) : Int := if mayG g st g.s ∧ 0 ≤ sh ∧ sh < g.k + g.m then (sh + st) % (g.k + g.m) else 0
def shG (g : GeoS) (st d : Int) : Int := if mayG g st g.s ∧ 0 ≤ d ∧ d < g.k + g.m then (d - st) % (g.k + g.m) else 0
theorem okG_n {g : GeoS} (h : okG g) : 1 ≤ g.k + g.m ∧ g.k + g.m ≤ 32 := by
  obtain ⟨h1, h2, h3, _⟩ := h
  omega
section
variable {g : GeoS}
theorem diG_at (h : okG g) {st sh : Int} (h1 : 0 ≤ st) (h2 : st < g.s) (h3 : 0 ≤ sh) (h4 : sh < g.k + g.m) : diG g st sh = (sh + st) % (g.k + g.m) := if_pos ⟨⟨h, h1, h2⟩, h3, h4⟩
theorem shG_at (h : okG g) {st d : Int} (h1 : 0 ≤ st) (h2 : st < g.s) (h3 : 0 ≤ d) (h4 : d < g.k + g.m) : shG g st d = (d - st) % (g.k + g.m) := if_pos ⟨⟨h, h1, h2⟩, h3, h4⟩
/-- a disk's shard is the one that lies there -/
theorem sh_di (h : okG g) {st sh : Int} (h1 : 0 ≤ st) (h2 : st < g.s) (h3 : 0 ≤ sh) (h4 : sh < g.k + g.m) : 0 ≤ diG g st sh ∧ diG g st sh < g.k + g.m ∧ shG g st (diG g st sh) = sh := by
  have hn := okG_n h
  rw [diG_at h h1 h2 h3 h4]
  have e1 := Int.emod_nonneg (sh + st) (show g.k + g.m ≠ 0 by omega)
  have e2 := Int.emod_lt_of_pos (sh + st) (show 0 < g.k + g.m by omega)
  refine ⟨e1, e2, ?_⟩
  rw [shG_at h h1 h2 e1 e2, Int.emod_sub_emod, show sh + st - st = sh by omega]
  exact Int.emod_eq_of_lt h3 h4
theorem di_sh (h : okG g) {st d : Int} (h1 : 0 ≤ st) (h2 : st < g.s) (h3 : 0 ≤ d) (h4 : d < g.k + g.m) : 0 ≤ shG g st d ∧ shG g st d < g.k + g.m ∧ diG g st (shG g st d) = d := by
  have hn := okG_n h
  rw [shG_at h h1 h2 h3 h4]
  have e1 := Int.emod_nonneg (d - st) (show g.k + g.m ≠ 0 by omega)
  have e2 := Int.emod_lt_of_pos (d - st) (show 0 < g.k + g.m by omega)
  refine ⟨e1, e2, ?_⟩
  rw [diG_at h h1 h2 e1 e2, Int.emod_add_emod, show d - st + st = d by omega]
  exact Int.emod_eq_of_lt h3 h4
theorem di_inj (h : okG g) {st i j : Int} (h1 : 0 ≤ st) (h2 : st < g.s) (hi : 0 ≤ i) (hi2 : i < g.k + g.m) (hj : 0 ≤ j) (hj2 : j < g.k + g.m) (e : diG g st i = diG g st j) : i = j := by
  rw [← (sh_di h h1 h2 hi hi2).2.2, ← (sh_di h h1 h2 hj hj2).2.2, e]
end
theorem sixG {cs : List Value} (h : cs.length = 6) : ∃ v0 v1 v2 v3 v4 v5, cs = [v0, v1, v2, v3, v4, v5] := by
  match cs, h with
  | [a, b, c, d, e, f], _ => exact ⟨a, b, c, d, e, f, rfl⟩
section
variable {H : Type} {enc : TypeId × Value → H} {P : Program} {w : World} {base : Nat} {held : Bool}
/-- a geometry by value -/
theorem open_geo {r : Reach} {b0 : Nat} {t : TypeId} {f0 f1 f2 f3 f4 f5 : Field} {v : Value} {d : DataW H} {p : List MemPlace} (he : P.underlying t = some (.struct #[f0, f1, f2, f3, f4, f5])) (ce : P.cellsOf t = 6)
    (o0 : f0.offset = 0) (o1 : f1.offset = 1) (o2 : f2.offset = 2) (o3 : f3.offset = 3) (o4 : f4.offset = 4) (o5 : f5.offset = 5)
    (t0 : P.underlying f0.type = some (.int .i64)) (t1 : P.underlying f1.type = some (.int .i64)) (t2 : P.underlying f2.type = some (.int .i64)) (t3 : P.underlying f3.type = some (.int .i64)) (t4 : P.underlying f4.type = some (.int .i64)) (t5 : P.underlying f5.type = some (.int .i64))
    (n0 : P.cellsOf f0.type = 1) (n1 : P.cellsOf f1.type = 1) (n2 : P.cellsOf f2.type = 1) (n3 : P.cellsOf f3.type = 1) (n4 : P.cellsOf f4.type = 1) (n5 : P.cellsOf f5.type = 1)
    (hv : Value.okWide P w r b0 t v) (h : DataW.Trod enc P w base (fun _ => true) held t v d p) : ∃ g : GeoS, v = aggG g ∧ g.Wf := by
  obtain ⟨cs, rfl, hsz⟩ := Go.WideShapes.okWide_struct he hv
  obtain ⟨fuel, hf⟩ := h
  obtain ⟨xs, n', _, _, hlen, hxl, hfd⟩ := DataW.trod_struct he hf
  obtain ⟨l⟩ := cs
  have hll : l.length = 6 := by simpa [ce] using hsz
  obtain ⟨v0, v1, v2, v3, v4, v5, rfl⟩ := sixG hll
  have hxl' : xs.length = 6 := hxl
  have g : ∀ k, k < 6 → ∃ y, xs[k]? = some y := fun k hk => ⟨xs[k], List.getElem?_eq_getElem (by omega)⟩
  obtain ⟨y0, e0⟩ := g 0 (by omega)
  obtain ⟨y1, e1⟩ := g 1 (by omega)
  obtain ⟨y2, e2⟩ := g 2 (by omega)
  obtain ⟨y3, e3⟩ := g 3 (by omega)
  obtain ⟨y4, e4⟩ := g 4 (by omega)
  obtain ⟨y5, e5⟩ := g 5 (by omega)
  have q0 := hfd 0 f0 rfl
  have q1 := hfd 1 f1 rfl
  have q2 := hfd 2 f2 rfl
  have q3 := hfd 3 f3 rfl
  have q4 := hfd 4 f4 rfl
  have q5 := hfd 5 f5 rfl
  rw [o0, n0, e0] at q0
  rw [o1, n1, e1] at q1
  rw [o2, n2, e2] at q2
  rw [o3, n3, e3] at q3
  rw [o4, n4, e4] at q4
  rw [o5, n5, e5] at q5
  obtain ⟨z0, r0, _, w0⟩ := DataW.trod_int t0 q0
  obtain ⟨z1, r1, _, w1⟩ := DataW.trod_int t1 q1
  obtain ⟨z2, r2, _, w2⟩ := DataW.trod_int t2 q2
  obtain ⟨z3, r3, _, w3⟩ := DataW.trod_int t3 q3
  obtain ⟨z4, r4, _, w4⟩ := DataW.trod_int t4 q4
  obtain ⟨z5, r5, _, w5⟩ := DataW.trod_int t5 q5
  simp [Value.cells] at r0 r1 r2 r3 r4 r5
  subst r0 r1 r2 r3 r4 r5
  exact ⟨⟨z0, z1, z2, z3, z4, z5⟩, rfl, w0, w1, w2, w3, w4, w5⟩
end
end Go.Proofs.YtddnfhfangfgeaaGreat.Gf

namespace Go.Proofs.YtddnfhfangfgeaaGreat.Gf
set_option linter.unusedVariables false
set_option linter.unusedSimpArgs false
open Go.RowKit
def okK (k m : Int) : Prop := 1 ≤ k ∧ k ≤ 256 ∧ 0 ≤ m ∧ m ≤ 256 ∧ k + m ≤ 256
instance (k m : Int) : Decidable (okK k m) := inferInstanceAs (Decidable (_ ∧ _ ∧ _ ∧ _ ∧ _))
theorem belL (w : World) (o : Obj) : Below w.heap.size w (w.alloc o) := (Below.refl _ _).alloc (Nat.le_refl _) _
theorem _root_.Go.RowKit.Below.stepL {w w1 w2 : World} {B : Nat} (h : Below B w w1) (k : Below w1.heap.size w1 w2) (hB : B ≤ w1.heap.size) : Below B w w2 := h.trans (k.mono hB)
/-- a geometry variable -/
def GeoAt (w : World) (b : Nat) (g : GeoS) : Prop := w.cell? ⟨b, 0, none⟩ = some (.int .i64 g.k) ∧ w.cell? ⟨b, 1, none⟩ = some (.int .i64 g.m) ∧ w.cell? ⟨b, 2, none⟩ = some (.int .i64 g.z) ∧ w.cell? ⟨b, 3, none⟩ = some (.int .i64 g.s) ∧ w.cell? ⟨b, 4, none⟩ = some (.int .i64 g.t) ∧ w.cell? ⟨b, 5, none⟩ = some (.int .i64 g.o)
def cellsG (g : GeoS) : Array Value := #[.int .i64 g.k, .int .i64 g.m, .int .i64 g.z, .int .i64 g.s, .int .i64 g.t, .int .i64 g.o]
theorem GeoAt.below {w w' : World} {b : Nat} {g : GeoS} (h : GeoAt w b g) (hb : b < w.heap.size) (hw : Below w.heap.size w w') : GeoAt w' b g :=
  ⟨(hw.cell (p := ⟨b, 0, none⟩) hb).trans h.1, (hw.cell (p := ⟨b, 1, none⟩) hb).trans h.2.1, (hw.cell (p := ⟨b, 2, none⟩) hb).trans h.2.2.1, (hw.cell (p := ⟨b, 3, none⟩) hb).trans h.2.2.2.1, (hw.cell (p := ⟨b, 4, none⟩) hb).trans h.2.2.2.2.1, (hw.cell (p := ⟨b, 5, none⟩) hb).trans h.2.2.2.2.2⟩
/-- a geometry that was laid as a parameter -/
theorem geo_laid (w : World) (g : GeoS) (e : Nat) : ∀ W, Below (w.alloc (.cells (cellsG g) e)).heap.size (w.alloc (.cells (cellsG g) e)) W → GeoAt W w.heap.size g ∧ Below w.heap.size w W := by
  intro W hW
  have cc : ∀ j, (w.alloc (.cells (cellsG g) e)).cell? ⟨w.heap.size, j, none⟩ = (cellsG g)[j]? := fun j => World.cell?_alloc_new _ _ _ _
  have h0 : GeoAt (w.alloc (.cells (cellsG g) e)) w.heap.size g := ⟨(cc 0).trans rfl, (cc 1).trans rfl, (cc 2).trans rfl, (cc 3).trans rfl, (cc 4).trans rfl, (cc 5).trans rfl⟩
  exact ⟨h0.below (by simp) hW, (belL w _).trans (hW.mono (by simp))⟩
end Go.Proofs.YtddnfhfangfgeaaGreat.Gf

