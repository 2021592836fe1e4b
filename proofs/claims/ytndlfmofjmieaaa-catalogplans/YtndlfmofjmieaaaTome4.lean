/- TEXTS JOINED: ReMath, ReSnap, ReObj, ReOL, ReBel, ReGrM, ReChk, ReAgO, ReOw, ReEn, ReCA, ReInt. -/
import Derived.Test.YtndlfmofjmieaaaTome3
import Derived.Maps.AppendAt
namespace Go.Proofs.Ytndlfmofjmieaaa.Gf
set_option linter.unusedVariables false
set_option linter.unusedSimpArgs false
open Go.RowKit
/-- a record: kind, key, length, stripes -/
structure RcS where
  kind : Int
  key : List UInt8
  len : Int
  st : List Int
def OkR (r : RcS) : Prop := (r.kind = 1 ∨ r.kind = 2) ∧ 1 ≤ r.key.length ∧ r.key.length ≤ 64 ∧ 0 ≤ r.len ∧ r.len ≤ 2147483647 ∧ r.st.length ≤ 256 ∧ (∀ s ∈ r.st, 0 ≤ s ∧ s < 256) ∧ (r.kind = 2 → r.len = 0 ∧ r.st.length = 0)
instance (r : RcS) : Decidable (OkR r) := inferInstanceAs (Decidable (_ ∧ _ ∧ _ ∧ _ ∧ _ ∧ _ ∧ _ ∧ _))
end Go.Proofs.Ytndlfmofjmieaaa.Gf

namespace Go.Proofs.Ytndlfmofjmieaaa.Gf
set_option linter.unusedVariables false
set_option linter.unusedSimpArgs false
open Go.RowKit
/-- an object: key, length, epoch, stripes -/
structure ObS where
  key : List UInt8
  len : Int
  ep : Int
  st : List Int
instance : Inhabited ObS := ⟨⟨[], 0, 0, []⟩⟩
def putR (o : ObS) : RcS := ⟨1, o.key, o.len, o.st⟩
def OkO (o : ObS) : Prop := OkR (putR o) ∧ 0 ≤ o.ep ∧ o.ep ≤ 2147483647
instance (o : ObS) : Decidable (OkO o) := inferInstanceAs (Decidable (_ ∧ _ ∧ _))
/-- b stands above a -/
def upK (a b : List UInt8) : Bool := !(Op.bytesLess b a || b == a)
/-- how many stripes all have -/
def cntO : List ObS → Nat
  | [] => 0
  | o :: l => o.st.length + cntO l
end Go.Proofs.Ytndlfmofjmieaaa.Gf

namespace Go.Proofs.Ytndlfmofjmieaaa.Gf
set_option linter.unusedVariables false
set_option linter.unusedSimpArgs false
open Go.RowKit
open Go.ChangeShapes
/-- a string of bytes -/
def sv (y : List UInt8) : Value := .string ⟨y.toArray⟩
/-- a record's value; what its slice reads as -/
structure RcV where
  r : RcS
  vs : Value
def aggR (c : RcV) : Value := .agg #[.int .i64 c.r.kind, sv c.r.key, .int .i64 c.r.len, c.vs]
structure RcV.In (w : World) (c : RcV) : Prop where
  wk : (Lit.int .i64 c.r.kind).wf = true
  wl : (Lit.int .i64 c.r.len).wf = true
  ky : c.r.key.length ≤ maxLen
  rs : RdI w c.vs c.r.st
  wi : ∀ z ∈ c.r.st, (Lit.int .i64 z).wf = true
theorem RcV.In.below {w w' : World} {c : RcV} (h : c.In w) (hb : Below w.heap.size w w') : c.In w' := ⟨h.wk, h.wl, h.ky, h.rs.below hb, h.wi⟩
/-- an object in memory -/
structure ObV where
  o : ObS
  vs : Value
instance : Inhabited ObV := ⟨⟨default, .slice none 0 0⟩⟩
structure ObAt (w : World) (b off : Nat) (c : ObV) : Prop where
  c0 : w.cell? ⟨b, off, none⟩ = some (sv c.o.key)
  c1 : w.cell? ⟨b, off + 1, none⟩ = some (.int .i64 c.o.len)
  c2 : w.cell? ⟨b, off + 2, none⟩ = some (.int .i64 c.o.ep)
  c3 : w.cell? ⟨b, off + 3, none⟩ = some c.vs
  wl : (Lit.int .i64 c.o.len).wf = true
  we : (Lit.int .i64 c.o.ep).wf = true
  ky : c.o.key.length ≤ maxLen
  rs : RdI w c.vs c.o.st
  wi : ∀ z ∈ c.o.st, (Lit.int .i64 z).wf = true
theorem ObAt.below {w w' : World} {b off : Nat} {c : ObV} (h : ObAt w b off c) (hb : b < w.heap.size) (hw : Below w.heap.size w w') : ObAt w' b off c :=
  ⟨(hw.cell (p := ⟨b, off, none⟩) hb).trans h.c0, (hw.cell (p := ⟨b, off + 1, none⟩) hb).trans h.c1, (hw.cell (p := ⟨b, off + 2, none⟩) hb).trans h.c2, (hw.cell (p := ⟨b, off + 3, none⟩) hb).trans h.c3, h.wl, h.we, h.ky, h.rs.below hw, h.wi⟩
def RdO (w : World) (v : Value) (L : List ObV) : Prop :=
  (∃ ao cap, L = [] ∧ v = .slice ao 0 cap) ∨ (∃ b off cap, L ≠ [] ∧ v = .slice (some ⟨b, off, none⟩) L.length cap ∧ L.length ≤ maxLen ∧ b < w.heap.size ∧ ∀ i, i < L.length → ObAt w b (off + i * 4) (L.getD i default))
theorem RdO.below {w w' : World} {v : Value} {L : List ObV} (h : RdO w v L) (hb : Below w.heap.size w w') : RdO w' v L := by
  rcases h with h | ⟨b, off, cap, h1, h2, h3, h5, h6⟩
  · exact Or.inl h
  · exact Or.inr ⟨b, off, cap, h1, h2, h3, Nat.lt_of_lt_of_le h5 hb.size, fun i hi => (h6 i hi).below h5 hb⟩
theorem RdO.form {w : World} {v : Value} {L : List ObV} (h : RdO w v L) : ∃ a c, v = .slice a L.length c := by
  rcases h with ⟨a, c, rfl, rfl⟩ | ⟨b, off, c, _, rfl, _⟩
  · exact ⟨a, c, rfl⟩
  · exact ⟨_, c, rfl⟩
theorem four16 {cs : List Value} (h : cs.length = 4) : ∃ v0 v1 v2 v3, cs = [v0, v1, v2, v3] := by
  match cs, h with
  | [a, b, c, d], _ => exact ⟨a, b, c, d, rfl⟩
section
variable {H : Type} {enc : TypeId × Value → H} {P : Program} {w : World} {base : Nat} {held : Bool}
theorem open_ints16 {t si : TypeId} {fuel : Nat} {v : Value} {x : DataW H × List MemPlace} (t5 : P.underlying t = some (.slice si)) (ti : P.underlying si = some (.int .i64)) (ci : P.cellsOf si = 1) (q5 : DataW.trod enc P w base (fun _ => true) held fuel t [v] = some x) : ∃ pk, RdI w v pk ∧ ∀ z ∈ pk, (Lit.int .i64 z).wf = true := by
  rcases open_ints t5 ti ci q5 with ⟨hcs, _⟩ | ⟨x5, l5, c5, zs, hcs, _, hl5, hm5, hz, _, hcell, hwz⟩
  · simp at hcs
    subst hcs
    exact ⟨[], Or.inl ⟨none, 0, rfl, rfl⟩, by simp⟩
  · simp at hcs
    subst hcs
    exact rdI_row2 (Or.inr ⟨x5, rfl, hl5, hm5, by simpa using hz, hcell, hwz⟩)
end
end Go.Proofs.Ytndlfmofjmieaaa.Gf

namespace Go.Proofs.Ytndlfmofjmieaaa.Gf
set_option linter.unusedVariables false
set_option linter.unusedSimpArgs false
open Go.RowKit
/-- the order of keys is whole -/
theorem lessK (a b : List UInt8) : Op.bytesLess a b = upK a b := by
  unfold upK
  induction a generalizing b with
  | nil =>
    cases b with
    | nil => rfl
    | cons y b => rfl
  | cons x a ih =>
    cases b with
    | nil => rfl
    | cons y b =>
      unfold Op.bytesLess
      rw [ih b]
      by_cases e : x = y
      · subst e
        simp
      · have e' : ¬ y = x := fun q => e q.symm
        by_cases l : x < y
        · have l' : ¬ y < x := fun q => by have := UInt8.lt_asymm l; exact this q
          simp [e, e', l, l']
        · have l' : y < x := by
            have h1 : x.toNat ≠ y.toNat := fun q => e (UInt8.toNat_inj.1 q)
            have h2 : ¬ x.toNat < y.toNat := fun q => l (UInt8.lt_iff_toNat_lt.2 q)
            exact UInt8.lt_iff_toNat_lt.2 (by omega)
          simp [e, e', l, l']
def oL (L : List ObV) : List ObS := L.map ObV.o
theorem oL_getD (L : List ObV) (i : Nat) : (oL L).getD i default = (L.getD i default).o := by
  unfold oL
  by_cases h : i < L.length
  · simp [List.getD, h]
  · simp [List.getD, Nat.le_of_not_lt h]; rfl
theorem oL_length (L : List ObV) : (oL L).length = L.length := by simp [oL]
end Go.Proofs.Ytndlfmofjmieaaa.Gf

namespace Go.Proofs.Ytndlfmofjmieaaa.Gf
set_option linter.unusedVariables false
set_option linter.unusedSimpArgs false
open Go.RowKit
theorem belR (w : World) (o : Obj) : Below w.heap.size w (w.alloc o) := (Below.refl _ _).alloc (Nat.le_refl _) o
theorem _root_.Go.RowKit.Below.step16 {B : Nat} {a b c : World} (h : Below B a b) (k : Below b.heap.size b c) (hB : B ≤ b.heap.size) : Below B a c := h.trans (k.mono hB)
end Go.Proofs.Ytndlfmofjmieaaa.Gf

namespace Go.Proofs.Ytndlfmofjmieaaa.Gf
set_option linter.unusedVariables false
set_option linter.unusedSimpArgs false
open Go.RowKit
structure Gro (w : World) (v : Value) (w' : World) (v' : Value) : Prop where
  gr : w.grownBy w' v.ownBlock
  pl : v'.ownBlock = v.ownBlock ∨ ∃ k, v'.ownBlock = some k ∧ w.heap.size ≤ k
theorem Gro.refl (w : World) (v : Value) : Gro w v w v := ⟨World.grownBy.refl _ _, Or.inl rfl⟩
theorem Gro.of {w w' : World} {v v' : Value} (h : w.grownBy w' v.ownBlock) (k : v'.ownBlock = v.ownBlock ∨ v'.ownBlock = some w.heap.size) : Gro w v w' v' :=
  ⟨h, k.imp id fun e => ⟨_, e, Nat.le_refl _⟩⟩
theorem Gro.cell {w w' : World} {v v' : Value} (h : Gro w v w' v') {p : Addr} (hp : p.block < w.heap.size) (hn : v.ownBlock ≠ some p.block) : w'.cell? p = w.cell? p := World.cell?_of_block (w := w) (h.gr.block p.block hp fun e => hn e.symm)
theorem Gro.ne {w w' : World} {v v' : Value} (h : Gro w v w' v') {b : Nat} (hb : b < w.heap.size) (hn : v.ownBlock ≠ some b) : v'.ownBlock ≠ some b := by
  rcases h.pl with q | ⟨j, q, hj⟩
  · rw [q]; exact hn
  · rw [q]; intro e; simp at e; omega
theorem set4 {w : World} {g : Nat} {a b c d x0 x1 x2 x3 : Value} (m0 : w.cell? ⟨g, 0, none⟩ = some x0) (m1 : w.cell? ⟨g, 1, none⟩ = some x1) (m2 : w.cell? ⟨g, 2, none⟩ = some x2) (m3 : w.cell? ⟨g, 3, none⟩ = some x3) :
    Only g w ((((w.setCell ⟨g, 0, none⟩ a).setCell ⟨g, 1, none⟩ b).setCell ⟨g, 2, none⟩ c).setCell ⟨g, 3, none⟩ d) ∧ ((((w.setCell ⟨g, 0, none⟩ a).setCell ⟨g, 1, none⟩ b).setCell ⟨g, 2, none⟩ c).setCell ⟨g, 3, none⟩ d).cell? ⟨g, 0, none⟩ = some a ∧ ((((w.setCell ⟨g, 0, none⟩ a).setCell ⟨g, 1, none⟩ b).setCell ⟨g, 2, none⟩ c).setCell ⟨g, 3, none⟩ d).cell? ⟨g, 1, none⟩ = some b ∧ ((((w.setCell ⟨g, 0, none⟩ a).setCell ⟨g, 1, none⟩ b).setCell ⟨g, 2, none⟩ c).setCell ⟨g, 3, none⟩ d).cell? ⟨g, 2, none⟩ = some c ∧ ((((w.setCell ⟨g, 0, none⟩ a).setCell ⟨g, 1, none⟩ b).setCell ⟨g, 2, none⟩ c).setCell ⟨g, 3, none⟩ d).cell? ⟨g, 3, none⟩ = some d := by
  refine ⟨((((Only.refl _ _).setCell _ _).setCell _ _).setCell _ _).setCell _ _, ?_, ?_, ?_, ?_⟩
  · rw [World.cell?_setCell_other _ _ _ _ (by simp), World.cell?_setCell_other _ _ _ _ (by simp), World.cell?_setCell_other _ _ _ _ (by simp), World.cell?_setCell_same _ _ _ m0]
  · rw [World.cell?_setCell_other _ _ _ _ (by simp), World.cell?_setCell_other _ _ _ _ (by simp), World.cell?_setCell_same _ _ _ ((World.cell?_setCell_other _ _ _ _ (by simp)).trans m1)]
  · rw [World.cell?_setCell_other _ _ _ _ (by simp), World.cell?_setCell_same _ _ _ ((World.cell?_setCell_other _ _ _ _ (by simp)).trans ((World.cell?_setCell_other _ _ _ _ (by simp)).trans m2))]
  · exact World.cell?_setCell_same _ _ _ ((World.cell?_setCell_other _ _ _ _ (by simp)).trans ((World.cell?_setCell_other _ _ _ _ (by simp)).trans ((World.cell?_setCell_other _ _ _ _ (by simp)).trans m3)))
end Go.Proofs.Ytndlfmofjmieaaa.Gf

namespace Go.Proofs.Ytndlfmofjmieaaa.Gf
set_option linter.unusedVariables false
set_option linter.unusedSimpArgs false
open Go.RowKit
def chR (r : RcS) : Int := if OkR r then 0 else 1
theorem RdI.at16 {w : World} {a : Option Addr} {n c : Nat} {zs : List Int} (h : RdI w (.slice a n c) zs) {i : Nat} (hi : i < zs.length) : ∃ b off, a = some ⟨b, off, none⟩ ∧ w.cell? ⟨b, off + i, none⟩ = some (.int .i64 (zs.getD i 0)) := by
  rcases h with ⟨a', c', rfl, _⟩ | ⟨b, off, c', h1, e, h2, h3, h4⟩
  · simp at hi
  · simp at e
    obtain ⟨rfl, _⟩ := e
    exact ⟨b, off, rfl, h4 i hi⟩
theorem ch_all {st : List Int} (h : ∀ j, j < st.length → 0 ≤ st.getD j 0 ∧ st.getD j 0 < 256) : ∀ s ∈ st, 0 ≤ s ∧ s < 256 := fun s hs => by
  obtain ⟨i, hi, rfl⟩ := List.getElem_of_mem hs
  have e : st.getD i 0 = st[i] := by rw [List.getD_eq_getElem?_getD, List.getElem?_eq_getElem hi]; rfl
  rw [← e]; exact h i hi
end Go.Proofs.Ytndlfmofjmieaaa.Gf

namespace Go.Proofs.Ytndlfmofjmieaaa.Gf
set_option linter.unusedVariables false
set_option linter.unusedSimpArgs false
open Go.RowKit
def aggO (c : ObV) : Value := .agg #[sv c.o.key, .int .i64 c.o.len, .int .i64 c.o.ep, c.vs]
theorem RdO.at {w : World} {a : Option Addr} {n c : Nat} {L : List ObV} (h : RdO w (.slice a n c) L) {i : Nat} (hi : i < L.length) : ∃ b off, a = some ⟨b, off, none⟩ ∧ b < w.heap.size ∧ ObAt w b (off + i * 4) (L.getD i default) := by
  rcases h with ⟨_, _, e, _⟩ | ⟨b, off, cap, _, e, _, hb, hc⟩
  · subst e; simp at hi
  · simp at e
    obtain ⟨rfl, rfl, rfl⟩ := e
    exact ⟨b, off, rfl, hb, hc i hi⟩
end Go.Proofs.Ytndlfmofjmieaaa.Gf

namespace Go.Proofs.Ytndlfmofjmieaaa.Gf
set_option linter.unusedVariables false
set_option linter.unusedSimpArgs false
open Go.RowKit
/-- an object's limbs -/
structure ObOk (w : World) (c : ObV) : Prop where
  wl : (Lit.int .i64 c.o.len).wf = true
  we : (Lit.int .i64 c.o.ep).wf = true
  ky : c.o.key.length ≤ maxLen
  rs : RdI w c.vs c.o.st
  wi : ∀ z ∈ c.o.st, (Lit.int .i64 z).wf = true
def four (c : ObV) : List Value := [sv c.o.key, .int .i64 c.o.len, .int .i64 c.o.ep, c.vs]
def cellsO : List ObV → List Value
  | [] => []
  | c :: L => four c ++ cellsO L
theorem cellsO_length (L : List ObV) : (cellsO L).length = L.length * 4 := by
  induction L with
  | nil => rfl
  | cons c L ih => show (four c ++ cellsO L).length = _; rw [List.length_append, ih, List.length_cons]; show 4 + _ = _; omega
theorem cellsO_append (L M : List ObV) : cellsO (L ++ M) = cellsO L ++ cellsO M := by
  induction L with
  | nil => rfl
  | cons c L ih => show four c ++ cellsO (L ++ M) = four c ++ cellsO L ++ cellsO M; rw [ih, List.append_assoc]
theorem cellsO_at (L : List ObV) {i j : Nat} (hi : i < L.length) (hj : j < 4) : (cellsO L)[i * 4 + j]? = (four (L.getD i default))[j]? := by
  induction L generalizing i with
  | nil => simp at hi
  | cons c L ih =>
    show (four c ++ cellsO L)[i * 4 + j]? = _
    have h4 : (four c).length = 4 := rfl
    rcases i with _ | i
    · rw [List.getElem?_append_left (by rw [h4]; omega), Nat.zero_mul, Nat.zero_add]; rfl
    · rw [List.getElem?_append_right (by rw [h4]; omega), h4, show (i + 1) * 4 + j - 4 = i * 4 + j by omega, ih (by simpa using hi)]
      rfl
end Go.Proofs.Ytndlfmofjmieaaa.Gf

namespace Go.Proofs.Ytndlfmofjmieaaa.Gf
set_option linter.unusedVariables false
set_option linter.unusedSimpArgs false
open Go.RowKit
def noR : RcS := ⟨0, [], 0, []⟩
end Go.Proofs.Ytndlfmofjmieaaa.Gf

namespace Go.Proofs.Ytndlfmofjmieaaa.Gf
set_option linter.unusedVariables false
set_option linter.unusedSimpArgs false
open Go.RowKit
def OkN (n : Int) : Prop := 0 ≤ n ∧ n ≤ 2147483647
instance (n : Int) : Decidable (OkN n) := inferInstanceAs (Decidable (_ ∧ _))
def OkT16 (st : List Int) : Prop := st.length ≤ 256 ∧ ∀ s ∈ st, 0 ≤ s ∧ s < 256
instance (st : List Int) : Decidable (OkT16 st) := inferInstanceAs (Decidable (_ ∧ _))
set_option maxRecDepth 100000 in
theorem may16_any {n : Int} {w : World} {x : Bool} (hx : decide (OkN n) = x) : Calls Try.prog 62 #[.int .i64 n] w fun e w' => e = .returned (.bool x) ∧ w' = w := by
  by_cases h0 : 0 ≤ n
  · by_cases h1 : n ≤ 2147483647
    · obtain rfl : x = true := hx.symm.trans (decide_eq_true ⟨h0, h1⟩)
      clear hx
      have h0' : n ≥ 0 := h0
      go_enter Try.func62, Try.ntmps62
      go_wp2
      go_ret
      exact ⟨rfl, rfl⟩
    · obtain rfl : x = false := hx.symm.trans (decide_eq_false fun q => h1 q.2)
      clear hx
      have h0' : n ≥ 0 := h0
      go_enter Try.func62, Try.ntmps62
      go_wp2
      go_ret
      exact ⟨rfl, rfl⟩
  · obtain rfl : x = false := hx.symm.trans (decide_eq_false fun q => h0 q.1)
    clear hx
    have h0' : ¬ n ≥ 0 := h0
    go_enter Try.func62, Try.ntmps62
    go_wp2
    go_ret
    exact ⟨rfl, rfl⟩
set_option maxRecDepth 100000 in
set_option maxHeartbeats 1000000 in
theorem are16_any {st : List Int} {v : Value} {w : World} (h : RdI w v st) {x : Bool} (hx : decide (OkT16 st) = x) : Calls Try.prog 63 #[v] w fun e w' => e = .returned (.bool x) ∧ w' = w := by
  obtain ⟨a, cp, rfl⟩ := h.form
  have HX : Hid (decide (OkT16 st) = x) := hx
  clear hx
  by_cases h6 : (st.length : Int) > 256
  · obtain rfl : x = false := HX.out.symm.trans (decide_eq_false fun q => by have := q.1; omega)
    clear HX h
    go_enter Try.func63, Try.ntmps63
    go_wp2
    go_ret
    exact ⟨rfl, rfl⟩
  go_enter Try.func63, Try.ntmps63
  go_wp2
  go_loopw [10] (fun i wr => ∃ r : Nat, r ≤ st.length ∧ i = .int .i64 (r : Int) ∧ wr = w ∧ Hid (∀ j, j < r → 0 ≤ st.getD j 0 ∧ st.getD j 0 < 256)) (fun i _ => st.length - (intOf i).toNat)
  case atStart => exact ⟨0, Nat.zero_le _, rfl, rfl, fun j hj => absurd hj (Nat.not_lt_zero _)⟩
  case round =>
    obtain ⟨r, hr, rfl, rfl, hall⟩ := hrel
    by_cases hlt : r < st.length
    · have hlt' : (r : Int) < (st.length : Int) := by omega
      have hrl : (r : Int) ≤ (st.length : Int) := by omega
      obtain ⟨b, off, e, cz⟩ := h.at16 hlt
      subst e
      have N1 : Hid (st.getD r 0 < 0 ∨ st.getD r 0 ≥ 256 → decide (OkT16 st) = false) := fun q => decide_eq_false fun k => by
        have e : st.getD r 0 = st[r] := by rw [List.getD_eq_getElem?_getD, List.getElem?_eq_getElem hlt]; rfl
        have := k.2 st[r] (List.getElem_mem hlt)
        omega
      have hall2 : Hid (0 ≤ st.getD r 0 → st.getD r 0 < 256 → ∀ j, j < r + 1 → 0 ≤ st.getD j 0 ∧ st.getD j 0 < 256) := fun h0 h1 j hj => by
        by_cases e : j = r
        · rw [e]; exact ⟨h0, h1⟩
        · exact hall.out j (by omega)
      generalize st.getD r 0 = z at cz N1 hall2
      by_cases z0 : z < 0
      · obtain rfl : x = false := HX.out.symm.trans (N1.out (Or.inl z0))
        clear N1 hall2 hall HX
        go_wp2
        go_ret
        exact ⟨rfl, rfl⟩
      by_cases z1 : z ≥ 256
      · obtain rfl : x = false := HX.out.symm.trans (N1.out (Or.inr z1))
        clear N1 hall2 hall HX
        go_wp2
        go_ret
        exact ⟨rfl, rfl⟩
      · have H3 : Hid _ := hall2.out (by omega) (by omega)
        clear N1 hall2 hall
        go_wp2
        go_roundw
        case rel => exact ⟨r + 1, by omega, by go_num, by first | rfl | trivial, H3.out⟩
        case measure => simp [intOf]; omega
    · obtain rfl : r = st.length := by omega
      have hge : ¬ (st.length : Int) < (st.length : Int) := by omega
      obtain rfl : x = true := HX.out.symm.trans (decide_eq_true ⟨by omega, ch_all hall.out⟩)
      clear hall hlt HX
      go_wp2
      go_ret
      exact ⟨rfl, rfl⟩
theorem chR_parts {kd ln : Int} {ky : List UInt8} {st : List Int} (h1 : 1 ≤ ky.length) (h2 : ky.length ≤ 64) (h3 : OkN ln) (h4 : OkT16 st) : chR ⟨kd, ky, ln, st⟩ = if kd = 1 ∨ kd = 2 ∧ ln = 0 ∧ st.length = 0 then 0 else 1 := by
  unfold chR
  by_cases q : kd = 1 ∨ kd = 2 ∧ ln = 0 ∧ st.length = 0
  · rw [if_pos q, if_pos]
    refine ⟨by simp only; omega, h1, h2, h3.1, h3.2, h4.1, h4.2, fun e => ?_⟩
    simp only at e
    simp only
    omega
  · rw [if_neg q, if_neg]
    rintro ⟨k1, -, -, -, -, -, -, k8⟩
    simp only at k1 k8
    apply q
    rcases k1 with k1 | k1
    · exact Or.inl k1
    · exact Or.inr ⟨k1, k8 k1⟩
set_option maxRecDepth 100000 in
set_option maxHeartbeats 2000000 in
theorem chk16_any {w : World} {c : RcV} (h : c.In w) {x : Int} (hx : chR c.r = x) : Calls Try.prog 50 #[aggR c] w fun e w' => e = .returned (.int .i64 x) ∧ Below w.heap.size w w' := by
  obtain ⟨⟨kd, ky, ln, st⟩, vs⟩ := c
  have HR := h.rs
  obtain ⟨a, cp, e⟩ := HR.form
  simp only at e HR hx
  subst e
  clear h
  have HX : Hid (chR ⟨kd, ky, ln, st⟩ = x) := hx
  clear hx
  show Calls Try.prog 50 #[.agg #[.int .i64 kd, .string ⟨ky.toArray⟩, .int .i64 ln, .slice a st.length cp]] w _
  obtain ⟨w1, hw1⟩ : ∃ w1, w1 = w.alloc (.cells #[.int .i64 kd, .string ⟨ky.toArray⟩, .int .i64 ln, .slice a st.length cp] 39) := ⟨_, rfl⟩
  have B1 : Below w.heap.size w w1 := by rw [hw1]; exact belR _ _
  have c0 : w1.cell? ⟨w.heap.size, 0, none⟩ = some (.int .i64 kd) := by rw [hw1, World.cell?_alloc_new]; rfl
  have c1 : w1.cell? ⟨w.heap.size, 1, none⟩ = some (.string ⟨ky.toArray⟩) := by rw [hw1, World.cell?_alloc_new]; rfl
  have c2 : w1.cell? ⟨w.heap.size, 2, none⟩ = some (.int .i64 ln) := by rw [hw1, World.cell?_alloc_new]; rfl
  have c3 : w1.cell? ⟨w.heap.size, 3, none⟩ = some (.slice a st.length cp) := by rw [hw1, World.cell?_alloc_new]; rfl
  have HR1 := HR.below B1
  clear HR
  by_cases h1 : (ky.length : Int) ≥ 1
  rotate_left
  · obtain rfl : x = 1 := HX.out.symm.trans (if_neg fun q => by have := q.2.1; simp only at this; omega)
    clear HX HR1
    go_enter Try.func50, Try.ntmps50
    go_wp2_with fail
    rw [← hw1]
    clear hw1
    go_ret
    exact ⟨rfl, B1⟩
  by_cases h2 : (ky.length : Int) ≤ 64
  rotate_left
  · obtain rfl : x = 1 := HX.out.symm.trans (if_neg fun q => by have := q.2.2.1; simp only at this; omega)
    clear HX HR1
    go_enter Try.func50, Try.ntmps50
    go_wp2_with fail
    rw [← hw1]
    clear hw1
    go_ret
    exact ⟨rfl, B1⟩
  by_cases h3 : OkN ln
  rotate_left
  · obtain rfl : x = 1 := HX.out.symm.trans (if_neg fun q => h3 ⟨q.2.2.2.1, q.2.2.2.2.1⟩)
    clear HX HR1
    go_enter Try.func50, Try.ntmps50
    go_wp2_with fail
    rw [← hw1]
    clear hw1
    refine (may16_any (decide_eq_false h3)).mono ?_
    rintro _ _ ⟨rfl, rfl⟩
    go_wp2
    go_ret
    exact ⟨rfl, B1⟩
  by_cases h4 : OkT16 st
  rotate_left
  · obtain rfl : x = 1 := HX.out.symm.trans (if_neg fun q => h4 ⟨q.2.2.2.2.2.1, q.2.2.2.2.2.2.1⟩)
    clear HX
    have K4 := are16_any HR1 (decide_eq_false h4)
    go_enter Try.func50, Try.ntmps50
    go_wp2_with fail
    rw [← hw1]
    clear hw1
    refine (may16_any (decide_eq_true h3)).mono ?_
    rintro _ _ ⟨rfl, rfl⟩
    go_wp2_with fail
    refine K4.mono ?_
    rintro _ _ ⟨rfl, rfl⟩
    clear K4
    go_wp2
    go_ret
    exact ⟨rfl, B1⟩
  have HY : Hid _ := (chR_parts (kd := kd) (by omega) (by omega) h3 h4).symm.trans HX.out
  have K4 := are16_any HR1 (decide_eq_true h4)
  clear HX HR1
  go_enter Try.func50, Try.ntmps50
  go_wp2_with fail
  rw [← hw1]
  clear hw1
  refine (may16_any (decide_eq_true h3)).mono ?_
  rintro _ _ ⟨rfl, rfl⟩
  go_wp2_with fail
  refine K4.mono ?_
  rintro _ _ ⟨rfl, rfl⟩
  clear K4 h3 h4 h1 h2
  by_cases k1 : kd = 1
  · obtain rfl : x = 0 := HY.out.symm.trans (if_pos (Or.inl k1))
    clear HY
    subst k1
    go_wp2
    go_ret
    exact ⟨rfl, B1⟩
  by_cases k2 : kd = 2
  rotate_left
  · obtain rfl : x = 1 := HY.out.symm.trans (if_neg (by omega))
    clear HY
    go_wp2
    go_ret
    exact ⟨rfl, B1⟩
  by_cases k3 : ln = 0
  rotate_left
  · obtain rfl : x = 1 := HY.out.symm.trans (if_neg (by omega))
    clear HY
    subst k2
    go_wp2
    go_ret
    exact ⟨rfl, B1⟩
  by_cases k4 : (st.length : Int) = 0
  · obtain rfl : x = 0 := HY.out.symm.trans (if_pos (by omega))
    clear HY
    subst k2 k3
    go_wp2
    go_ret
    exact ⟨rfl, B1⟩
  · obtain rfl : x = 1 := HY.out.symm.trans (if_neg (by omega))
    clear HY
    subst k2 k3
    go_wp2
    go_ret
    exact ⟨rfl, B1⟩
end Go.Proofs.Ytndlfmofjmieaaa.Gf

namespace Go.Proofs.Ytndlfmofjmieaaa.Gf
set_option linter.unusedVariables false
set_option linter.unusedSimpArgs false
open Go.RowKit
def vz (z : Int) : Value := .int .i64 z
def OwnZ (w : World) (base e : Nat) (v : Value) (zs : List Int) : Prop := w.ownsRow base e 1 v zs.length (zs.map vz)
theorem OwnZ.cell {w : World} {base e : Nat} {a : Option Addr} {n c : Nat} {zs : List Int} (h : OwnZ w base e (.slice a n c) zs) {i : Nat} (hi : i < zs.length) : ∃ g, a = some ⟨g, 0, none⟩ ∧ g < w.heap.size ∧ base ≤ g ∧ w.cell? ⟨g, i, none⟩ = some (.int .i64 (zs.getD i 0)) := by
  have h' := h
  obtain ⟨_, ⟨e, hn⟩ | ⟨g, cap, cur, e, hg, hh, hc, hm, hs, ht⟩⟩ := h
  · omega
  · simp at e
    obtain ⟨rfl, rfl, rfl⟩ := e
    have hlt := World.ownsRow.lt h' g rfl
    refine ⟨g, rfl, hlt.2, hlt.1, ?_⟩
    rw [World.ownsRow.cellAt h' i (by omega), List.getElem?_map, List.getElem?_eq_getElem hi]
    simp [vz, List.getD, hi]
theorem OwnZ.rd {w : World} {base e : Nat} {v : Value} {zs : List Int} (h : OwnZ w base e v zs) (hl : zs.length ≤ 1000000) : RdI w v zs := by
  obtain ⟨a, c, rfl⟩ := owns_form h
  by_cases h0 : zs = []
  · subst h0; exact Or.inl ⟨a, c, rfl, rfl⟩
  · have hpos : 0 < zs.length := List.length_pos_iff.2 h0
    obtain ⟨g, rfl, hg, _, _⟩ := h.cell hpos
    refine Or.inr ⟨g, 0, c, h0, rfl, by unfold maxLen; omega, hg, fun i hi => ?_⟩
    obtain ⟨g', e, _, _, hc⟩ := h.cell hi
    simp at e
    subst e
    rw [Nat.zero_add, hc]
theorem info_int16 : (Try.prog.info? 3).map (fun i => (i.zero, i.size, i.bytes)) = some (some (.int .i64 0), 1, 8) := by kernel_rfl
theorem info_int16' : ∃ i, Try.prog.info? 3 = some i ∧ i.zero = some (.int .i64 0) ∧ i.size = 1 ∧ i.bytes = 8 := by
  have h := info_int16
  cases e : Try.prog.info? 3 with
  | none => rw [e] at h; cases h
  | some i =>
    rw [e] at h
    simp only [Option.map_some, Option.some.injEq, Prod.mk.injEq] at h
    exact ⟨i, rfl, h.1, h.2.1, h.2.2⟩
end Go.Proofs.Ytndlfmofjmieaaa.Gf
