/- TEXTS JOINED: LyRefC, LyRefD, ReMath, ReSnap, ReObj, ReOL, ReBel, ReGrM, ReChk, ReAgO, ReOw, ReEn. -/
import Derived.Test.YtndlfmofjmieaaaPome3
import Derived.Maps.AppendAt
namespace Go.Proofs.Ytndlfmofjmieaaa.Gf
set_option linter.unusedVariables false
set_option linter.unusedSimpArgs false
open Go.RowKit
theorem rchk_any {w : World} {k m : Int} {x : Int} (hx : (if okK k m then 0 else 50) = x) : Calls Try.prog 53 #[.int .i64 k, .int .i64 m] w fun e w' => e = .returned (.int .i64 x) ∧ w' = w := by
  by_cases h0 : k < 1
  · rw [if_neg (by unfold okK; omega)] at hx
    subst hx
    go_enter Try.func53, Try.ntmps53
    go_wp2
    go_ret
    exact ⟨rfl, rfl⟩
  by_cases h1 : k > 256
  · rw [if_neg (by unfold okK; omega)] at hx
    subst hx
    go_enter Try.func53, Try.ntmps53
    go_wp2
    go_ret
    exact ⟨rfl, rfl⟩
  by_cases h2 : m < 0
  · rw [if_neg (by unfold okK; omega)] at hx
    subst hx
    go_enter Try.func53, Try.ntmps53
    go_wp2
    go_ret
    exact ⟨rfl, rfl⟩
  by_cases h3 : m > 256
  · rw [if_neg (by unfold okK; omega)] at hx
    subst hx
    go_enter Try.func53, Try.ntmps53
    go_wp2
    go_ret
    exact ⟨rfl, rfl⟩
  have gw : IntKind.i64.wrap (k + m) = k + m := by rw [IntKind.wrap_i64]; omega
  by_cases h4 : k + m > 256
  · rw [if_neg (by unfold okK; omega)] at hx
    subst hx
    go_enter Try.func53, Try.ntmps53
    go_wp2
    go_ret
    exact ⟨rfl, rfl⟩
  · rw [if_pos (by unfold okK; omega)] at hx
    subst hx
    go_enter Try.func53, Try.ntmps53
    go_wp2
    go_ret
    exact ⟨rfl, rfl⟩
set_option maxRecDepth 100000 in
set_option maxHeartbeats 4000000 in
theorem rcheckL_any {w : World} {g : GeoS} (hg : g.Wf) {x : Int} (hx : chG g = x) : Calls Try.prog 33 #[aggG g] w fun e w' => e = .returned (.int .i64 x) ∧ Below w.heap.size w w' := by
  obtain ⟨k, m, z, s, t, o⟩ := g
  have K := fun W => @rchk_any W k m _ rfl
  rw [aggE]
  have FB := fun o => belL w o
  by_cases hk : okK k m
  rotate_left
  · rw [show chG ⟨k, m, z, s, t, o⟩ = 50 from if_neg (by unfold okG; unfold okK at hk; simp only; omega)] at hx
    subst hx
    rw [if_neg hk] at K
    go_enter Try.func33, Try.ntmps33
    go_wp2_with fail
    refine (K _).mono ?_
    rintro _ wq ⟨rfl, hwq⟩
    rw [hwq]
    clear hwq wq K
    go_wp2
    go_ret
    exact ⟨rfl, FB _⟩
  rw [if_pos hk] at K
  have gw : IntKind.i64.wrap (k + m) = k + m := by unfold okK at hk; rw [IntKind.wrap_i64]; omega
  by_cases h0 : k + m > 32
  · rw [show chG ⟨k, m, z, s, t, o⟩ = 50 from if_neg (by unfold okG; simp only; omega)] at hx
    subst hx
    go_enter Try.func33, Try.ntmps33
    go_wp2_with fail
    refine (K _).mono ?_
    rintro _ wq ⟨rfl, hwq⟩
    rw [hwq]
    clear hwq wq K
    go_wp2
    go_ret
    exact ⟨rfl, FB _⟩
  by_cases h1 : z < 1
  · rw [show chG ⟨k, m, z, s, t, o⟩ = 50 from if_neg (by unfold okG; simp only; omega)] at hx
    subst hx
    go_enter Try.func33, Try.ntmps33
    go_wp2_with fail
    refine (K _).mono ?_
    rintro _ wq ⟨rfl, hwq⟩
    rw [hwq]
    clear hwq wq K
    go_wp2
    go_ret
    exact ⟨rfl, FB _⟩
  by_cases h2 : z > 4096
  · rw [show chG ⟨k, m, z, s, t, o⟩ = 50 from if_neg (by unfold okG; simp only; omega)] at hx
    subst hx
    go_enter Try.func33, Try.ntmps33
    go_wp2_with fail
    refine (K _).mono ?_
    rintro _ wq ⟨rfl, hwq⟩
    rw [hwq]
    clear hwq wq K
    go_wp2
    go_ret
    exact ⟨rfl, FB _⟩
  by_cases h3 : s < 1
  · rw [show chG ⟨k, m, z, s, t, o⟩ = 50 from if_neg (by unfold okG; simp only; omega)] at hx
    subst hx
    go_enter Try.func33, Try.ntmps33
    go_wp2_with fail
    refine (K _).mono ?_
    rintro _ wq ⟨rfl, hwq⟩
    rw [hwq]
    clear hwq wq K
    go_wp2
    go_ret
    exact ⟨rfl, FB _⟩
  by_cases h4 : s > 256
  · rw [show chG ⟨k, m, z, s, t, o⟩ = 50 from if_neg (by unfold okG; simp only; omega)] at hx
    subst hx
    go_enter Try.func33, Try.ntmps33
    go_wp2_with fail
    refine (K _).mono ?_
    rintro _ wq ⟨rfl, hwq⟩
    rw [hwq]
    clear hwq wq K
    go_wp2
    go_ret
    exact ⟨rfl, FB _⟩
  by_cases h5 : t < 1
  · rw [show chG ⟨k, m, z, s, t, o⟩ = 50 from if_neg (by unfold okG; simp only; omega)] at hx
    subst hx
    go_enter Try.func33, Try.ntmps33
    go_wp2_with fail
    refine (K _).mono ?_
    rintro _ wq ⟨rfl, hwq⟩
    rw [hwq]
    clear hwq wq K
    go_wp2
    go_ret
    exact ⟨rfl, FB _⟩
  by_cases h6 : t > 64
  · rw [show chG ⟨k, m, z, s, t, o⟩ = 50 from if_neg (by unfold okG; simp only; omega)] at hx
    subst hx
    go_enter Try.func33, Try.ntmps33
    go_wp2_with fail
    refine (K _).mono ?_
    rintro _ wq ⟨rfl, hwq⟩
    rw [hwq]
    clear hwq wq K
    go_wp2
    go_ret
    exact ⟨rfl, FB _⟩
  by_cases h7 : o < 1
  · rw [show chG ⟨k, m, z, s, t, o⟩ = 50 from if_neg (by unfold okG; simp only; omega)] at hx
    subst hx
    go_enter Try.func33, Try.ntmps33
    go_wp2_with fail
    refine (K _).mono ?_
    rintro _ wq ⟨rfl, hwq⟩
    rw [hwq]
    clear hwq wq K
    go_wp2
    go_ret
    exact ⟨rfl, FB _⟩
  by_cases h8 : o > 64
  · rw [show chG ⟨k, m, z, s, t, o⟩ = 50 from if_neg (by unfold okG; simp only; omega)] at hx
    subst hx
    go_enter Try.func33, Try.ntmps33
    go_wp2_with fail
    refine (K _).mono ?_
    rintro _ wq ⟨rfl, hwq⟩
    rw [hwq]
    clear hwq wq K
    go_wp2
    go_ret
    exact ⟨rfl, FB _⟩
  rw [show chG ⟨k, m, z, s, t, o⟩ = 0 from if_pos (by unfold okG; unfold okK at hk; simp only; omega)] at hx
  subst hx
  go_enter Try.func33, Try.ntmps33
  go_wp2_with fail
  refine (K _).mono ?_
  rintro _ wq ⟨rfl, hwq⟩
  rw [hwq]
  clear hwq wq K
  go_wp2
  go_ret
  exact ⟨rfl, FB _⟩
end Go.Proofs.Ytndlfmofjmieaaa.Gf

namespace Go.Proofs.Ytndlfmofjmieaaa.Gf
set_option linter.unusedVariables false
set_option linter.unusedSimpArgs false
open Go.RowKit
set_option maxRecDepth 100000 in
set_option maxHeartbeats 1000000 in
theorem rneeds_any {w : World} {g : GeoS} (hg : g.Wf) {b : Int} (hb : (Lit.int .i64 b).wf = true) {x : Int} (hx : neG g b = x) : Calls Try.prog 55 #[aggG g, .int .i64 b] w fun e w' => e = .returned (.int .i64 x) ∧ Below w.heap.size w w' := by
  obtain ⟨k, m, z, s, t, o⟩ := g
  have LA := geo_laid w ⟨k, m, z, s, t, o⟩
  rw [aggE]
  have bk := bounds_i64 hg.k
  have bm := bounds_i64 hg.m
  simp only at bk bm
  have KC := fun W => @rcheckL_any W ⟨k, m, z, s, t, o⟩ hg _ rfl
  rw [aggE] at KC
  have bb := bounds_i64 hb
  by_cases h0 : okG ⟨k, m, z, s, t, o⟩
  · rw [show chG ⟨k, m, z, s, t, o⟩ = 0 from if_pos h0] at KC
    have op := one_pos h0
    by_cases b1 : b < 1
    · rw [show neG ⟨k, m, z, s, t, o⟩ b = 0 from if_neg (fun h => by have := h.2; omega)] at hx
      subst hx
      go_enter Try.func55, Try.ntmps55
      go_wp2_with fail
      refine (KC _).mono ?_
      rintro _ w1 ⟨rfl, B1⟩
      obtain ⟨⟨x0, x1, x2, x3, x4, x5⟩, F1⟩ := LA _ _ B1
      simp only at x0 x1 x2 x3 x4 x5
      clear B1 LA KC
      go_wp2
      go_ret
      exact ⟨rfl, F1⟩
    rw [show neG ⟨k, m, z, s, t, o⟩ b = (b - 1) / (k * z) + 1 from if_pos ⟨h0, by omega⟩] at hx
    simp only at op
    obtain ⟨c, hc⟩ : ∃ c, Hid (c = k * z) := ⟨_, rfl⟩
    rw [← hc.out] at op hx
    have gk : IntKind.i64.wrap (k * z) = c := by rw [← hc.out, IntKind.wrap_i64]; omega
    have nz : ¬ c = 0 := by omega
    have nz' : (c == 0) = false := beq_eq_false_iff_ne.2 nz
    have td : b.tdiv c = b / c := Int.tdiv_eq_ediv_of_nonneg (by omega)
    have tm : b.tmod c = b % c := Int.tmod_eq_emod_of_nonneg (by omega)
    have e1 := Int.emod_add_mul_ediv b c
    have e2 := Int.emod_nonneg b nz
    have e3 := Int.emod_lt_of_pos b (show 0 < c by omega)
    have e4 := Int.ediv_nonneg (show 0 ≤ b by omega) (show 0 ≤ c by omega)
    have e5 : b / c ≤ b := Int.ediv_le_self _ (by omega)
    have gd : IntKind.i64.wrap (b / c) = b / c := by rw [IntKind.wrap_i64]; omega
    have gm : IntKind.i64.wrap (b % c) = b % c := by rw [IntKind.wrap_i64]; omega
    by_cases r1 : b % c > 0
    · have DU := div_up (show 0 < c by omega) r1
      have EQ : Hid ((b - 1) / c + 1 = b / c + 1) := DU.1
      have e6 := DU.2 (by omega)
      have g5 : IntKind.i64.wrap (b / c + 1) = b / c + 1 := by rw [IntKind.wrap_i64]; omega
      rw [EQ.out] at hx
      subst hx
      go_enter Try.func55, Try.ntmps55
      go_wp2_with fail
      refine (KC _).mono ?_
      rintro _ w1 ⟨rfl, B1⟩
      obtain ⟨⟨x0, x1, x2, x3, x4, x5⟩, F1⟩ := LA _ _ B1
      simp only at x0 x1 x2 x3 x4 x5
      clear B1 LA KC e1 e2 e3 e4 e5 DU e6
      go_wp2
      go_ret
      exact ⟨rfl, F1⟩
    · have EQ : Hid ((b - 1) / c + 1 = b / c) := div_even (show 0 < c by omega) r1
      rw [EQ.out] at hx
      subst hx
      go_enter Try.func55, Try.ntmps55
      go_wp2_with fail
      refine (KC _).mono ?_
      rintro _ w1 ⟨rfl, B1⟩
      obtain ⟨⟨x0, x1, x2, x3, x4, x5⟩, F1⟩ := LA _ _ B1
      simp only at x0 x1 x2 x3 x4 x5
      clear B1 LA KC e1 e2 e3 e4 e5
      go_wp2
      go_ret
      exact ⟨rfl, F1⟩
  · rw [show chG ⟨k, m, z, s, t, o⟩ = 50 from if_neg h0] at KC
    rw [show neG ⟨k, m, z, s, t, o⟩ b = 0 from if_neg (fun h => h0 h.1)] at hx
    subst hx
    go_enter Try.func55, Try.ntmps55
    go_wp2_with fail
    refine (KC _).mono ?_
    rintro _ w1 ⟨rfl, B1⟩
    obtain ⟨⟨x0, x1, x2, x3, x4, x5⟩, F1⟩ := LA _ _ B1
    simp only at x0 x1 x2 x3 x4 x5
    clear B1 LA KC
    go_wp2
    go_ret
    exact ⟨rfl, F1⟩
end Go.Proofs.Ytndlfmofjmieaaa.Gf

namespace Go.Proofs.Ytndlfmofjmieaaa.Gf
set_option linter.unusedVariables false
set_option linter.unusedSimpArgs false
open Go.RowKit
/-- a record: kind, key, length, stripes -/
structure RcS where
  kind : Int
  key : List UInt8
  len : Int
  st : List Int
def OkR (r : RcS) : Prop := (r.kind = 1 ∨ r.kind = 2) ∧ 1 ≤ r.key.length ∧ r.key.length ≤ 64 ∧ 0 ≤ r.len ∧ r.len ≤ 2147483647 ∧ r.st.length ≤ 256 ∧ (∀ s ∈ r.st, 0 ≤ s ∧ s < 256) ∧ (r.kind = 2 → r.len = 0 ∧ r.st.length = 0)
instance (r : RcS) : Decidable (OkR r) := inferInstanceAs (Decidable (_ ∧ _ ∧ _ ∧ _ ∧ _ ∧ _ ∧ _ ∧ _))
end Go.Proofs.Ytndlfmofjmieaaa.Gf

namespace Go.Proofs.Ytndlfmofjmieaaa.Gf
set_option linter.unusedVariables false
set_option linter.unusedSimpArgs false
open Go.RowKit
/-- an object: key, length, epoch, stripes -/
structure ObS where
  key : List UInt8
  len : Int
  ep : Int
  st : List Int
instance : Inhabited ObS := ⟨⟨[], 0, 0, []⟩⟩
def putR (o : ObS) : RcS := ⟨1, o.key, o.len, o.st⟩
def OkO (o : ObS) : Prop := OkR (putR o) ∧ 0 ≤ o.ep ∧ o.ep ≤ 2147483647
instance (o : ObS) : Decidable (OkO o) := inferInstanceAs (Decidable (_ ∧ _ ∧ _))
/-- b stands above a -/
def upK (a b : List UInt8) : Bool := !(Op.bytesLess b a || b == a)
end Go.Proofs.Ytndlfmofjmieaaa.Gf

namespace Go.Proofs.Ytndlfmofjmieaaa.Gf
set_option linter.unusedVariables false
set_option linter.unusedSimpArgs false
open Go.RowKit
open Go.ChangeShapes
/-- a string of bytes -/
def sv (y : List UInt8) : Value := .string ⟨y.toArray⟩
/-- a record's value; what its slice reads as -/
structure RcV where
  r : RcS
  vs : Value
def aggR (c : RcV) : Value := .agg #[.int .i64 c.r.kind, sv c.r.key, .int .i64 c.r.len, c.vs]
structure RcV.In (w : World) (c : RcV) : Prop where
  wk : (Lit.int .i64 c.r.kind).wf = true
  wl : (Lit.int .i64 c.r.len).wf = true
  ky : c.r.key.length ≤ maxLen
  rs : RdI w c.vs c.r.st
  wi : ∀ z ∈ c.r.st, (Lit.int .i64 z).wf = true
theorem RcV.In.below {w w' : World} {c : RcV} (h : c.In w) (hb : Below w.heap.size w w') : c.In w' := ⟨h.wk, h.wl, h.ky, h.rs.below hb, h.wi⟩
/-- an object in memory -/
structure ObV where
  o : ObS
  vs : Value
instance : Inhabited ObV := ⟨⟨default, .slice none 0 0⟩⟩
structure ObAt (w : World) (b off : Nat) (c : ObV) : Prop where
  c0 : w.cell? ⟨b, off, none⟩ = some (sv c.o.key)
  c1 : w.cell? ⟨b, off + 1, none⟩ = some (.int .i64 c.o.len)
  c2 : w.cell? ⟨b, off + 2, none⟩ = some (.int .i64 c.o.ep)
  c3 : w.cell? ⟨b, off + 3, none⟩ = some c.vs
  wl : (Lit.int .i64 c.o.len).wf = true
  we : (Lit.int .i64 c.o.ep).wf = true
  ky : c.o.key.length ≤ maxLen
  rs : RdI w c.vs c.o.st
  wi : ∀ z ∈ c.o.st, (Lit.int .i64 z).wf = true
theorem ObAt.below {w w' : World} {b off : Nat} {c : ObV} (h : ObAt w b off c) (hb : b < w.heap.size) (hw : Below w.heap.size w w') : ObAt w' b off c :=
  ⟨(hw.cell (p := ⟨b, off, none⟩) hb).trans h.c0, (hw.cell (p := ⟨b, off + 1, none⟩) hb).trans h.c1, (hw.cell (p := ⟨b, off + 2, none⟩) hb).trans h.c2, (hw.cell (p := ⟨b, off + 3, none⟩) hb).trans h.c3, h.wl, h.we, h.ky, h.rs.below hw, h.wi⟩
def RdO (w : World) (v : Value) (L : List ObV) : Prop :=
  (∃ ao cap, L = [] ∧ v = .slice ao 0 cap) ∨ (∃ b off cap, L ≠ [] ∧ v = .slice (some ⟨b, off, none⟩) L.length cap ∧ L.length ≤ maxLen ∧ b < w.heap.size ∧ ∀ i, i < L.length → ObAt w b (off + i * 4) (L.getD i default))
theorem RdO.below {w w' : World} {v : Value} {L : List ObV} (h : RdO w v L) (hb : Below w.heap.size w w') : RdO w' v L := by
  rcases h with h | ⟨b, off, cap, h1, h2, h3, h5, h6⟩
  · exact Or.inl h
  · exact Or.inr ⟨b, off, cap, h1, h2, h3, Nat.lt_of_lt_of_le h5 hb.size, fun i hi => (h6 i hi).below h5 hb⟩
theorem RdO.form {w : World} {v : Value} {L : List ObV} (h : RdO w v L) : ∃ a c, v = .slice a L.length c := by
  rcases h with ⟨a, c, rfl, rfl⟩ | ⟨b, off, c, _, rfl, _⟩
  · exact ⟨a, c, rfl⟩
  · exact ⟨_, c, rfl⟩
theorem RdO.lenEq {w : World} {a : Option Addr} {len cap : Nat} {L : List ObV} (h : RdO w (.slice a len cap) L) : len = L.length := by
  obtain ⟨_, _, e⟩ := h.form
  simp at e
  exact e.2.1
theorem four16 {cs : List Value} (h : cs.length = 4) : ∃ v0 v1 v2 v3, cs = [v0, v1, v2, v3] := by
  match cs, h with
  | [a, b, c, d], _ => exact ⟨a, b, c, d, rfl⟩
section
variable {H : Type} {enc : TypeId × Value → H} {P : Program} {w : World} {base : Nat} {held : Bool}
theorem open_ints16 {t si : TypeId} {fuel : Nat} {v : Value} {x : DataW H × List MemPlace} (t5 : P.underlying t = some (.slice si)) (ti : P.underlying si = some (.int .i64)) (ci : P.cellsOf si = 1) (q5 : DataW.trod enc P w base (fun _ => true) held fuel t [v] = some x) : ∃ pk, RdI w v pk ∧ ∀ z ∈ pk, (Lit.int .i64 z).wf = true := by
  rcases open_ints t5 ti ci q5 with ⟨hcs, _⟩ | ⟨x5, l5, c5, zs, hcs, _, hl5, hm5, hz, _, hcell, hwz⟩
  · simp at hcs
    subst hcs
    exact ⟨[], Or.inl ⟨none, 0, rfl, rfl⟩, by simp⟩
  · simp at hcs
    subst hcs
    exact rdI_row2 (Or.inr ⟨x5, rfl, hl5, hm5, by simpa using hz, hcell, hwz⟩)
theorem open_objs {t e si : TypeId} {f0 f1 f2 f3 : Field} {fuel : Nat} {cs : List Value} {x : DataW H × List MemPlace} (ht : P.underlying t = some (.slice e)) (he : P.underlying e = some (.struct #[f0, f1, f2, f3])) (ce : P.cellsOf e = 4)
    (o0 : f0.offset = 0) (o1 : f1.offset = 1) (o2 : f2.offset = 2) (o3 : f3.offset = 3)
    (t0 : P.underlying f0.type = some .string) (t1 : P.underlying f1.type = some (.int .i64)) (t2 : P.underlying f2.type = some (.int .i64)) (t3 : P.underlying f3.type = some (.slice si)) (ti : P.underlying si = some (.int .i64)) (ci : P.cellsOf si = 1)
    (n0 : P.cellsOf f0.type = 1) (n1 : P.cellsOf f1.type = 1) (n2 : P.cellsOf f2.type = 1) (n3 : P.cellsOf f3.type = 1)
    (h : DataW.trod enc P w base (fun _ => true) held fuel t cs = some x) : ∃ a len cap L, cs = [.slice a len cap] ∧ len = L.length ∧ RdO w (.slice a len cap) L := by
  rcases Go.Deep.open_slice ht h with ⟨rfl, _⟩ | ⟨a, len, cap, m, n, D, Pl, rfl, hb, hl, hm, hmm, rfl, hx⟩
  · exact ⟨none, 0, 0, [], rfl, rfl, Or.inl ⟨none, 0, rfl, rfl⟩⟩
  simp only [if_true] at hmm
  by_cases hl0 : len = 0
  · subst hl0
    exact ⟨some a, 0, cap, [], rfl, rfl, Or.inl ⟨_, _, rfl, rfl⟩⟩
  obtain ⟨bb, off, spot⟩ := a
  have hspot : spot = none := by
    obtain ⟨cs', h1, _⟩ := hx 0 (by omega)
    rw [ce] at h1
    have hc := World.cells?_some h1
    have h2 := hc.2.2 0 (by omega)
    obtain ⟨v, hv⟩ : ∃ v, cs'[0]? = some v := ⟨cs'[0]'(by omega), List.getElem?_eq_getElem (by omega)⟩
    rw [hv] at h2
    have := World.cell?_spot h2
    simpa [Addr.add] using this
  subst hspot
  have each : ∀ i, i < len → ∃ c : ObV, ObAt w bb (off + i * 4) c := by
    intro i hi
    obtain ⟨cs', h1, h2⟩ := hx i (by omega)
    obtain ⟨xs, n', _, _, hlen, hxl, hf⟩ := DataW.trod_struct he h2
    rw [ce] at hlen h1
    obtain ⟨v0, v1, v2, v3, rfl⟩ := four16 hlen
    have hxl' : xs.length = 4 := hxl
    have g : ∀ k, k < 4 → ∃ y, xs[k]? = some y := fun k hk => ⟨xs[k], List.getElem?_eq_getElem (by omega)⟩
    obtain ⟨y0, e0⟩ := g 0 (by omega)
    obtain ⟨y1, e1⟩ := g 1 (by omega)
    obtain ⟨y2, e2⟩ := g 2 (by omega)
    obtain ⟨y3, e3⟩ := g 3 (by omega)
    have q0 := hf 0 f0 rfl
    have q1 := hf 1 f1 rfl
    have q2 := hf 2 f2 rfl
    have q3 := hf 3 f3 rfl
    rw [o0, n0, e0] at q0
    rw [o1, n1, e1] at q1
    rw [o2, n2, e2] at q2
    rw [o3, n3, e3] at q3
    obtain ⟨s, r0, _, ls⟩ := DataW.trod_string t0 q0
    obtain ⟨z1, r1, _, w1⟩ := DataW.trod_int t1 q1
    obtain ⟨z2, r2, _, w2⟩ := DataW.trod_int t2 q2
    simp at r0 r1 r2
    subst r0 r1 r2
    obtain ⟨hbase, _, hc⟩ := World.cells?_some h1
    have kk : ∀ k, k < 4 → w.cell? ⟨bb, off + i * 4 + k, none⟩ = [Value.string s, .int .i64 z1, .int .i64 z2, v3][k]? := by
      intro k hk
      have := hc k hk
      rw [Go.Deep.add_add, add_at, ← Nat.add_assoc] at this
      exact this
    obtain ⟨pk, hvk, hwk⟩ := open_ints16 t3 ti ci q3
    exact ⟨⟨⟨s.data.toList, z1, z2, pk⟩, v3⟩, kk 0 (by omega), kk 1 (by omega), kk 2 (by omega), kk 3 (by omega), w1, w2, by simpa using ls, hvk, hwk⟩
  obtain ⟨F, hF⟩ := Go.Deep.choose_lt each
  have hlen : ((List.range len).map F).length = len := by simp
  refine ⟨some ⟨bb, off, none⟩, len, cap, (List.range len).map F, rfl, hlen.symm, ?_⟩
  have hc0 := (hF 0 (by omega)).c0
  have hbw : bb < w.heap.size := by
    unfold World.cell? at hc0
    by_cases hb : bb < w.heap.size
    · exact hb
    · rw [Array.getElem?_eq_none (by show w.heap.size ≤ bb; omega)] at hc0; cases hc0
  refine Or.inr ⟨bb, off, cap, fun e => by rw [e] at hlen; simp at hlen; omega, by rw [hlen], by rw [hlen]; omega, hbw, fun i hi => ?_⟩
  rw [hlen] at hi
  have e1 : ((List.range len).map F).getD i default = F i := by simp [List.getD, hi]
  rw [e1]
  exact hF i hi
end
end Go.Proofs.Ytndlfmofjmieaaa.Gf

namespace Go.Proofs.Ytndlfmofjmieaaa.Gf
set_option linter.unusedVariables false
set_option linter.unusedSimpArgs false
open Go.RowKit
/-- the order of keys is whole -/
theorem lessK (a b : List UInt8) : Op.bytesLess a b = upK a b := by
  unfold upK
  induction a generalizing b with
  | nil =>
    cases b with
    | nil => rfl
    | cons y b => rfl
  | cons x a ih =>
    cases b with
    | nil => rfl
    | cons y b =>
      unfold Op.bytesLess
      rw [ih b]
      by_cases e : x = y
      · subst e
        simp
      · have e' : ¬ y = x := fun q => e q.symm
        by_cases l : x < y
        · have l' : ¬ y < x := fun q => by have := UInt8.lt_asymm l; exact this q
          simp [e, e', l, l']
        · have l' : y < x := by
            have h1 : x.toNat ≠ y.toNat := fun q => e (UInt8.toNat_inj.1 q)
            have h2 : ¬ x.toNat < y.toNat := fun q => l (UInt8.lt_iff_toNat_lt.2 q)
            exact UInt8.lt_iff_toNat_lt.2 (by omega)
          simp [e, e', l, l']
def oL (L : List ObV) : List ObS := L.map ObV.o
theorem oL_getD (L : List ObV) (i : Nat) : (oL L).getD i default = (L.getD i default).o := by
  unfold oL
  by_cases h : i < L.length
  · simp [List.getD, h]
  · simp [List.getD, Nat.le_of_not_lt h]; rfl
theorem oL_length (L : List ObV) : (oL L).length = L.length := by simp [oL]
end Go.Proofs.Ytndlfmofjmieaaa.Gf

namespace Go.Proofs.Ytndlfmofjmieaaa.Gf
set_option linter.unusedVariables false
set_option linter.unusedSimpArgs false
open Go.RowKit
theorem belR (w : World) (o : Obj) : Below w.heap.size w (w.alloc o) := (Below.refl _ _).alloc (Nat.le_refl _) o
theorem _root_.Go.RowKit.Below.step16 {B : Nat} {a b c : World} (h : Below B a b) (k : Below b.heap.size b c) (hB : B ≤ b.heap.size) : Below B a c := h.trans (k.mono hB)
end Go.Proofs.Ytndlfmofjmieaaa.Gf

namespace Go.Proofs.Ytndlfmofjmieaaa.Gf
set_option linter.unusedVariables false
set_option linter.unusedSimpArgs false
open Go.RowKit
structure Gro (w : World) (v : Value) (w' : World) (v' : Value) : Prop where
  gr : w.grownBy w' v.ownBlock
  pl : v'.ownBlock = v.ownBlock ∨ ∃ k, v'.ownBlock = some k ∧ w.heap.size ≤ k
theorem Gro.refl (w : World) (v : Value) : Gro w v w v := ⟨World.grownBy.refl _ _, Or.inl rfl⟩
theorem Gro.of {w w' : World} {v v' : Value} (h : w.grownBy w' v.ownBlock) (k : v'.ownBlock = v.ownBlock ∨ v'.ownBlock = some w.heap.size) : Gro w v w' v' :=
  ⟨h, k.imp id fun e => ⟨_, e, Nat.le_refl _⟩⟩
theorem Gro.cell {w w' : World} {v v' : Value} (h : Gro w v w' v') {p : Addr} (hp : p.block < w.heap.size) (hn : v.ownBlock ≠ some p.block) : w'.cell? p = w.cell? p := World.cell?_of_block (w := w) (h.gr.block p.block hp fun e => hn e.symm)
theorem Gro.frozen {w w' : World} {v v' : Value} (h : Gro w v w' v') {p : Addr} (hp : p.block < w.heap.size) (hn : v.ownBlock ≠ some p.block) : w'.frozen? p = w.frozen? p := World.frozen?_of_block (w := w) (h.gr.block p.block hp fun e => hn e.symm)
theorem Gro.ne {w w' : World} {v v' : Value} (h : Gro w v w' v') {b : Nat} (hb : b < w.heap.size) (hn : v.ownBlock ≠ some b) : v'.ownBlock ≠ some b := by
  rcases h.pl with q | ⟨j, q, hj⟩
  · rw [q]; exact hn
  · rw [q]; intro e; simp at e; omega
theorem set4 {w : World} {g : Nat} {a b c d x0 x1 x2 x3 : Value} (m0 : w.cell? ⟨g, 0, none⟩ = some x0) (m1 : w.cell? ⟨g, 1, none⟩ = some x1) (m2 : w.cell? ⟨g, 2, none⟩ = some x2) (m3 : w.cell? ⟨g, 3, none⟩ = some x3) :
    Only g w ((((w.setCell ⟨g, 0, none⟩ a).setCell ⟨g, 1, none⟩ b).setCell ⟨g, 2, none⟩ c).setCell ⟨g, 3, none⟩ d) ∧ ((((w.setCell ⟨g, 0, none⟩ a).setCell ⟨g, 1, none⟩ b).setCell ⟨g, 2, none⟩ c).setCell ⟨g, 3, none⟩ d).cell? ⟨g, 0, none⟩ = some a ∧ ((((w.setCell ⟨g, 0, none⟩ a).setCell ⟨g, 1, none⟩ b).setCell ⟨g, 2, none⟩ c).setCell ⟨g, 3, none⟩ d).cell? ⟨g, 1, none⟩ = some b ∧ ((((w.setCell ⟨g, 0, none⟩ a).setCell ⟨g, 1, none⟩ b).setCell ⟨g, 2, none⟩ c).setCell ⟨g, 3, none⟩ d).cell? ⟨g, 2, none⟩ = some c ∧ ((((w.setCell ⟨g, 0, none⟩ a).setCell ⟨g, 1, none⟩ b).setCell ⟨g, 2, none⟩ c).setCell ⟨g, 3, none⟩ d).cell? ⟨g, 3, none⟩ = some d := by
  refine ⟨((((Only.refl _ _).setCell _ _).setCell _ _).setCell _ _).setCell _ _, ?_, ?_, ?_, ?_⟩
  · rw [World.cell?_setCell_other _ _ _ _ (by simp), World.cell?_setCell_other _ _ _ _ (by simp), World.cell?_setCell_other _ _ _ _ (by simp), World.cell?_setCell_same _ _ _ m0]
  · rw [World.cell?_setCell_other _ _ _ _ (by simp), World.cell?_setCell_other _ _ _ _ (by simp), World.cell?_setCell_same _ _ _ ((World.cell?_setCell_other _ _ _ _ (by simp)).trans m1)]
  · rw [World.cell?_setCell_other _ _ _ _ (by simp), World.cell?_setCell_same _ _ _ ((World.cell?_setCell_other _ _ _ _ (by simp)).trans ((World.cell?_setCell_other _ _ _ _ (by simp)).trans m2))]
  · exact World.cell?_setCell_same _ _ _ ((World.cell?_setCell_other _ _ _ _ (by simp)).trans ((World.cell?_setCell_other _ _ _ _ (by simp)).trans ((World.cell?_setCell_other _ _ _ _ (by simp)).trans m3)))
end Go.Proofs.Ytndlfmofjmieaaa.Gf

namespace Go.Proofs.Ytndlfmofjmieaaa.Gf
set_option linter.unusedVariables false
set_option linter.unusedSimpArgs false
open Go.RowKit
def chR (r : RcS) : Int := if OkR r then 0 else 1
theorem RdI.at16 {w : World} {a : Option Addr} {n c : Nat} {zs : List Int} (h : RdI w (.slice a n c) zs) {i : Nat} (hi : i < zs.length) : ∃ b off, a = some ⟨b, off, none⟩ ∧ w.cell? ⟨b, off + i, none⟩ = some (.int .i64 (zs.getD i 0)) := by
  rcases h with ⟨a', c', rfl, _⟩ | ⟨b, off, c', h1, e, h2, h3, h4⟩
  · simp at hi
  · simp at e
    obtain ⟨rfl, _⟩ := e
    exact ⟨b, off, rfl, h4 i hi⟩
theorem ch_not {kd ln : Int} {ky : List UInt8} {st : List Int} {r : Nat} (hr : r < st.length) (h : st.getD r 0 < 0 ∨ st.getD r 0 ≥ 256) : chR ⟨kd, ky, ln, st⟩ = 1 := if_neg fun q => by
  have e : st.getD r 0 = st[r] := by rw [List.getD_eq_getElem?_getD, List.getElem?_eq_getElem hr]; rfl
  have := q.2.2.2.2.2.2.1 st[r] (List.getElem_mem hr)
  omega
theorem ch_all {st : List Int} (h : ∀ j, j < st.length → 0 ≤ st.getD j 0 ∧ st.getD j 0 < 256) : ∀ s ∈ st, 0 ≤ s ∧ s < 256 := fun s hs => by
  obtain ⟨i, hi, rfl⟩ := List.getElem_of_mem hs
  have e : st.getD i 0 = st[i] := by rw [List.getD_eq_getElem?_getD, List.getElem?_eq_getElem hi]; rfl
  rw [← e]; exact h i hi
end Go.Proofs.Ytndlfmofjmieaaa.Gf

namespace Go.Proofs.Ytndlfmofjmieaaa.Gf
set_option linter.unusedVariables false
set_option linter.unusedSimpArgs false
open Go.RowKit
def aggO (c : ObV) : Value := .agg #[sv c.o.key, .int .i64 c.o.len, .int .i64 c.o.ep, c.vs]
theorem RdO.at {w : World} {a : Option Addr} {n c : Nat} {L : List ObV} (h : RdO w (.slice a n c) L) {i : Nat} (hi : i < L.length) : ∃ b off, a = some ⟨b, off, none⟩ ∧ b < w.heap.size ∧ ObAt w b (off + i * 4) (L.getD i default) := by
  rcases h with ⟨_, _, e, _⟩ | ⟨b, off, cap, _, e, _, hb, hc⟩
  · subst e; simp at hi
  · simp at e
    obtain ⟨rfl, rfl, rfl⟩ := e
    exact ⟨b, off, rfl, hb, hc i hi⟩
end Go.Proofs.Ytndlfmofjmieaaa.Gf

namespace Go.Proofs.Ytndlfmofjmieaaa.Gf
set_option linter.unusedVariables false
set_option linter.unusedSimpArgs false
open Go.RowKit
/-- an object's limbs -/
structure ObOk (w : World) (c : ObV) : Prop where
  wl : (Lit.int .i64 c.o.len).wf = true
  we : (Lit.int .i64 c.o.ep).wf = true
  ky : c.o.key.length ≤ maxLen
  rs : RdI w c.vs c.o.st
  wi : ∀ z ∈ c.o.st, (Lit.int .i64 z).wf = true
def four (c : ObV) : List Value := [sv c.o.key, .int .i64 c.o.len, .int .i64 c.o.ep, c.vs]
def cellsO : List ObV → List Value
  | [] => []
  | c :: L => four c ++ cellsO L
theorem cellsO_length (L : List ObV) : (cellsO L).length = L.length * 4 := by
  induction L with
  | nil => rfl
  | cons c L ih => show (four c ++ cellsO L).length = _; rw [List.length_append, ih, List.length_cons]; show 4 + _ = _; omega
theorem cellsO_append (L M : List ObV) : cellsO (L ++ M) = cellsO L ++ cellsO M := by
  induction L with
  | nil => rfl
  | cons c L ih => show four c ++ cellsO (L ++ M) = four c ++ cellsO L ++ cellsO M; rw [ih, List.append_assoc]
theorem cellsO_at (L : List ObV) {i j : Nat} (hi : i < L.length) (hj : j < 4) : (cellsO L)[i * 4 + j]? = (four (L.getD i default))[j]? := by
  induction L generalizing i with
  | nil => simp at hi
  | cons c L ih =>
    show (four c ++ cellsO L)[i * 4 + j]? = _
    have h4 : (four c).length = 4 := rfl
    rcases i with _ | i
    · rw [List.getElem?_append_left (by rw [h4]; omega), Nat.zero_mul, Nat.zero_add]; rfl
    · rw [List.getElem?_append_right (by rw [h4]; omega), h4, show (i + 1) * 4 + j - 4 = i * 4 + j by omega, ih (by simpa using hi)]
      rfl
end Go.Proofs.Ytndlfmofjmieaaa.Gf

namespace Go.Proofs.Ytndlfmofjmieaaa.Gf
set_option linter.unusedVariables false
set_option linter.unusedSimpArgs false
open Go.RowKit
def noR : RcS := ⟨0, [], 0, []⟩
end Go.Proofs.Ytndlfmofjmieaaa.Gf
