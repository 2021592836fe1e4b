/- TEXTS JOINED: WdLaw, WdFew, WdFewS, WdRefB, MxNf, MxCA, MxCD, MxCE. -/
import Derived.Test.YtchfonofjbpmaaaTome13
import Derived.Test.YtchfonofjbpmaaaTome11
import Derived.Test.YtchfonofjbpmaaaTome8
import Derived.Test.YtchfonofjbpmaaaTome2
import Derived.Deep.RegionHeld3
/-
  WHAT THE STATEMENTS OF LAYER 10 ASK, BY CONTRACT: 'count'; lists of places.
-/

namespace Go.Proofs.Ytchfonofjbpmaaa.Gf
set_option linter.unusedVariables false
set_option linter.unusedSimpArgs false
open Go.RowKit

theorem wdP_small (k m : Int) (z : List UInt8) (ms : List Bool) : (wdP k m z ms).length ≤ 1000000 := by
  classical
  unfold wdP
  split
  · rename_i h
    obtain ⟨k', m', rfl, rfl, h1, h2⟩ := h.1.nat
    rw [plc_length]
    have := cnt_le (wrg (co z) (nearF (k' : Int).toNat (m' : Int).toNat z ms) (hb ms)) ((k' : Int).toNat + (m' : Int).toNat)
    have e1 : (k' : Int).toNat = k' := rfl
    have e2 : (m' : Int).toNat = m' := rfl
    omega
  · simp

/-- what is told of a word of the right length -/
theorem wd_two {k m : Nat} {z : List UInt8} {ms : List Bool} (h1 : 1 ≤ k) (h2 : k + m ≤ 256) (hz : z.length = k + m) (hm : ms.length = k + m) :
    (wdX k m z ms = 100 ∧ wdR k m z ms = [] ∧ wdP k m z ms = []) ∨ ∃ c, Near k m (co z) (hb ms) c ∧ wdX k m z ms = 0 ∧ wdR k m z ms = upto c (k + m) ∧ wdP k m z ms = plc (wrg (co z) c (hb ms)) (k + m) := by
  have okc : OkC (k : Int) (m : Int) := ⟨by omega, by omega, by omega⟩
  have okw : OkW (k : Int) (m : Int) z ms := ⟨by omega, by omega⟩
  by_cases h : IsNear k m z ms
  · right
    obtain ⟨c, hc⟩ := h
    obtain ⟨e1, e2, e3⟩ := wd_ok okc okw hc
    exact ⟨c, hc, e1, e2, e3⟩
  · exact Or.inl (wd_many okc okw h)

set_option maxRecDepth 100000 in
set_option maxHeartbeats 1000000 in
theorem lcnt_any {va : Value} {h : List Bool} {w : World} (hH : RdB w va h) : Calls Try.prog 23 #[va] w fun e w' => e = .returned (.int .i64 ((cnt (hb h) h.length : Nat) : Int)) ∧ w' = w := by
  obtain ⟨a, c, rfl⟩ := hH.form
  have hl := hH.len
  unfold maxLen at hl
  go_enter Try.func23, Try.ntmps23
  go_wp2
  go_loop [3, 4] (fun x i => ∃ k : Nat, k ≤ h.length ∧ i = .int .i64 k ∧ x = .int .i64 ((cnt (hb h) k : Nat) : Int)) (fun _ i => h.length - (intOf i).toNat)
  case atStart => exact ⟨0, by omega, rfl, rfl⟩
  case round =>
    obtain ⟨k, hk, rfl, rfl⟩ := hrel
    have hq := cnt_le (hb h) k
    by_cases hlt : k < h.length
    · obtain ⟨b, off, rfl, _, c1⟩ := hH.at hlt
      have hlt' : (k : Int) < (h.length : Int) := by omega
      cases e : hb h k with
      | false =>
        rw [e] at c1
        have E : Hid (cnt (hb h) (k + 1) = cnt (hb h) k) := by show _ = _; rw [cnt, e]; rfl
        clear hH e
        go_wp2
        go_round
        case rel => exact ⟨k + 1, by omega, by go_num, by rw [E.out]⟩
        case measure => simp [intOf]; omega
      | true =>
        rw [e] at c1
        have E : Hid (cnt (hb h) (k + 1) = cnt (hb h) k + 1) := by show _ = _; rw [cnt, e]; rfl
        have gw : IntKind.i64.wrap (((cnt (hb h) k : Nat) : Int) + 1) = ((cnt (hb h) k : Nat) : Int) + 1 := by rw [IntKind.wrap_i64]; omega
        clear hH e
        go_wp2
        go_round
        case rel => exact ⟨k + 1, by omega, by go_num, by rw [E.out]; go_num⟩
        case measure => simp [intOf]; omega
    · have e : k = h.length := by omega
      subst e
      have hge : ¬ (h.length : Int) < (h.length : Int) := by omega
      clear hH
      go_wp2
      go_ret
      exact ⟨rfl, rfl⟩
theorem lcnt_b {va : Value} {h : List Bool} {w : World} (hH : RdB w va h) : Calls Try.prog 23 #[va] w fun e w' => e = .returned (.int .i64 ((cnt (hb h) h.length : Nat) : Int)) ∧ Below w.heap.size w w' :=
  (lcnt_any hH).mono fun e w' ⟨h1, h2⟩ => ⟨h1, by rw [h2]; exact Below.refl _ _⟩
theorem ints_t {va vb : Value} {xs ys : List Int} {w : World} (ha : RdI w va xs) (hb : RdI w vb ys) (hl : xs.length ≤ 1000000) (hl2 : ys.length ≤ 1000000) (h : xs = ys) : Calls Try.prog 15 #[va, vb] w fun e w' => e = .returned (.bool true) ∧ Below w.heap.size w w' :=
  (rints_any ha hb hl hl2).mono fun e w' ⟨h1, h2⟩ => ⟨by rw [h1, decide_eq_true h], h2⟩

end Go.Proofs.Ytchfonofjbpmaaa.Gf

/-
  'few' OF THE STATEMENTS OF LAYER 10 BY CONTRACT.
-/

namespace Go.Proofs.Ytchfonofjbpmaaa.Gf
set_option linter.unusedVariables false
set_option linter.unusedSimpArgs false
open Go.RowKit

def Few10 (w : World) (e : Ending) (w' : World) : Prop := ∃ t, e = .returned (.bool t) ∧ Below w.heap.size w w'

set_option maxRecDepth 100000 in
set_option maxHeartbeats 1000000 in
theorem few10_any (k m : Int) (w : World) : Calls Try.prog 11 #[.int .i64 k, .int .i64 m] w (Few10 w) := by
  by_cases ok : OkC k m
  · have gw : IntKind.i64.wrap (k + m) = k + m := by rw [IntKind.wrap_i64]; have := ok.1; have := ok.2.1; have := ok.2.2; omega
    go_enter Try.func11, Try.ntmps11
    go_wp2_with fail
    refine (ccheck_ok _ ok).mono ?_
    rintro e w2 ⟨rfl, b2⟩
    clear ok
    by_cases h9 : k + m ≤ 9
    · go_wp2
      go_ret
      exact ⟨_, rfl, b2⟩
    · go_wp2
      go_ret
      exact ⟨_, rfl, b2⟩
  · go_enter Try.func11, Try.ntmps11
    go_wp2_with fail
    refine (ccheck_bad _ ok).mono ?_
    rintro e w2 ⟨rfl, b2⟩
    clear ok
    go_wp2
    go_ret
    exact ⟨_, rfl, b2⟩

end Go.Proofs.Ytchfonofjbpmaaa.Gf

/-
  The places that 'Shards' tells are few. No program's function is named here.
-/

namespace Go.Proofs.Ytchfonofjbpmaaa.Gf
set_option linter.unusedVariables false
set_option linter.unusedSimpArgs false
open Go.RowKit

theorem rs_lenEq {w : World} {a : Option Addr} {n c : Nat} {L : List (List UInt8)} (r : Rs w (.slice a n c) L) : n = L.length := by
  obtain ⟨a', c', e, _⟩ := r
  simp at e
  exact e.2.1
theorem shP_small (k m : Int) (hs : List Bool) (L : List (List UInt8)) : (shP k m hs L).length ≤ 1000000 := by
  classical
  by_cases h : shX k m hs L = 0
  · have hc : OkC k m := Classical.byContradiction fun q => by
      have := (sh_bad (hs := hs) (L := L) q).1
      rw [h] at this
      cases this
    obtain ⟨k', m', rfl, rfl, h1, h2⟩ := hc.nat
    unfold shP
    rw [if_pos h, plc_length]
    have := cnt_le (hurtP (k' : Int).toNat (m' : Int).toNat hs L (oneX hs L).toNat) ((k' : Int).toNat + (m' : Int).toNat)
    have e1 : (k' : Int).toNat = k' := rfl
    have e2 : (m' : Int).toNat = m' := rfl
    omega
  · unfold shP
    rw [if_neg h]
    simp

end Go.Proofs.Ytchfonofjbpmaaa.Gf

/-
  THE DOCUMENT's ANSWER FOR LAYER 10 (package aumbryref10) BY CONTRACT: 'without'.
-/

namespace Go.Proofs.Ytchfonofjbpmaaa.Gf
set_option linter.unusedVariables false
set_option linter.unusedSimpArgs false
open Go.RowKit

theorem info_bool : (Try.prog.info? 4).map (fun i => (i.zero, i.size, i.bytes)) = some (some (.bool false), 1, 1) := by kernel_rfl
def notL (ms : List Bool) (r : Nat) : List Bool := (List.range r).map (fun i => !hb ms i)
theorem notL_length (ms : List Bool) (r : Nat) : (notL ms r).length = r := by simp [notL]
theorem notL_succ (ms : List Bool) (r : Nat) : notL ms (r + 1) = notL ms r ++ [!hb ms r] := by simp [notL, List.range_succ]
theorem wth_nil (ms : List Bool) : wth ms [] = notL ms ms.length := by simp [wth, notL]
theorem wth_step {ms : List Bool} {T : List Nat} {r : Nat} (hr : r < T.length) : (wth ms (T.take r)).set (T.getD r 0) false = wth ms (T.take (r + 1)) := by
  refine List.ext_getElem (by simp [wth]) fun i h1 h2 => ?_
  rw [List.getElem_set]
  have e : T.take (r + 1) = T.take r ++ [T.getD r 0] := by
    rw [List.take_add_one, List.getElem?_eq_getElem hr]
    simp [List.getD, hr]
  rw [wth_length] at h2
  simp only [wth, List.getElem_map, List.getElem_range]
  rw [e]
  by_cases q : T.getD r 0 = i
  · rw [if_pos q, q]; simp
  · rw [if_neg q]
    have q2 : ¬ i = T.getD r 0 := fun x => q x.symm
    simp only [List.mem_append, List.mem_singleton, q2, or_false]

set_option maxRecDepth 100000 in
set_option maxHeartbeats 2000000 in
theorem rwth_any {vm vs : Value} {ms : List Bool} {T : List Nat} {w : World} (hm : RdB w vm ms) (hs : RdI w vs (toI T)) (hT : ∀ i, i < T.length → T.getD i 0 < ms.length) (hl : ms.length ≤ 300) (hl2 : T.length ≤ 300) :
    Calls Try.prog 63 #[vm, vs] w fun e w' => ∃ v, e = .returned v ∧ OwnB w' w.heap.size 4 v (wth ms T) ∧ Below w.heap.size w w' := by
  obtain ⟨i0, hi, hz0, hz1, hz2⟩ := info_parts info_bool
  obtain ⟨a1, c1, rfl⟩ := hm.form
  have hsf : ∃ a c, vs = .slice a T.length c := by
    rcases hs with ⟨a, c, e, e2⟩ | ⟨b, off, c, _, e2, _⟩
    · have : T.length = 0 := by rw [← toI_length, e]; rfl
      rw [this]; exact ⟨a, c, e2⟩
    · rw [toI_length] at e2; exact ⟨_, c, e2⟩
  obtain ⟨a2, c2, rfl⟩ := hsf
  have hT' : Hid _ := hT
  clear hT
  go_enter Try.func63, Try.ntmps63
  go_wp2
  go_loopw [5, 6] (fun o i wr => ∃ r : Nat, r ≤ ms.length ∧ i = .int .i64 (r : Int) ∧ OwnB wr w.heap.size 4 o (notL ms r) ∧ Below w.heap.size w wr) (fun _ i _ => ms.length - (intOf i).toNat)
  case atStart => exact ⟨0, by omega, rfl, OwnB.nil _ _ _, Below.refl _ _⟩
  case round =>
    obtain ⟨r, hr, rfl, hO, hB⟩ := hrel
    have hsz := hB.size
    have hn : Hid _ := notL_length ms r
    obtain ⟨av, cv, ev⟩ := hO.form
    rw [hn.out] at ev
    subst ev
    by_cases hlt : r < ms.length
    · obtain ⟨b1, o1, rfl, _, k1⟩ := (hm.below hB).at hlt
      have hlt' : (r : Int) < (ms.length : Int) := by omega
      have E' : Hid _ := notL_succ ms r
      clear hm hs
      go_wp2_with (at_builtin; go_loud (refine wpList_append_bool rfl (.tmp 14) (.tmp 20) 23 rfl w.heap.size 4 i0 Try.underlying23 hi hz0 hz1 hz2 (.slice av r cv) (notL ms r) rfl hO (!hb ms r) _ 1 rfl (by rw [hn.out]; omega) hsz ?_); intro v' w2 hv2 hb2)
      have HO : Hid (OwnB w2 w.heap.size 4 v' (notL ms (r + 1))) := by show OwnB _ _ _ _ _; rw [E'.out]; exact hv2
      have HB : Hid (Below w.heap.size w w2) := hB.trans hb2
      clear hO hv2 hb2 hB k1
      go_wp2
      go_roundw
      case rel => exact ⟨r + 1, by omega, by go_num, HO.out, HB.out⟩
      case measure => simp [intOf]; omega
    · have e : r = ms.length := by omega
      subst e
      have hge : ¬ (ms.length : Int) < (ms.length : Int) := by omega
      rw [← wth_nil] at hO
      go_wp2
      go_loopw [7] (fun i wq => ∃ r : Nat, r ≤ T.length ∧ i = .int .i64 (r : Int) ∧ OwnB wq w.heap.size 4 (.slice av ms.length cv) (wth ms (T.take r)) ∧ Below w.heap.size w wq) (fun i _ => T.length - (intOf i).toNat)
      case atStart => exact ⟨0, by omega, rfl, hO, hB⟩
      case round =>
        obtain ⟨r, hr2, rfl, hO2, hB2⟩ := hrel
        clear hO hB
        by_cases hlt : r < T.length
        · obtain ⟨b2, o2, rfl, _, k2⟩ := (hs.below hB2).at (show r < (toI T).length by rw [toI_length]; exact hlt)
          rw [toI_getD] at k2
          have hlt' : (r : Int) < (T.length : Int) := by omega
          have hx := hT'.out r hlt
          have E' : Hid _ := wth_step (ms := ms) hlt
          obtain ⟨x, hxx⟩ : ∃ x, Hid (x = T.getD r 0) := ⟨_, rfl⟩
          rw [← hxx.out] at k2 hx E'
          have hx' : (x : Int) < (ms.length : Int) := by omega
          obtain ⟨g, c, eg, g1, g2, g3, g4⟩ := hO2.somewhere (fun q => by have := congrArg List.length q; rw [wth_length, List.length_nil] at this; omega)
          rw [wth_length] at eg
          simp at eg
          obtain ⟨rfl, rfl⟩ := eg
          have k3 := hO2.get (i := x) (by rw [wth_length]; exact hx)
          have k4 := hO2.free x
          have HO : Hid _ := hO2.store x false
          rw [E'.out] at HO
          have HB : Hid _ := hB2.setCell (p := ⟨g, x, none⟩) g3 (.bool false)
          clear hO2 hB2 hm hs
          go_wp2
          go_roundw
          case rel => exact ⟨r + 1, by omega, by go_num, HO.out, HB.out⟩
          case measure => simp [intOf]; omega
        · have e : r = T.length := by omega
          subst e
          have hge : ¬ (T.length : Int) < (T.length : Int) := by omega
          rw [List.take_length] at hO2
          clear hm hs
          go_wp2
          go_ret
          exact ⟨_, rfl, hO2, hB2⟩

end Go.Proofs.Ytchfonofjbpmaaa.Gf

/-
  What a new row of noughts and a matrix variable ahead of it are, behind 'make'. No program's function is named here.
-/

namespace Go.Proofs.Ytchfonofjbpmaaa.Gf
set_option linter.unusedVariables false
set_option linter.unusedSimpArgs false
open Go.RowKit

theorem nought_facts {w w1 : World} {m u t : Nat} (hown : w1.ownsRow w.heap.size u 1 (.slice (some ⟨(w.alloc (Obj.cells #[.int .i64 0, .int .i64 0, .slice none 0 0] t)).heap.size, 0, none⟩) m m) m (madeCells (Value.cells (.int .u8 0)) (m * 1)).toList)
    (hgrow : (w.alloc (Obj.cells #[.int .i64 0, .int .i64 0, .slice none 0 0] t)).grownBy w1 none) :
    RowF w1 w.heap.size u (w.heap.size + 1) m m (fun _ => 0) ∧ Below w.heap.size w w1 ∧ w1.cell? ⟨w.heap.size, 0, none⟩ = some (.int .i64 0) ∧ w1.cell? ⟨w.heap.size, 1, none⟩ = some (.int .i64 0) ∧ w1.cell? ⟨w.heap.size, 2, none⟩ = some (.slice none 0 0) ∧
    w1.frozen? ⟨w.heap.size, 0, none⟩ = false ∧ w1.frozen? ⟨w.heap.size, 1, none⟩ = false ∧ w1.frozen? ⟨w.heap.size, 2, none⟩ = false := by
  simp only [World.size_alloc] at hown
  have R1 := RowF.made hown
  have B1 : Below (w.heap.size + 1) (w.alloc (Obj.cells #[.int .i64 0, .int .i64 0, .slice none 0 0] t)) w1 := (Below.refl _ _).grown hgrow (by simp) (fun k h => by cases h)
  have B0 : Below w.heap.size w w1 := (below_lit (Below.refl _ _) _).trans (B1.mono (by omega))
  have X0 : Box w1 w.heap.size 0 0 (.slice none 0 0) := Box.below (B := w.heap.size + 1) ⟨by simp, by simp, by simp⟩ (by omega) B1
  have F0 : Free w1 w.heap.size := Free.below (B := w.heap.size + 1) ⟨by simp, by simp, by simp⟩ (by omega) B1
  exact ⟨R1, B0, X0.c0, X0.c1, X0.c2, F0.f0, F0.f1, F0.f2⟩

end Go.Proofs.Ytchfonofjbpmaaa.Gf

/-
  THE PROGRAM's 'isSide', 'noughts', 'row', 'Check' BY CONTRACT.
-/

namespace Go.Proofs.Ytchfonofjbpmaaa.Gf
set_option linter.unusedVariables false
set_option linter.unusedSimpArgs false
open Go.RowKit

set_option maxRecDepth 100000 in
set_option maxHeartbeats 1000000 in
theorem side_ok {n : Int} (w : World) (h1 : 0 ≤ n) (h2 : n ≤ 256) : Calls Try.prog 101 #[.int .i64 n] w fun e w' => e = .returned (.bool true) ∧ w' = w := by
  have k1 : decide (n ≥ 0) = true := decide_eq_true h1
  have k2 : decide (n ≤ 256) = true := decide_eq_true h2
  go_enter Try.func101, Try.ntmps101
  go_wp2
  go_ret
  exact ⟨rfl, rfl⟩

set_option maxRecDepth 100000 in
set_option maxHeartbeats 1000000 in
theorem side_bad {n : Int} (w : World) (h : ¬ (0 ≤ n ∧ n ≤ 256)) : Calls Try.prog 101 #[.int .i64 n] w fun e w' => e = .returned (.bool false) ∧ w' = w := by
  by_cases h1 : 0 ≤ n
  · have k1 : decide (n ≥ 0) = true := decide_eq_true h1
    have k2 : decide (n ≤ 256) = false := decide_eq_false fun h2 => h ⟨h1, h2⟩
    clear h h1
    go_enter Try.func101, Try.ntmps101
    go_wp2
    go_ret
    exact ⟨rfl, rfl⟩
  · have k1 : decide (n ≥ 0) = false := decide_eq_false h1
    clear h h1
    go_enter Try.func101, Try.ntmps101
    go_wp2
    go_ret
    exact ⟨rfl, rfl⟩

set_option maxRecDepth 100000 in
set_option maxHeartbeats 1000000 in
theorem nought_any (r c : Nat) (w : World) (hr : r ≤ 256) (hc : c ≤ 512) {x y : Int} (hx : x = (r : Int)) (hy : y = (c : Int)) :
    Calls Try.prog 102 #[.int .i64 x, .int .i64 y] w fun e w' => ∃ g m, Hid (m = r * c) ∧ e = .returned (.agg #[.int .i64 (r : Int), .int .i64 (c : Int), .slice (some ⟨g, 0, none⟩) m m]) ∧ w.heap.size ≤ g ∧ RowF w' w.heap.size 5 g m m (fun _ => 0) ∧ Below w.heap.size w w' := by
  subst hx hy
  obtain ⟨i0, hi, hz0, hz1, hz2⟩ := info_parts info_u8
  have hmm : r * c ≤ 256 * 512 := Nat.mul_le_mul hr hc
  obtain ⟨m, hm⟩ : ∃ m, Hid (m = r * c) := ⟨_, rfl⟩
  rw [← hm.out] at hmm
  have g0 : (r : Int) * (c : Int) = (m : Int) := by rw [hm.out]; exact_mod_cast rfl
  go_enter Try.func102, Try.ntmps102
  go_wp2_with (at_make; go_loud (refine wpList_make_full _ rfl (.tmp 9) (.tmp 9) 22 rfl w.heap.size 5 i0 (.int .u8 0) 1 Try.underlying22 hi hz0 hz1 _ _ _ _ m rfl rfl (by omega) (by omega) (by rw [hz2]; omega) (by unfold maxLen; omega) (by simp) ?_); intro w1 hown1 hgrow1; obtain ⟨R1, B0, x0, x1, x2, z0, z1, z2⟩ := nought_facts hown1 hgrow1; clear hown1 hgrow1)
  have O1 : Only w.heap.size w1 (((w1.setCell ⟨w.heap.size, 0, none⟩ (.int .i64 (r : Int))).setCell ⟨w.heap.size, 1, none⟩ (.int .i64 (c : Int))).setCell ⟨w.heap.size, 2, none⟩ (.slice (some ⟨w.heap.size + 1, 0, none⟩) m m)) :=
    (((Only.refl _ _).setCell 0 _).setCell 1 _).setCell 2 _
  refine bodyPost_ret (v := .agg #[.int .i64 (r : Int), .int .i64 (c : Int), .slice (some ⟨w.heap.size + 1, 0, none⟩) m m]) (by simp [results, Try.results102, go_sem, x0, x1, x2, z0, z1, z2]) rfl ⟨w.heap.size + 1, m, hm, rfl, by omega, R1.only (by omega) O1, B0.trans (O1.below (Nat.le_refl _))⟩

set_option maxRecDepth 100000 in
set_option maxHeartbeats 1000000 in
theorem row_some {w : World} {b off n cap r c i : Nat} {x : Int} (hx : x = (i : Int)) (hi : i < r) (hc : 0 < c) (hn : n = r * c) (hnc : n ≤ cap) (hm : cap ≤ maxLen) (hr : r ≤ 256) (hc2 : c ≤ 512) :
    Calls Try.prog 103 #[.agg #[.int .i64 (r : Int), .int .i64 (c : Int), .slice (some ⟨b, off, none⟩) n cap], .int .i64 x] w fun e w' => e = .returned (.slice (some ⟨b, off + i * c, none⟩) c (cap - i * c)) ∧ Below w.heap.size w w' := by
  subst hx
  have p1 : i * c + c ≤ n := by rw [hn, ← Nat.succ_mul]; exact Nat.mul_le_mul_right c hi
  have p2 : i * c ≤ 256 * 512 := Nat.mul_le_mul (by omega) hc2
  obtain ⟨lo, hlo⟩ : ∃ lo, Hid (lo = i * c) := ⟨_, rfl⟩
  have g1 : (i : Int) * (c : Int) = (lo : Int) := by rw [hlo.out]; exact_mod_cast rfl
  have g2 : ((i : Int) + 1) * (c : Int) = (lo : Int) + (c : Int) := by rw [Int.add_mul, Int.one_mul, g1]
  rw [← hlo.out] at p1 p2 ⊢
  unfold maxLen at hm
  have w1 : IntKind.i64.wrap (lo : Int) = (lo : Int) := by rw [IntKind.wrap_i64]; omega
  have w2 : IntKind.i64.wrap ((lo : Int) + (c : Int)) = (lo : Int) + (c : Int) := by rw [IntKind.wrap_i64]; omega
  have hlt : lo < cap := by omega
  have hne : ¬ cap = lo := by omega
  clear hn
  go_enter Try.func103, Try.ntmps103
  go_wp2
  go_ret
  refine ⟨?_, below_lit (Below.refl _ _) _⟩
  show Ending.returned (.slice (some ⟨b, off + lo, none⟩) (lo + c - lo) (cap - lo)) = _
  rw [Nat.add_sub_cancel_left]

set_option maxRecDepth 100000 in
set_option maxHeartbeats 1000000 in
theorem row_none {w : World} {ao : Option Addr} {cap r i : Nat} {x : Int} (hx : x = (i : Int)) (hi : i < r) (hm : cap ≤ maxLen) (hr : r ≤ 256) (ha : ao = none → cap = 0) :
    Calls Try.prog 103 #[.agg #[.int .i64 (r : Int), .int .i64 0, .slice ao 0 cap], .int .i64 x] w fun e w' => e = .returned (.slice ao 0 cap) ∧ Below w.heap.size w w' := by
  subst hx
  unfold maxLen at hm
  rcases ao with _ | ⟨b, off, sp⟩
  · have := ha rfl
    subst this
    clear ha
    go_enter Try.func103, Try.ntmps103
    go_wp2
    go_ret
    exact ⟨rfl, below_lit (Below.refl _ _) _⟩
  · clear ha
    by_cases h0 : cap = 0
    · subst h0
      go_enter Try.func103, Try.ntmps103
      go_wp2
      go_ret
      exact ⟨rfl, below_lit (Below.refl _ _) _⟩
    · have h1 : 0 < cap := by omega
      go_enter Try.func103, Try.ntmps103
      go_wp2
      go_ret
      exact ⟨rfl, below_lit (Below.refl _ _) _⟩

/-- a row of a matrix of the call's own -/
theorem row_own {w : World} {g m r c i : Nat} {x : Int} (hx : x = (i : Int)) (hi : i < r) (hn : Hid (m = r * c)) (hr : r ≤ 256) (hc2 : c ≤ 512) :
    Calls Try.prog 103 #[.agg #[.int .i64 (r : Int), .int .i64 (c : Int), .slice (some ⟨g, 0, none⟩) m m], .int .i64 x] w fun e w' => e = .returned (.slice (some ⟨g, i * c, none⟩) c (m - i * c)) ∧ Below w.heap.size w w' := by
  have hmm : r * c ≤ 256 * 512 := Nat.mul_le_mul hr hc2
  have hm := hn.out
  by_cases h0 : c = 0
  · subst h0
    rw [Nat.mul_zero] at hm
    subst hm
    exact row_none hx hi (by unfold maxLen; omega) hr (fun h => by cases h)
  · refine (row_some (w := w) (b := g) (off := 0) (cap := m) hx hi (by omega) hm (Nat.le_refl _) (by unfold maxLen; omega) hr hc2).mono ?_
    rintro e w' ⟨rfl, hb⟩
    rw [Nat.zero_add]
    exact ⟨rfl, hb⟩
/-- .. of one that came in -/
theorem row_rd {w : World} {vs : Value} {r c i : Nat} {A : List UInt8} {x : Int} (hx : x = (i : Int)) (h : Rd w vs A) (hok : OkM r c A) (hi : i < r) :
    Calls Try.prog 103 #[.agg #[.int .i64 (r : Int), .int .i64 (c : Int), vs], .int .i64 x] w fun e w' => ∃ a cap, e = .returned (.slice a c cap) ∧ Rd w' (.slice a c cap) (upto (fun j => en c A i j) c) ∧ (∀ g, Apart g vs → Apart g (.slice a c cap)) ∧ Below w.heap.size w w' := by
  obtain ⟨_, h2, _, h4, h5⟩ := hok
  have hl : A.length = r * c := by exact_mod_cast h5
  have hL := h.len
  by_cases h0 : c = 0
  · subst h0
    rw [Nat.mul_zero] at hl
    rcases h with ⟨ao, cap, hA, rfl, hcap, hao⟩ | ⟨b, off, cap, hA, _⟩
    · refine (row_none hx hi hcap (by omega) hao).mono ?_
      rintro e w' ⟨rfl, hb⟩
      exact ⟨ao, cap, rfl, Or.inl ⟨ao, cap, rfl, rfl, hcap, hao⟩, fun g _ x n c' e => by simp at e; exact Or.inl e.2.1.symm, hb⟩
    · exact absurd (List.length_eq_zero_iff.1 hl) hA
  · have hp := place_lt (c := c) hi (show 0 < c by omega)
    have hp2 : i * c + c ≤ A.length := by rw [hl, ← Nat.succ_mul]; exact Nat.mul_le_mul_right c hi
    have h' := h
    rcases h with ⟨ao, cap, hA, rfl, hcap, hao⟩ | ⟨b, off, cap, hA, rfl, h6, h7, h8, h9⟩
    · subst hA; simp at hl; omega
    · refine (row_some (w := w) (b := b) (off := off) (cap := cap) hx hi (by omega) hl h6 h7 (by omega) (by omega)).mono ?_
      rintro e w' ⟨rfl, hb⟩
      refine ⟨_, _, rfl, (h'.sub (i * c) c (by omega) hp2).below hb, fun g hg x n c' e => ?_, hb⟩
      simp at e
      obtain ⟨rfl, rfl, _⟩ := e
      rcases hg _ _ _ rfl with e | e
      · exact absurd (List.length_eq_zero_iff.1 e) hA
      · exact Or.inr e

set_option maxRecDepth 100000 in
set_option maxHeartbeats 1000000 in
theorem mcheck_ok {v : Value} {r c : Int} {A : List UInt8} {w : World} (h : RdM w v r c A) (hok : OkM r c A) :
    Calls Try.prog 100 #[v] w fun e w' => e = .returned (.int .i64 0) ∧ Below w.heap.size w w' := by
  obtain ⟨vs, rfl, hr⟩ := h
  obtain ⟨a, cap, rfl⟩ := hr.form
  obtain ⟨h1, h2, h3, h4, h5⟩ := hok
  generalize A.length = n at *
  have gw : IntKind.i64.wrap (r * c) = (n : Int) := by
    rw [← h5, IntKind.wrap_i64]
    have : r * c ≤ 256 * 256 := Int.mul_le_mul h2 h4 h3 (by decide)
    omega
  clear hr h5
  go_enter Try.func100, Try.ntmps100
  go_wp2_with fail
  refine (side_ok _ h1 h2).mono ?_
  rintro e w2 ⟨rfl, rfl⟩
  go_wp2_with fail
  refine (side_ok _ h3 h4).mono ?_
  rintro e w2 ⟨rfl, rfl⟩
  go_wp2
  go_ret
  exact ⟨rfl, by repeat (first | exact Below.refl _ _ | apply below_lit)⟩

set_option maxRecDepth 100000 in
set_option maxHeartbeats 1000000 in
theorem mcheck_bad {v : Value} {r c : Int} {A : List UInt8} {w : World} (h : RdM w v r c A) (hok : ¬ OkM r c A) :
    Calls Try.prog 100 #[v] w fun e w' => e = .returned (.int .i64 30) ∧ Below w.heap.size w w' := by
  obtain ⟨vs, rfl, hr⟩ := h
  obtain ⟨a, cap, rfl⟩ := hr.form
  have hl := hr.len
  clear hr
  by_cases h1 : 0 ≤ r ∧ r ≤ 256
  · by_cases h2 : 0 ≤ c ∧ c ≤ 256
    · have h5 : ¬ (A.length : Int) = r * c := fun h5 => hok ⟨h1.1, h1.2, h2.1, h2.2, h5⟩
      clear hok
      generalize A.length = n at *
      obtain ⟨m, hm⟩ : ∃ m, m = r * c := ⟨_, rfl⟩
      have gw : IntKind.i64.wrap (r * c) = m := by
        rw [hm, IntKind.wrap_i64]
        have : r * c ≤ 256 * 256 := Int.mul_le_mul (by omega) (by omega) (by omega) (by decide)
        have : 0 ≤ r * c := Int.mul_nonneg (by omega) (by omega)
        omega
      rw [← hm] at h5
      clear hm
      have k5 : ((n : Int) != m) = true := by simpa using h5
      go_enter Try.func100, Try.ntmps100
      go_wp2_with fail
      refine (side_ok _ h1.1 h1.2).mono ?_
      rintro e w2 ⟨rfl, rfl⟩
      go_wp2_with fail
      refine (side_ok _ h2.1 h2.2).mono ?_
      rintro e w2 ⟨rfl, rfl⟩
      go_wp2
      go_ret
      exact ⟨rfl, by repeat (first | exact Below.refl _ _ | apply below_lit)⟩
    · clear hok
      go_enter Try.func100, Try.ntmps100
      go_wp2_with fail
      refine (side_ok _ h1.1 h1.2).mono ?_
      rintro e w2 ⟨rfl, rfl⟩
      go_wp2_with fail
      refine (side_bad _ h2).mono ?_
      rintro e w2 ⟨rfl, rfl⟩
      go_wp2
      go_ret
      exact ⟨rfl, by repeat (first | exact Below.refl _ _ | apply below_lit)⟩
  · clear hok
    go_enter Try.func100, Try.ntmps100
    go_wp2_with fail
    refine (side_bad _ h1).mono ?_
    rintro e w2 ⟨rfl, rfl⟩
    go_wp2
    go_ret
    exact ⟨rfl, by repeat (first | exact Below.refl _ _ | apply below_lit)⟩

end Go.Proofs.Ytchfonofjbpmaaa.Gf

/-
  THE PROGRAM's 'besideIdentity' AND 'rightHalf' BY CONTRACT.
-/

namespace Go.Proofs.Ytchfonofjbpmaaa.Gf
set_option linter.unusedVariables false
set_option linter.unusedSimpArgs false
open Go.RowKit

theorem Box.and {w : World} {b : Nat} {r c : Int} {vs : Value} (h : Box w b r c vs) : w.cell? ⟨b, 0, none⟩ = some (.int .i64 r) ∧ w.cell? ⟨b, 1, none⟩ = some (.int .i64 c) ∧ w.cell? ⟨b, 2, none⟩ = some vs := ⟨h.c0, h.c1, h.c2⟩
theorem info1_u8 : (Try.prog.info? 5).map (·.size) = some 1 := by
  obtain ⟨i0, hi, hz0, hz1, hz2⟩ := info_parts info_u8
  rw [hi]; simp [hz1]

/-- a matrix with the identity to its right -/
def wideF (n : Nat) (A : List UInt8) : Mx := fun i j => if j < n then en n A i j else one i (j - n)
def wideK (n : Nat) (A : List UInt8) (k : Nat) : Mx := fun i j => if i < k then wideF n A i j else 0
/-- .. the next row: the numbers of A alone -/
def wideH (n : Nat) (A : List UInt8) (k : Nat) : Mx := fun i j => if i = k then (if j < n then en n A i j else 0) else wideK n A k i j
theorem pos_of_lt {r C t : Nat} (ht : t < r * C) : 0 < C := by
  rcases Nat.eq_zero_or_pos C with e | e
  · rw [e, Nat.mul_zero] at ht; omega
  · exact e
theorem wideK_zero (n : Nat) (A : List UInt8) (C t : Nat) : pl C (wideK n A 0) t = 0 := by
  show wideK n A 0 (t / C) (t % C) = 0
  unfold wideK
  rw [if_neg (Nat.not_lt_zero _)]
theorem wideH_put {n C k : Nat} {A : List UInt8} {q : Nat → UInt8} (hnC : n ≤ C) (hq : ∀ j, j < n → q j = en n A k j) : ∀ t, t < n * C → putAt (pl C (wideK n A k)) (k * C) n q t = pl C (wideH n A k) t := by
  intro t ht
  have hC := pos_of_lt ht
  show _ = if t / C = k then (if t % C < n then en n A (t / C) (t % C) else 0) else wideK n A k (t / C) (t % C)
  by_cases e : t / C = k
  · rw [if_pos e]
    have h1 := (row_iff hC).2 e
    have h2 : t - k * C = t % C := by subst e; exact row_sub
    by_cases h3 : t % C < n
    · rw [if_pos h3]
      unfold putAt
      rw [if_pos (by omega), h2, hq _ h3, e]
    · rw [if_neg h3]
      unfold putAt
      rw [if_neg (by omega)]
      show (if t / C < k then _ else _) = _
      rw [if_neg (by omega)]
  · rw [if_neg e]
    unfold putAt
    rw [if_neg (fun h => e ((row_iff hC).1 (by omega)))]
    rfl
theorem wideK_step {n C k : Nat} {A : List UInt8} (hC2 : C = n + n) (hk : k < n) : ∀ t, t < n * C → (if t = k * C + (n + k) then 1 else pl C (wideH n A k) t) = pl C (wideK n A (k + 1)) t := by
  intro t ht
  have hC := pos_of_lt ht
  show (if t = k * C + (n + k) then 1 else (if t / C = k then (if t % C < n then en n A (t / C) (t % C) else 0) else (if t / C < k then wideF n A (t / C) (t % C) else 0))) = if t / C < k + 1 then wideF n A (t / C) (t % C) else 0
  by_cases e : t / C = k
  · have h2 : t - k * C = t % C := by subst e; exact row_sub
    have h1 := (row_iff hC).2 e
    have h4 := Nat.mod_lt t hC
    rw [if_pos e, if_pos (show t / C < k + 1 by omega)]
    unfold wideF
    by_cases h3 : t % C < n
    · rw [if_pos h3, if_pos h3, if_neg (by omega)]
    · rw [if_neg h3, if_neg h3]
      unfold one
      by_cases h5 : t = k * C + (n + k)
      · rw [if_pos h5, if_pos (by omega)]
      · rw [if_neg h5, if_neg (by omega)]
  · rw [if_neg (fun h => e (by rw [h]; exact place_div (by omega))), if_neg e]
    by_cases h : t / C < k
    · rw [if_pos h, if_pos (by omega)]
    · rw [if_neg h, if_neg (by omega)]
theorem wideK_all {n C : Nat} {A : List UInt8} : ∀ t, t < n * C → pl C (wideK n A n) t = pl C (wideF n A) t := by
  intro t ht
  exact if_pos ((Nat.div_lt_iff_lt_mul (pos_of_lt ht)).2 ht)

set_option maxRecDepth 100000 in
set_option maxHeartbeats 4000000 in
theorem bes_any {w : World} {n : Nat} {vs : Value} {A : List UInt8} (h : Rd w vs A) (hok : OkM n n A) :
    Calls Try.prog 104 #[.agg #[.int .i64 (n : Int), .int .i64 (n : Int), vs]] w fun e w' => ∃ g m C, Hid (C = n + n) ∧ Hid (m = n * C) ∧ e = .returned (.agg #[.int .i64 (n : Int), .int .i64 (C : Int), .slice (some ⟨g, 0, none⟩) m m]) ∧ w.heap.size ≤ g ∧
      RowF w' w.heap.size 5 g m m (pl C (wideF n A)) ∧ Below w.heap.size w w' := by
  have hn : n ≤ 256 := by have := hok.2.1; omega
  obtain ⟨C, hC⟩ : ∃ C, Hid (C = n + n) := ⟨_, rfl⟩
  have hC2 : C ≤ 512 := by have := hC.out; omega
  go_enter Try.func104, Try.ntmps104
  go_wp2_with fail
  refine (nought_any n C _ hn hC2 rfl (by have := hC.out; omega)).mono ?_
  rintro e w1 ⟨g, m, hm, rfl, hg, R1, b1⟩
  have hg0 : w.heap.size + 1 < g := by simp at hg; omega
  have B1 : Below w.heap.size w w1 := Below.next (by repeat (first | exact Below.refl _ _ | apply below_lit)) b1
  have P2 : Box w1 w.heap.size (n : Int) (n : Int) vs := Below.box b1 (by simp <;> omega) ((Box.new w _ _ vs _).alloc (by simp) _)
  have X3 : Box w1 (w.heap.size + 1) 0 0 (.slice none 0 0) := Below.box b1 (by simp <;> omega) (Box.new1 w _ 0 0 (.slice none 0 0) 74)
  have F3 : Free w1 (w.heap.size + 1) := Below.free b1 (by simp <;> omega) (by have h := Free.new (w.alloc (.cells #[.int .i64 (n : Int), .int .i64 (n : Int), vs] 74)) #[.int .i64 0, .int .i64 0, .slice none 0 0] 74; rwa [World.size_alloc] at h)
  have hA : Below w1.heap.size w1 (w1.alloc (.cells #[.int .i64 (n : Int), .int .i64 (C : Int), .slice (some ⟨g, 0, none⟩) m m] 74)) := (Below.refl _ _).alloc (Nat.le_refl _) _
  have P1 := Box.new w1 (n : Int) (C : Int) (.slice (some ⟨g, 0, none⟩) m m) 74
  have hlt := R1.lt
  have hap : Apart g vs := h.apart (by omega)
  replace R1 := (R1.base (show w.heap.size ≤ _ by simp <;> omega)).later hA
  replace P2 := P2.below (by omega) hA
  replace X3 := X3.below (by omega) hA
  replace F3 := F3.below (by omega) hA
  replace B1 := Below.next B1 hA
  have h1 := h.below B1
  have hms : w1.heap.size < (w1.alloc (.cells #[.int .i64 (n : Int), .int .i64 (C : Int), .slice (some ⟨g, 0, none⟩) m m] 74)).heap.size := by simp
  have hmg : w1.heap.size ≠ g := by omega
  have p20 := P2.c0
  have p21 := P2.c1
  clear hA b1 hg
  go_wp2
  generalize w1.alloc (.cells #[.int .i64 (n : Int), .int .i64 (C : Int), .slice (some ⟨g, 0, none⟩) m m] 74) = w2 at *
  have hmm : m ≤ 256 * 512 := by rw [hm.out]; exact Nat.mul_le_mul hn hC2
  have hnC : n ≤ C := by have := hC.out; omega
  go_loopw [15] (fun i wr => ∃ k : Nat, k ≤ n ∧ i = .int .i64 k ∧ Turn g w2 wr ∧ RowF wr w.heap.size 5 g m m (pl C (wideK n A k))) (fun i _ => n - (intOf i).toNat)
  case atStart => exact ⟨0, by omega, rfl, Turn.refl _ _, R1.congr (fun t _ => (wideK_zero _ _ _ t).symm)⟩
  case round =>
    obtain ⟨k, hk, rfl, hT, hRk⟩ := hrel
    clear R1 p20 p21
    replace P1 := P1.turn hms hmg hT
    replace P2 := P2.turn (by omega) (by omega) hT
    have hs2 := hT.size
    by_cases hlt2 : k < n
    · have hlt2' : (k : Int) < (n : Int) := by omega
      have h2 := h1.turn hap hT
      obtain ⟨o, ho⟩ : ∃ o, Hid (o = k * C) := ⟨_, rfl⟩
      have hom : o + C ≤ m := by rw [ho.out, hm.out, ← Nat.succ_mul]; exact Nat.mul_le_mul_right C hlt2
      have hrowW : ∀ W, Below wr.heap.size wr W → Calls Try.prog 103 #[.agg #[.int .i64 (n : Int), .int .i64 (C : Int), .slice (some ⟨g, 0, none⟩) m m], .int .i64 (k : Int)] W fun e w' => e = .returned (.slice (some ⟨g, o, none⟩) C (m - o)) ∧ Below wr.heap.size wr w' := by
        intro W hW
        rw [ho.out]
        exact (row_own rfl hlt2 hm hn hC2).mono fun e w' he => ⟨he.1, Below.next hW he.2⟩
      have hrowA : ∀ W, Below wr.heap.size wr W → Calls Try.prog 103 #[.agg #[.int .i64 (n : Int), .int .i64 (n : Int), vs], .int .i64 (k : Int)] W fun e w' => ∃ a cap, e = .returned (.slice a n cap) ∧ Rd w' (.slice a n cap) (upto (fun j => en n A k j) n) ∧ Below wr.heap.size wr w' := by
        intro W hW
        refine (row_rd rfl (h2.below hW) hok hlt2).mono ?_
        rintro e w' ⟨a, cap, he, hr, _, hb⟩
        exact ⟨a, cap, he, hr, Below.next hW hb⟩
      have Q1 := P1
      have Q2 := P2
      have l1 : w1.heap.size < wr.heap.size := by omega
      have l2 : w.heap.size < wr.heap.size := by omega
      have n2 : w.heap.size ≠ g := by omega
      go_wp2
      go_region_held3 (fun wx => (wx.cell? ⟨w1.heap.size, 0, none⟩ = some (.int .i64 (n : Int)) ∧ wx.cell? ⟨w1.heap.size, 1, none⟩ = some (.int .i64 (C : Int)) ∧ wx.cell? ⟨w1.heap.size, 2, none⟩ = some (.slice (some ⟨g, 0, none⟩) m m)) ∧ (wx.cell? ⟨w.heap.size, 0, none⟩ = some (.int .i64 (n : Int)) ∧ wx.cell? ⟨w.heap.size, 1, none⟩ = some (.int .i64 (n : Int)) ∧ wx.cell? ⟨w.heap.size, 2, none⟩ = some vs)) (first | exact ⟨Box.and P1, Box.and P2⟩ | exact ⟨Box.and P1.drew, Box.and P2.drew⟩ | exact ⟨Box.and (P1.only hmg O3), Box.and (P2.only n2 O3)⟩) (first | (go_at_call_of 103 (Value.slice (some ⟨g, 0, none⟩) m m); refine (hrowW _ (by first | assumption | exact (Below.refl _ _).drew)).mono ?_; rintro e v1 ⟨rfl, bv1⟩; replace P1 := Q1.below l1 bv1; replace P2 := Q2.below l2 bv1) | (go_at_call_of 103 vs; refine (hrowA _ (by first | assumption | exact (Below.refl _ _).drew)).mono ?_; rintro e v2 ⟨a, cap, rfl, hr2, bv2⟩; replace P1 := Q1.below l1 bv2; replace P2 := Q2.below l2 bv2) | (refine step_copy_rd rfl (.tmp 20) (.tmp 23) 22 22 rfl 5 Try.underlying22 info1_u8 rfl rfl hr2 (upto_length _ _) hnC (hRk.later bv2) (by omega) ?_; intro v3 O3 R3))
      have T3 : Turn g w2 v3 := hT.trans ((Below.turn bv2 g).trans O3.turn)
      have s3 : wr.heap.size ≤ v3.heap.size := by rw [O3.size]; exact bv2.size
      have R4 : RowF v3 w.heap.size 5 g m m (pl C (wideH n A k)) := R3.congr (fun t ht => by rw [ho.out]; exact wideH_put hnC (fun j hj => co_upto_lt hj) t (by rw [← hm.out]; exact ht))
      replace P1 := P1.only hmg O3
      replace P2 := P2.only n2 O3
      clear hRk hT R3 O3 bv2 bv1 hr2 hrowA hrowW Q1 Q2 h2
      obtain ⟨t, ht⟩ : ∃ t, Hid (t = n + k) := ⟨_, rfl⟩
      have g0 : (n : Int) + (k : Int) = (t : Int) := by have := ht.out; omega
      have gw : IntKind.i64.wrap (t : Int) = (t : Int) := by rw [IntKind.wrap_i64]; have := ht.out; omega
      have htC : t < C := by have := ht.out; have := hC.out; omega
      have htC' : (t : Int) < (C : Int) := by omega
      have Q1 := P1
      have Q2 := P2
      have l1 : w1.heap.size < v3.heap.size := by omega
      have l2 : w.heap.size < v3.heap.size := by omega
      have hrowW : ∀ W, Below v3.heap.size v3 W → Calls Try.prog 103 #[.agg #[.int .i64 (n : Int), .int .i64 (C : Int), .slice (some ⟨g, 0, none⟩) m m], .int .i64 (k : Int)] W fun e w' => e = .returned (.slice (some ⟨g, o, none⟩) C (m - o)) ∧ Below v3.heap.size v3 w' := by
        intro W hW
        rw [ho.out]
        exact (row_own rfl hlt2 hm hn hC2).mono fun e w' he => ⟨he.1, Below.next hW he.2⟩
      go_wp2
      go_region_held3 (fun wx => (wx.cell? ⟨w1.heap.size, 0, none⟩ = some (.int .i64 (n : Int)) ∧ wx.cell? ⟨w1.heap.size, 1, none⟩ = some (.int .i64 (C : Int)) ∧ wx.cell? ⟨w1.heap.size, 2, none⟩ = some (.slice (some ⟨g, 0, none⟩) m m)) ∧ (wx.cell? ⟨w.heap.size, 0, none⟩ = some (.int .i64 (n : Int)) ∧ wx.cell? ⟨w.heap.size, 1, none⟩ = some (.int .i64 (n : Int)) ∧ wx.cell? ⟨w.heap.size, 2, none⟩ = some vs)) (first | exact ⟨Box.and P1, Box.and P2⟩ | exact ⟨Box.and P1.drew, Box.and P2.drew⟩ | exact ⟨Box.and (P1.only hmg ((Only.refl _ _).setCell _ _)), Box.and (P2.only n2 ((Only.refl _ _).setCell _ _))⟩) ((go_at_call_of 103 (Value.slice (some ⟨g, 0, none⟩) m m); refine (hrowW _ (by first | assumption | exact (Below.refl _ _).drew)).mono ?_; rintro e v4 ⟨rfl, bv4⟩; replace P1 := Q1.below l1 bv4; replace P2 := Q2.below l2 bv4; have c4 := (R4.later bv4).cell (show o + t < m by omega); have f4 := (R4.later bv4).unfrozen (o + t)))
      have HN : Hid (RowF (v4.setCell ⟨g, o + t, none⟩ (.int .u8 1)) w.heap.size 5 g m m (pl C (wideK n A (k + 1)))) := by
        refine ((R4.later bv4).store (f' := fun s => if s = o + t then 1 else pl C (wideH n A k) s) (show o + t < m by omega) 1 (fun s => rfl)).congr fun s hs => ?_
        rw [ho.out, ht.out]
        exact wideK_step hC.out hlt2 s (by rw [← hm.out]; exact hs)
      have HT : Hid (Turn g w2 (v4.setCell ⟨g, o + t, none⟩ (.int .u8 1))) := T3.trans ((Below.turn bv4 g).trans ((Only.refl _ _).setCell _ _).turn)
      clear T3 R4 bv4 hrowW
      go_wp2
      go_roundw
      case rel => exact ⟨k + 1, by omega, by go_num, HT.out, HN.out⟩
      case measure => simp [intOf]; omega
    · have e : k = n := by omega
      subst e
      have R4 : RowF wr w.heap.size 5 g m m (pl C (wideF k A)) := hRk.congr (fun t ht => wideK_all t (by rw [← hm.out]; exact ht))
      have X4 := X3.turn (by omega) (by omega) hT
      have F4 := F3.turn (by omega) (by omega) hT
      have x30 := X4.c0
      have x31 := X4.c1
      have x32 := X4.c2
      have f30 := F4.f0
      have f31 := F4.f1
      have f32 := F4.f2
      have y0 := P1.c0
      have y1 := P1.c1
      have y2 := P1.c2
      clear hRk
      go_wp2
      have O1 : Only (w.heap.size + 1) wr (((wr.setCell ⟨w.heap.size + 1, 0, none⟩ (.int .i64 (k : Int))).setCell ⟨w.heap.size + 1, 1, none⟩ (.int .i64 (C : Int))).setCell ⟨w.heap.size + 1, 2, none⟩ (.slice (some ⟨g, 0, none⟩) m m)) :=
        (((Only.refl _ _).setCell 0 _).setCell 1 _).setCell 2 _
      refine bodyPost_ret (v := .agg #[.int .i64 (k : Int), .int .i64 (C : Int), .slice (some ⟨g, 0, none⟩) m m]) (by simp [results, Try.results104, go_sem, x30, x31, x32, f30, f31, f32]) rfl ⟨g, m, C, hC, hm, rfl, by omega, R4.only (by omega) O1, (B1.trans (hT.below (by omega) (by omega))).trans (O1.below (by omega))⟩

/-- the first k rows of a matrix, noughts behind them -/
def rowsK (G : Mx) (k : Nat) : Mx := fun i j => if i < k then G i j else 0
theorem rowsK_zero (G : Mx) (c t : Nat) : pl c (rowsK G 0) t = 0 := by
  show rowsK G 0 (t / c) (t % c) = 0
  unfold rowsK
  rw [if_neg (Nat.not_lt_zero _)]
theorem rowsK_put {r c k : Nat} {G : Mx} {q : Nat → UInt8} (hq : ∀ j, j < c → q j = G k j) : ∀ t, t < r * c → putAt (pl c (rowsK G k)) (k * c) c q t = pl c (rowsK G (k + 1)) t := by
  intro t ht
  rw [pl_put _ _ t ht]
  refine pl_congr (r := r) (fun i j _ hj => ?_) t ht
  unfold rowsK
  by_cases e : i = k
  · subst e; rw [if_pos rfl, if_pos (by omega), hq j hj]
  · rw [if_neg e]
    by_cases h : i < k
    · rw [if_pos h, if_pos (by omega)]
    · rw [if_neg h, if_neg (by omega)]
theorem rowsK_all {r c : Nat} {G : Mx} : ∀ t, t < r * c → pl c (rowsK G r) t = pl c G t := by
  intro t ht
  exact if_pos ((Nat.div_lt_iff_lt_mul (pos_of_lt ht)).2 ht)
/-- a part of a row of the call's own -/
theorem RowF.part {w : World} {base e g L C : Nat} {f : Nat → UInt8} (h : RowF w base e g L C f) {lo c cap : Nat} (hc : 0 < c) (hl : lo + c ≤ L) (hcap : c ≤ cap) (hm : cap ≤ maxLen) : Rd w (.slice (some ⟨g, lo, none⟩) c cap) (upto (fun j => f (lo + j)) c) := by
  refine Or.inr ⟨g, lo, cap, fun e => ?_, by rw [upto_length], by rw [upto_length]; exact hcap, hm, h.lt.2, fun i hi => ?_⟩
  · have := upto_length (fun j => f (lo + j)) c
    rw [e] at this; simp at this; omega
  · rw [upto_length] at hi
    rw [co_upto_lt hi]
    exact h.cell (by omega)

set_option maxRecDepth 100000 in
set_option maxHeartbeats 4000000 in
theorem half_any {w : World} {base n C g m : Nat} {F : Mx} (hR : RowF w base 5 g m m (pl C F)) (hC : Hid (C = n + n)) (hm : Hid (m = n * C)) (hn : n ≤ 256) :
    Calls Try.prog 107 #[.agg #[.int .i64 (n : Int), .int .i64 (C : Int), .slice (some ⟨g, 0, none⟩) m m]] w fun e w' => ∃ gh mh, w.heap.size ≤ gh ∧ e = .returned (.agg #[.int .i64 (n : Int), .int .i64 (n : Int), .slice (some ⟨gh, 0, none⟩) mh mh]) ∧ Rd w' (.slice (some ⟨gh, 0, none⟩) mh mh) (flat n n (fun i j => F i (n + j))) ∧ Below w.heap.size w w' := by
  have hC2 : C ≤ 512 := by have := hC.out; omega
  have hmm : m ≤ 256 * 512 := by rw [hm.out]; exact Nat.mul_le_mul hn hC2
  have hlt0 := hR.lt
  go_enter Try.func107, Try.ntmps107
  go_wp2_with fail
  refine (nought_any n n _ hn (by omega) rfl rfl).mono ?_
  rintro e w1 ⟨gh, mh, hmh, rfl, hg, R1, b1⟩
  have hg0 : w.heap.size + 1 < gh := by simp at hg; omega
  have B1 : Below w.heap.size w w1 := Below.next (by repeat (first | exact Below.refl _ _ | apply below_lit)) b1
  have P2 : Box w1 w.heap.size (n : Int) (C : Int) (.slice (some ⟨g, 0, none⟩) m m) := Below.box b1 (by simp <;> omega) ((Box.new w _ _ _ _).alloc (by simp) _)
  have X3 : Box w1 (w.heap.size + 1) 0 0 (.slice none 0 0) := Below.box b1 (by simp <;> omega) (Box.new1 w _ 0 0 (.slice none 0 0) 74)
  have F3 : Free w1 (w.heap.size + 1) := Below.free b1 (by simp <;> omega) (by have h := Free.new (w.alloc (.cells #[.int .i64 (n : Int), .int .i64 (C : Int), .slice (some ⟨g, 0, none⟩) m m] 74)) #[.int .i64 0, .int .i64 0, .slice none 0 0] 74; rwa [World.size_alloc] at h)
  have hA : Below w1.heap.size w1 (w1.alloc (.cells #[.int .i64 (n : Int), .int .i64 (n : Int), .slice (some ⟨gh, 0, none⟩) mh mh] 74)) := (Below.refl _ _).alloc (Nat.le_refl _) _
  have P1 := Box.new w1 (n : Int) (n : Int) (.slice (some ⟨gh, 0, none⟩) mh mh) 74
  have hlt := R1.lt
  have hgg : g ≠ gh := by omega
  replace R1 := (R1.base (show w.heap.size ≤ _ by simp <;> omega)).later hA
  replace P2 := P2.below (by omega) hA
  replace X3 := X3.below (by omega) hA
  replace F3 := F3.below (by omega) hA
  replace B1 := Below.next B1 hA
  have h1 := hR.later B1
  have hms : w1.heap.size < (w1.alloc (.cells #[.int .i64 (n : Int), .int .i64 (n : Int), .slice (some ⟨gh, 0, none⟩) mh mh] 74)).heap.size := by simp
  have hmg : w1.heap.size ≠ gh := by omega
  have p20 := P2.c0
  clear hA b1 hg hR
  go_wp2
  generalize w1.alloc (.cells #[.int .i64 (n : Int), .int .i64 (n : Int), .slice (some ⟨gh, 0, none⟩) mh mh] 74) = w2 at *
  have hmm2 : mh ≤ 256 * 256 := by rw [hmh.out]; exact Nat.mul_le_mul hn hn
  obtain ⟨G, hG⟩ : ∃ G, Hid (G = fun i j => F i (n + j)) := ⟨_, rfl⟩
  go_loopw [12] (fun i wr => ∃ k : Nat, k ≤ n ∧ i = .int .i64 k ∧ Turn gh w2 wr ∧ RowF wr w.heap.size 5 gh mh mh (pl n (rowsK G k))) (fun i _ => n - (intOf i).toNat)
  case atStart => exact ⟨0, by omega, rfl, Turn.refl _ _, R1.congr (fun t _ => (rowsK_zero _ _ t).symm)⟩
  case round =>
    obtain ⟨k, hk, rfl, hT, hRk⟩ := hrel
    clear R1 p20
    replace P1 := P1.turn hms hmg hT
    replace P2 := P2.turn (by omega) (by omega) hT
    have hs2 := hT.size
    by_cases hlt2 : k < n
    · have hlt2' : (k : Int) < (n : Int) := by omega
      have h2 := h1.turn hgg hT
      obtain ⟨o, ho⟩ : ∃ o, Hid (o = k * n) := ⟨_, rfl⟩
      obtain ⟨q, hq⟩ : ∃ q, Hid (q = k * C) := ⟨_, rfl⟩
      have hom : o + n ≤ mh := by rw [ho.out, hmh.out, ← Nat.succ_mul]; exact Nat.mul_le_mul_right n hlt2
      have hqm : q + C ≤ m := by rw [hq.out, hm.out, ← Nat.succ_mul]; exact Nat.mul_le_mul_right C hlt2
      have hrowH : ∀ W, Below wr.heap.size wr W → Calls Try.prog 103 #[.agg #[.int .i64 (n : Int), .int .i64 (n : Int), .slice (some ⟨gh, 0, none⟩) mh mh], .int .i64 (k : Int)] W fun e w' => e = .returned (.slice (some ⟨gh, o, none⟩) n (mh - o)) ∧ Below wr.heap.size wr w' := by
        intro W hW
        rw [ho.out]
        exact (row_own rfl hlt2 hmh hn (by omega)).mono fun e w' he => ⟨he.1, Below.next hW he.2⟩
      obtain ⟨cp, hcp⟩ : ∃ cp, Hid (cp = m - q) := ⟨_, rfl⟩
      have hrowW : ∀ W, Below wr.heap.size wr W → Calls Try.prog 103 #[.agg #[.int .i64 (n : Int), .int .i64 (C : Int), .slice (some ⟨g, 0, none⟩) m m], .int .i64 (k : Int)] W fun e w' => e = .returned (.slice (some ⟨g, q, none⟩) C cp) ∧ Below wr.heap.size wr w' := by
        intro W hW
        rw [hcp.out, hq.out]
        exact (row_own rfl hlt2 hm hn hC2).mono fun e w' he => ⟨he.1, Below.next hW he.2⟩
      have Q1 := P1
      have Q2 := P2
      have l1 : w1.heap.size < wr.heap.size := by omega
      have l2 : w.heap.size < wr.heap.size := by omega
      have n2 : w.heap.size ≠ gh := by omega
      have g0 : (C : Int) - (n : Int) = (n : Int) := by have := hC.out; omega
      have gw : IntKind.i64.wrap (n : Int) = (n : Int) := by rw [IntKind.wrap_i64]; omega
      have hCn : C - n = n := by have := hC.out; omega
      have hnC : n ≤ C := by omega
      have hnC' : (n : Int) ≤ (C : Int) := by omega
      have hcap : n < cp := by have := hC.out; have := hcp.out; omega
      have hcap2 : C ≤ cp := by have := hcp.out; omega
      have hcap3 : cp ≤ m := by have := hcp.out; omega
      have hcapne : ¬ cp = n := by omega
      go_wp2
      go_region_held3 (fun wx => (wx.cell? ⟨w1.heap.size, 0, none⟩ = some (.int .i64 (n : Int)) ∧ wx.cell? ⟨w1.heap.size, 1, none⟩ = some (.int .i64 (n : Int)) ∧ wx.cell? ⟨w1.heap.size, 2, none⟩ = some (.slice (some ⟨gh, 0, none⟩) mh mh)) ∧ (wx.cell? ⟨w.heap.size, 0, none⟩ = some (.int .i64 (n : Int)) ∧ wx.cell? ⟨w.heap.size, 1, none⟩ = some (.int .i64 (C : Int)) ∧ wx.cell? ⟨w.heap.size, 2, none⟩ = some (.slice (some ⟨g, 0, none⟩) m m))) (first | exact ⟨Box.and P1, Box.and P2⟩ | exact ⟨Box.and P1.drew, Box.and P2.drew⟩ | exact ⟨Box.and (P1.only hmg O3), Box.and (P2.only n2 O3)⟩) (first | (go_at_call_of 103 (Value.slice (some ⟨gh, 0, none⟩) mh mh); refine (hrowH _ (by first | assumption | exact (Below.refl _ _).drew)).mono ?_; rintro e v1 ⟨rfl, bv1⟩; replace P1 := Q1.below l1 bv1; replace P2 := Q2.below l2 bv1) | (go_at_call_of 103 (Value.slice (some ⟨g, 0, none⟩) m m); refine (hrowW _ (by first | assumption | exact (Below.refl _ _).drew)).mono ?_; rintro e v2 ⟨rfl, bv2⟩; replace P1 := Q1.below l1 bv2; replace P2 := Q2.below l2 bv2) | (refine step_copy_rd rfl (.tmp 17) (.tmp 26) 22 22 rfl 5 Try.underlying22 info1_u8 rfl rfl ((h2.later bv2).part (lo := q + n) (c := n) (by omega) (by omega) (by omega) (by unfold maxLen; omega)) (upto_length _ _) (Nat.le_refl _) (hRk.later bv2) (by omega) ?_; intro v3 O3 R3))
      have T3 : Hid (Turn gh w2 v3) := hT.trans ((Below.turn bv2 gh).trans O3.turn)
      have R4 : Hid (RowF v3 w.heap.size 5 gh mh mh (pl n (rowsK G (k + 1)))) := R3.congr (fun t ht => by
        rw [ho.out]
        refine rowsK_put (r := n) (fun j hj => ?_) t (by rw [← hmh.out]; exact ht)
        rw [co_upto_lt hj, hG.out, hq.out, Nat.add_assoc]
        exact pl_at F (by omega))
      clear hRk hT R3 O3 bv2 bv1 hrowH hrowW Q1 Q2 h2 P1 P2 hCn g0
      go_wp2
      go_roundw
      case rel => exact ⟨k + 1, by omega, by go_num, T3.out, R4.out⟩
      case measure => simp [intOf]; omega
    · have e : k = n := by omega
      subst e
      have R4 : Rd wr (.slice (some ⟨gh, 0, none⟩) mh mh) (flat k k G) := by
        have := (hRk.congr (f' := pl k G) (fun t ht => rowsK_all t (by rw [← hmh.out]; exact ht))).rd
        rw [← pl_flat, ← hmh.out]
        exact this
      rw [hG.out] at R4
      have X4 := X3.turn (by omega) (by omega) hT
      have F4 := F3.turn (by omega) (by omega) hT
      have x30 := X4.c0
      have x31 := X4.c1
      have x32 := X4.c2
      have f30 := F4.f0
      have f31 := F4.f1
      have f32 := F4.f2
      have y0 := P1.c0
      have y1 := P1.c1
      have y2 := P1.c2
      clear hRk
      go_wp2
      have O1 : Only (w.heap.size + 1) wr (((wr.setCell ⟨w.heap.size + 1, 0, none⟩ (.int .i64 (k : Int))).setCell ⟨w.heap.size + 1, 1, none⟩ (.int .i64 (k : Int))).setCell ⟨w.heap.size + 1, 2, none⟩ (.slice (some ⟨gh, 0, none⟩) mh mh)) :=
        (((Only.refl _ _).setCell 0 _).setCell 1 _).setCell 2 _
      refine bodyPost_ret (v := .agg #[.int .i64 (k : Int), .int .i64 (k : Int), .slice (some ⟨gh, 0, none⟩) mh mh]) (by simp [results, Try.results107, go_sem, x30, x31, x32, f30, f31, f32]) rfl ⟨gh, mh, by omega, rfl, R4.only (apart_block (by omega)) O1, (B1.trans (hT.below (by omega) (by omega))).trans (O1.below (by omega))⟩

end Go.Proofs.Ytchfonofjbpmaaa.Gf

/-
  THE PROGRAM's 'Pick' BY CONTRACT.
-/

namespace Go.Proofs.Ytchfonofjbpmaaa.Gf
set_option linter.unusedVariables false
set_option linter.unusedSimpArgs false
open Go.RowKit

set_option maxRecDepth 100000 in
set_option maxHeartbeats 2000000 in
theorem mpick_bad {va vr : Value} {r c : Int} {A : List UInt8} {zs : List Int} {w : World} (ha : RdM w va r c A) (hr : RdI w vr zs) (hbad : ¬ (OkM r c A ∧ zs.length ≤ 256)) :
    Calls Try.prog 74 #[va, vr] w (MakesErr w 30) := by
  obtain ⟨vs, rfl, h1⟩ := ha
  obtain ⟨az, cz, rfl⟩ := hr.form
  clear hr
  by_cases k1 : OkM r c A
  · have k2 : ¬ (0 ≤ (zs.length : Int) ∧ (zs.length : Int) ≤ 256) := fun h => hbad ⟨k1, by omega⟩
    clear hbad
    go_enter Try.func74, Try.ntmps74
    go_wp2_with fail
    refine (mcheck_ok ⟨vs, rfl, h1.below (by repeat (first | exact Below.refl _ _ | apply below_lit))⟩ k1).mono ?_
    rintro e w2 ⟨rfl, b2⟩
    have X3 : Box w2 (w.heap.size + 1) 0 0 (.slice none 0 0) := Below.box b2 (by simp <;> omega) (Box.new1 w _ 0 0 (.slice none 0 0) 74)
    have F3 : Free w2 (w.heap.size + 1) := Below.free b2 (by simp <;> omega) (by have h := Free.new (w.alloc (.cells #[.int .i64 r, .int .i64 c, vs] 74)) #[.int .i64 0, .int .i64 0, .slice none 0 0] 74; rwa [World.size_alloc] at h)
    have B2 : Below w.heap.size w w2 := Below.next (by repeat (first | exact Below.refl _ _ | apply below_lit)) b2
    clear b2
    have x30 := X3.c0
    have x31 := X3.c1
    have x32 := X3.c2
    have f30 := F3.f0
    have f31 := F3.f1
    have f32 := F3.f2
    go_wp2_with fail
    refine (side_bad _ k2).mono ?_
    rintro e w3 ⟨rfl, rfl⟩
    go_wp2
    refine bodyPost_ret (v := .tuple #[.agg #[.int .i64 0, .int .i64 0, .slice none 0 0], .int .i64 30]) (by simp [results, Try.results74, go_sem, X3.c0, X3.c1, X3.c2, F3.f0, F3.f1, F3.f2]) rfl ⟨_, rfl, rd_none, ?_⟩
    exact B2.trans ((((Only.refl _ _).setCell 0 _).setCell 1 _).setCell 2 _ |>.below (by omega))
  · clear hbad
    go_enter Try.func74, Try.ntmps74
    go_wp2_with fail
    refine (mcheck_bad ⟨vs, rfl, h1.below (by repeat (first | exact Below.refl _ _ | apply below_lit))⟩ k1).mono ?_
    rintro e w2 ⟨rfl, b2⟩
    have X3 : Box w2 (w.heap.size + 1) 0 0 (.slice none 0 0) := Below.box b2 (by simp <;> omega) (Box.new1 w _ 0 0 (.slice none 0 0) 74)
    have F3 : Free w2 (w.heap.size + 1) := Below.free b2 (by simp <;> omega) (by have h := Free.new (w.alloc (.cells #[.int .i64 r, .int .i64 c, vs] 74)) #[.int .i64 0, .int .i64 0, .slice none 0 0] 74; rwa [World.size_alloc] at h)
    have B2 : Below w.heap.size w w2 := Below.next (by repeat (first | exact Below.refl _ _ | apply below_lit)) b2
    clear b2
    have x30 := X3.c0
    have x31 := X3.c1
    have x32 := X3.c2
    have f30 := F3.f0
    have f31 := F3.f1
    have f32 := F3.f2
    go_wp2
    refine bodyPost_ret (v := .tuple #[.agg #[.int .i64 0, .int .i64 0, .slice none 0 0], .int .i64 30]) (by simp [results, Try.results74, go_sem, X3.c0, X3.c1, X3.c2, F3.f0, F3.f1, F3.f2]) rfl ⟨_, rfl, rd_none, ?_⟩
    exact B2.trans ((((Only.refl _ _).setCell 0 _).setCell 1 _).setCell 2 _ |>.below (by omega))

set_option maxRecDepth 100000 in
set_option maxHeartbeats 4000000 in
theorem mpick_ok {va vr : Value} {r c : Nat} {A : List UInt8} {zs : List Int} {w : World} (ha : RdM w va r c A) (hr : RdI w vr zs) (k1 : OkM r c A) (k2 : zs.length ≤ 256) :
    Calls Try.prog 74 #[va, vr] w fun e w' => (AllIn r zs ∧ MakesM w zs.length c (pickF c A zs) e w') ∨ (¬ AllIn r zs ∧ MakesErr w 30 e w') := by
  obtain ⟨vs, rfl, h1⟩ := ha
  obtain ⟨az, cz, rfl⟩ := hr.form
  have hr2 : r ≤ 256 := by have := k1.2.1; omega
  have hc2 : c ≤ 256 := by have := k1.2.2.2.1; omega
  go_enter Try.func74, Try.ntmps74
  go_wp2_with fail
  refine (mcheck_ok ⟨vs, rfl, h1.below (by repeat (first | exact Below.refl _ _ | apply below_lit))⟩ k1).mono ?_
  rintro e w2 ⟨rfl, b2⟩
  have X2 : Box w2 w.heap.size r c vs := Below.box b2 (by simp <;> omega) ((Box.new w r c vs _).alloc (by simp) _)
  have X3 : Box w2 (w.heap.size + 1) 0 0 (.slice none 0 0) := Below.box b2 (by simp <;> omega) (Box.new1 w _ 0 0 (.slice none 0 0) 74)
  have F3 : Free w2 (w.heap.size + 1) := Below.free b2 (by simp <;> omega) (by have h := Free.new (w.alloc (.cells #[.int .i64 (r : Int), .int .i64 (c : Int), vs] 74)) #[.int .i64 0, .int .i64 0, .slice none 0 0] 74; rwa [World.size_alloc] at h)
  have B2 : Below w.heap.size w w2 := Below.next (by repeat (first | exact Below.refl _ _ | apply below_lit)) b2
  have s2 : w.heap.size + 1 < w2.heap.size := by have := b2.size; simp at this; omega
  clear b2
  have x21 := X2.c1
  go_wp2_with fail
  refine (side_ok _ (by omega) (by omega)).mono ?_
  rintro e w2 ⟨rfl, rfl⟩
  go_wp2_with fail
  refine (nought_any zs.length c _ k2 (by omega) rfl rfl).mono ?_
  rintro e w1 ⟨g, m, hm, rfl, hg, R1, b1⟩
  have hlt := R1.lt
  have hap : Apart g vs := h1.apart (by omega)
  have hapz : Apart g (.slice az zs.length cz) := hr.apart (by omega)
  have P2 := X2.below (by omega) b1
  replace X3 := X3.below (by omega) b1
  replace F3 := F3.below (by omega) b1
  replace B2 := Below.next B2 b1
  have hA : Below w1.heap.size w1 (w1.alloc (.cells #[.int .i64 (zs.length : Int), .int .i64 (c : Int), .slice (some ⟨g, 0, none⟩) m m] 74)) := (Below.refl _ _).alloc (Nat.le_refl _) _
  have P1 := Box.new w1 (zs.length : Int) (c : Int) (.slice (some ⟨g, 0, none⟩) m m) 74
  have hs1 : w2.heap.size ≤ w1.heap.size := b1.size
  replace R1 := (R1.base (show w.heap.size ≤ w2.heap.size by omega)).later hA
  replace P2 := P2.below (by omega) hA
  replace X3 := X3.below (by omega) hA
  replace F3 := F3.below (by omega) hA
  replace B2 := Below.next B2 hA
  have hms : w1.heap.size < (w1.alloc (.cells #[.int .i64 (zs.length : Int), .int .i64 (c : Int), .slice (some ⟨g, 0, none⟩) m m] 74)).heap.size := by simp
  have hmg : w1.heap.size ≠ g := by omega
  clear hA b1 X2 x21
  go_wp2
  generalize w1.alloc (.cells #[.int .i64 (zs.length : Int), .int .i64 (c : Int), .slice (some ⟨g, 0, none⟩) m m] 74) = w3 at *
  have hmm : m ≤ 256 * 256 := by rw [hm.out]; exact Nat.mul_le_mul k2 hc2
  obtain ⟨G, hG⟩ : ∃ G, Hid (G = pickF c A zs) := ⟨_, rfl⟩
  have hA3 := h1.below B2
  have hZ3 := hr.below B2
  go_loopw [26] (fun i wr => ∃ k : Nat, k ≤ zs.length ∧ i = .int .i64 k ∧ Hid (∀ j, j < k → 0 ≤ zs.getD j 0 ∧ zs.getD j 0 < (r : Int)) ∧ Turn g w3 wr ∧ RowF wr w.heap.size 5 g m m (pl c (rowsK G k))) (fun i _ => zs.length - (intOf i).toNat)
  case atStart => exact ⟨0, by omega, rfl, (fun j hj => by omega : ∀ j, j < 0 → _), Turn.refl _ _, R1.congr (fun t _ => (rowsK_zero _ _ t).symm)⟩
  case round =>
    obtain ⟨k, hk, rfl, hall, hT, hRk⟩ := hrel
    clear R1
    replace P1 := P1.turn hms hmg hT
    replace P2 := P2.turn (by omega) (by omega) hT
    have X4 := X3.turn (by omega) (by omega) hT
    have F4 := F3.turn (by omega) (by omega) hT
    have hs4 := hT.size
    have x30 := X4.c0
    have x31 := X4.c1
    have x32 := X4.c2
    have f30 := F4.f0
    have f31 := F4.f1
    have f32 := F4.f2
    by_cases hlt2 : k < zs.length
    · have hlt2' : (k : Int) < (zs.length : Int) := by omega
      have h2 := hA3.turn hap hT
      rcases (hZ3.turn hapz hT) with ⟨a0, c0, e1, e2⟩ | ⟨bz, oz, c0, hz0', e2, hz1', hz3, hzc⟩
      · subst e1; simp at hlt2
      · simp at e2
        obtain ⟨rfl, rfl⟩ := e2
        have cz1 := hzc k hlt2
        clear hzc
        obtain ⟨z, hz⟩ : ∃ z, Hid (z = zs.getD k 0) := ⟨_, rfl⟩
        rw [← hz.out] at cz1
        have p20 := P2.c0
        by_cases hin : 0 ≤ z ∧ z < (r : Int)
        · obtain ⟨zn, hzn⟩ := Int.eq_ofNat_of_zero_le hin.1
          subst hzn
          have d1 : decide ((zn : Int) < 0) = false := decide_eq_false (by omega)
          have d2 : decide ((zn : Int) ≥ (r : Int)) = false := decide_eq_false (by omega)
          have hzr : zn < r := by omega
          clear hin
          obtain ⟨o, ho⟩ : ∃ o, Hid (o = k * c) := ⟨_, rfl⟩
          have hom : o + c ≤ m := by rw [ho.out, hm.out, ← Nat.succ_mul]; exact Nat.mul_le_mul_right c hlt2
          have hrowP : ∀ W, Below wr.heap.size wr W → Calls Try.prog 103 #[.agg #[.int .i64 (zs.length : Int), .int .i64 (c : Int), .slice (some ⟨g, 0, none⟩) m m], .int .i64 (k : Int)] W fun e w' => e = .returned (.slice (some ⟨g, o, none⟩) c (m - o)) ∧ Below wr.heap.size wr w' := by
            intro W hW
            rw [ho.out]
            exact (row_own rfl hlt2 hm k2 (by omega)).mono fun e w' he => ⟨he.1, Below.next hW he.2⟩
          have hrowA : ∀ W, Below wr.heap.size wr W → Calls Try.prog 103 #[.agg #[.int .i64 (r : Int), .int .i64 (c : Int), vs], .int .i64 (zn : Int)] W fun e w' => ∃ a cap, e = .returned (.slice a c cap) ∧ Rd w' (.slice a c cap) (upto (fun j => en c A zn j) c) ∧ Below wr.heap.size wr w' := by
            intro W hW
            refine (row_rd rfl (h2.below hW) k1 hzr).mono ?_
            rintro e w' ⟨a, cap, he, hr, _, hb⟩
            exact ⟨a, cap, he, hr, Below.next hW hb⟩
          have Q1 := P1
          have Q2 := P2
          have l1 : w1.heap.size < wr.heap.size := by omega
          have l2 : w.heap.size < wr.heap.size := by omega
          have n2 : w.heap.size ≠ g := by omega
          clear x30 x31 x32 f30 f31 f32 X4 F4
          go_wp2
          go_region_held3 (fun wx => (wx.cell? ⟨w1.heap.size, 0, none⟩ = some (.int .i64 (zs.length : Int)) ∧ wx.cell? ⟨w1.heap.size, 1, none⟩ = some (.int .i64 (c : Int)) ∧ wx.cell? ⟨w1.heap.size, 2, none⟩ = some (.slice (some ⟨g, 0, none⟩) m m)) ∧ (wx.cell? ⟨w.heap.size, 0, none⟩ = some (.int .i64 (r : Int)) ∧ wx.cell? ⟨w.heap.size, 1, none⟩ = some (.int .i64 (c : Int)) ∧ wx.cell? ⟨w.heap.size, 2, none⟩ = some vs)) (first | exact ⟨Box.and P1, Box.and P2⟩ | exact ⟨Box.and P1.drew, Box.and P2.drew⟩ | exact ⟨Box.and (P1.only hmg O3), Box.and (P2.only n2 O3)⟩) (first | (go_at_call_of 103 (Value.slice (some ⟨g, 0, none⟩) m m); refine (hrowP _ (by first | assumption | exact (Below.refl _ _).drew)).mono ?_; rintro e v1 ⟨rfl, bv1⟩; replace P1 := Q1.below l1 bv1; replace P2 := Q2.below l2 bv1) | (go_at_call_of 103 vs; refine (hrowA _ (by first | assumption | exact (Below.refl _ _).drew)).mono ?_; rintro e v2 ⟨a, cap, rfl, hr2', bv2⟩; replace P1 := Q1.below l1 bv2; replace P2 := Q2.below l2 bv2) | (refine step_copy_rd rfl (.tmp 42) (.tmp 45) 22 22 rfl 5 Try.underlying22 info1_u8 rfl rfl hr2' (upto_length _ _) (Nat.le_refl _) (hRk.later bv2) (by omega) ?_; intro v3 O3 R3))
          have T3 : Hid (Turn g w3 v3) := hT.trans ((Below.turn bv2 g).trans O3.turn)
          have R4 : Hid (RowF v3 w.heap.size 5 g m m (pl c (rowsK G (k + 1)))) := R3.congr (fun t ht => by
            rw [ho.out]
            refine rowsK_put (r := zs.length) (fun j hj => ?_) t (by rw [← hm.out]; exact ht)
            rw [co_upto_lt hj, hG.out]
            show _ = en c A (zs.getD k 0).toNat j
            rw [← hz.out]; rfl)
          have A4 : Hid (∀ j, j < k + 1 → 0 ≤ zs.getD j 0 ∧ zs.getD j 0 < (r : Int)) := fun j hj => by
            by_cases e : j = k
            · subst e; rw [← hz.out]; omega
            · exact hall.out j (by omega)
          clear hRk hT R3 O3 bv2 bv1 hrowP hrowA Q1 Q2 h2 P1 P2 hr2' hall d1 d2
          go_wp2
          go_roundw
          case rel => exact ⟨k + 1, by omega, by go_num, A4, T3.out, R4.out⟩
          case measure => simp [intOf]; omega
        · have HB : Hid (¬ AllIn r zs) := fun h => hin (by have := h k hlt2; rw [← hz.out] at this; exact this)
          have B4 : Hid (Below w.heap.size w (((wr.setCell ⟨w.heap.size + 1, 0, none⟩ (.int .i64 0)).setCell ⟨w.heap.size + 1, 1, none⟩ (.int .i64 0)).setCell ⟨w.heap.size + 1, 2, none⟩ (.slice none 0 0))) := (B2.trans (hT.below (by omega) (by omega))).trans ((((Only.refl _ _).setCell 0 _).setCell 1 _).setCell 2 _ |>.below (by omega))
          clear hRk hT hall h2
          by_cases hneg : z < 0
          · have d1 : decide (z < 0) = true := decide_eq_true hneg
            clear hin hneg
            go_wp2
            exact bodyPost_ret (v := .tuple #[.agg #[.int .i64 0, .int .i64 0, .slice none 0 0], .int .i64 30]) (by simp [results, Try.results74, go_sem, x30, x31, x32, f30, f31, f32]) rfl (Or.inr ⟨HB.out, _, rfl, rd_none, B4.out⟩)
          · have d1 : decide (z < 0) = false := decide_eq_false hneg
            have d2 : decide (z ≥ (r : Int)) = true := decide_eq_true (by omega)
            clear hin hneg
            go_wp2
            exact bodyPost_ret (v := .tuple #[.agg #[.int .i64 0, .int .i64 0, .slice none 0 0], .int .i64 30]) (by simp [results, Try.results74, go_sem, x30, x31, x32, f30, f31, f32]) rfl (Or.inr ⟨HB.out, _, rfl, rd_none, B4.out⟩)
    · obtain ⟨nz, hnz⟩ : ∃ nz, Hid (nz = zs.length) := ⟨_, rfl⟩
      have e : k = zs.length := by omega
      have R4 : Rd wr (.slice (some ⟨g, 0, none⟩) m m) (flat zs.length c (pickF c A zs)) := by
        rw [← hG.out]
        have := (hRk.congr (f' := pl c G) (fun t ht => by rw [e]; exact rowsK_all t (by rw [← hm.out]; exact ht))).rd
        rw [← pl_flat, ← hm.out]
        exact this
      have HA : Hid (AllIn r zs) := fun i hi => hall.out i (by omega)
      have y0 := P1.c0
      have y1 := P1.c1
      have y2 := P1.c2
      have hge : ¬ (k : Int) < (zs.length : Int) := by omega
      clear hRk e
      go_wp2
      have O1 : Only (w.heap.size + 1) wr (((wr.setCell ⟨w.heap.size + 1, 0, none⟩ (.int .i64 (zs.length : Int))).setCell ⟨w.heap.size + 1, 1, none⟩ (.int .i64 (c : Int))).setCell ⟨w.heap.size + 1, 2, none⟩ (.slice (some ⟨g, 0, none⟩) m m)) :=
        (((Only.refl _ _).setCell 0 _).setCell 1 _).setCell 2 _
      exact bodyPost_ret (v := .tuple #[.agg #[.int .i64 (zs.length : Int), .int .i64 (c : Int), .slice (some ⟨g, 0, none⟩) m m], .int .i64 0]) (by simp [results, Try.results74, go_sem, x30, x31, x32, f30, f31, f32]) rfl (Or.inl ⟨HA.out, _, rfl, R4.only (apart_block (by omega)) O1, (B2.trans (hT.below (by omega) (by omega))).trans (O1.below (by omega))⟩)

end Go.Proofs.Ytchfonofjbpmaaa.Gf

