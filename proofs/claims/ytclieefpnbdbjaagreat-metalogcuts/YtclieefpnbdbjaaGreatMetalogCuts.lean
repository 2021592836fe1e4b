/- PROVED: for every geometry g, checkpoints s and next, list l of records, record r, number writes, every keep and every bool save the call MetalogCuts(g, s, l, r, writes, keep, save, next) returns true, and its arguments read behind it as before; no conditions. -/
import Derived.ProofKit
import Derived.ShutString
import Derived.ChangeOld
import Derived.Test.YtclieefpnbdbjaaGreatRome47
import Derived.Test.YtclieefpnbdbjaaGreatRome48
import Derived.Test.YtclieefpnbdbjaaGreatRome49
import Derived.Test.YtclieefpnbdbjaaGreatRome50
namespace Go.Proofs.YtclieefpnbdbjaaGreat.metalogCuts
open Go.ChangeShapes Go.WideShapes Go.ChangeAt Go.RowKit
open Go.ChangeMaps (open_string shut_string)
set_option linter.unusedVariables false

theorem own : ownKnob Tryz.prog.godebug = none := by kernel_rfl
theorem laidOut : laidOutB Tryz.prog = true := by kernel_rfl

/-- WHAT THE WALK IS TOLD OF A SLICE OF INTEGERS THAT CAME IN: it is nil; or it leads to a row of 'cap' cells, the numbers 'zs' (the first 'len' are its elements, the rest its spare room), each fitting its kind. -/
def IsRow (k : IntKind) (w : World) (a : Option Addr) (len cap : Nat) (zs : List Int) : Prop :=
  (a = none ∧ len = 0 ∧ cap = 0 ∧ zs = []) ∨
  ∃ x, a = some x ∧ len ≤ cap ∧ cap ≤ maxLen ∧ zs.length = cap ∧ (∀ i, i < zs.length → w.cell? (x.add i) = some (.int k (zs.getD i 0))) ∧ ∀ n ∈ zs, (Lit.int k n).wf = true

open Gf
set_option linter.unusedSimpArgs false
theorem mc_ret {p : Prop} (h : p := by
  go_wp2
  go_ret
  exact ⟨rfl, Z1⟩) : p := h
theorem mc_last {p : Prop} (h : p := by
  refine koH hK (SF.out _ b3) fun hHeld => ?_
  clear hK K' hHeld
  refine rnH 7 (fun K' hK => ?_)
  go_simp
  go_at_call 24
  refine (rrecs18_any (HRo.out.below b3) (o2.rd (by have := LKL.out; simp; omega)) (by have := HRLO.out.1; omega) (rL_st rfl HRLO.out.2) (rL_st EAP.out HOKR.out)).mono ?_
  rintro _ w4 ⟨y2', rfl, hy2, b4⟩
  dsimp only
  have b5 := b3.step16 b4 b3.size
  have D : y1' = true ∨ y2' = true := by
    rcases HER.out with e | e
    · exact Or.inl (HY1.out.2 e)
    · exact Or.inr (hy2.2 (e.trans EAP.out.symm))
  refine koH hK (SF.out _ b5) fun hHeld => ?_
  clear hK K' hy2
  refine tkH 8 ?_
  refine wpAnyH_done (by kernel_rfl) ?_ _
  clear hHeld
  obtain ⟨g1, e1, Z1⟩ := FINC.out _ b5
  rw [HT2.out] at g1
  have hx1 : x1 = true := HXO.out
  clear b4 b5 b3 o2 SF FINC
  subst hx1
  rcases D with h | h
  · subst h
    exact mc_ret
  · subst h
    cases y1'
    · exact mc_ret
    · exact mc_ret) : p := h
theorem rdR_len {w : World} {v : Value} {L : List RcV} (h : RdR w v L) : L.length ≤ 9223372036854775807 := by
  rcases h with ⟨_, _, rfl, _⟩ | ⟨_, _, _, _, _, h3, _⟩
  · exact Nat.zero_le _
  · unfold maxLen at h3; omega
theorem RdI.short18 {w : World} {v : Value} {zs : List Int} (h : RdI w v zs) : zs.length ≤ 9223372036854775807 := by
  rcases h with ⟨_, _, rfl, _⟩ | ⟨b, off, c, h1, h2, h3, _⟩
  · exact Nat.zero_le _
  · unfold maxLen at h3
    omega
theorem RdII.short18 {w : World} {v : Value} {L : List VI} (h : RdII w v L) {r : VI} (hr : r ∈ L) : r.2.length ≤ 9223372036854775807 := by
  rcases h with ⟨_, _, rfl, _⟩ | ⟨b, off, c, h1, h2, h3, h4, h5⟩
  · cases hr
  · obtain ⟨i, hi, e⟩ := List.getElem_of_mem hr
    have q := RdI.short18 (h5 i hi).rd
    have e2 : L.getD i default = r := by simp [List.getD, hi, e]
    rw [e2] at q
    exact q
/-- the four struct parameters, laid -/
structure BoxesC (V : World) (N : Nat) (g : GeoS) (ar ep : Int) (v : Value) (c : RcV) (ar2 ep2 : Int) (v2 : Value) : Prop where
  ge : GeoAt V N g
  e0 : V.cell? ⟨N + 1, 0, none⟩ = some (.int .i64 ar)
  e1 : V.cell? ⟨N + 1, 1, none⟩ = some (.int .i64 ep)
  e2 : V.cell? ⟨N + 1, 2, none⟩ = some v
  f0 : V.cell? ⟨N + 1 + 1, 0, none⟩ = some (.int .i64 c.r.kind)
  f1 : V.cell? ⟨N + 1 + 1, 1, none⟩ = some (.string ⟨c.r.key.toArray⟩)
  f2 : V.cell? ⟨N + 1 + 1, 2, none⟩ = some (.int .i64 c.r.len)
  f3 : V.cell? ⟨N + 1 + 1, 3, none⟩ = some c.vs
  j0 : V.cell? ⟨N + 1 + 1 + 1, 0, none⟩ = some (.int .i64 ar2)
  j1 : V.cell? ⟨N + 1 + 1 + 1, 1, none⟩ = some (.int .i64 ep2)
  j2 : V.cell? ⟨N + 1 + 1 + 1, 2, none⟩ = some v2
theorem boxesC_laid (w : World) (g : GeoS) (ar ep : Int) (v : Value) (c : RcV) (ar2 ep2 : Int) (v2 : Value) {W : World} (hW : W = (((w.alloc (.cells #[.int .i64 g.k, .int .i64 g.m, .int .i64 g.z, .int .i64 g.s, .int .i64 g.t, .int .i64 g.o] 23)).alloc (.cells #[.int .i64 ar, .int .i64 ep, v] 41)).alloc (.cells #[.int .i64 c.r.kind, .string ⟨c.r.key.toArray⟩, .int .i64 c.r.len, c.vs] 38)).alloc (.cells #[.int .i64 ar2, .int .i64 ep2, v2] 41)) :
    ∀ V, Below W.heap.size W V → BoxesC V w.heap.size g ar ep v c ar2 ep2 v2 ∧ Below w.heap.size w V := by
  intro V hV
  obtain ⟨u, hu⟩ : ∃ u, u = (w.alloc (.cells (cellsG g) 23)).alloc (.cells #[.int .i64 ar, .int .i64 ep, v] 41) := ⟨_, rfl⟩
  have T := two18s w g ar ep v 23 41
  rw [← hu] at T
  have hW2 : W = (u.alloc (.cells #[.int .i64 c.r.kind, .string ⟨c.r.key.toArray⟩, .int .i64 c.r.len, c.vs] 38)).alloc (.cells #[.int .i64 ar2, .int .i64 ep2, v2] 41) := by rw [hu]; exact hW
  obtain ⟨x, hx⟩ : ∃ x, x = u.alloc (.cells #[.int .i64 c.r.kind, .string ⟨c.r.key.toArray⟩, .int .i64 c.r.len, c.vs] 38) := ⟨_, rfl⟩
  rw [← hx] at hW2
  have s1 : u.heap.size = w.heap.size + 1 + 1 := by rw [hu]; simp
  have s2 : x.heap.size = w.heap.size + 1 + 1 + 1 := by rw [hx]; simp [s1]
  have bx : Below u.heap.size u x := by rw [hx]; exact belR _ _
  have bw : Below x.heap.size x W := by rw [hW2]; exact belR _ _
  have bV : Below x.heap.size x V := bw.step16 hV bw.size
  have buV : Below u.heap.size u V := bx.step16 bV bx.size
  obtain ⟨⟨h1, h2⟩, h3, h4, h5⟩ := T V buV
  have zx : ∀ j, x.cell? ⟨w.heap.size + 1 + 1, j, none⟩ = (#[.int .i64 c.r.kind, .string ⟨c.r.key.toArray⟩, .int .i64 c.r.len, c.vs] : Array Value)[j]? := fun j => by rw [hx, ← s1]; exact World.cell?_alloc_new _ _ _ _
  have zw : ∀ j, W.cell? ⟨w.heap.size + 1 + 1 + 1, j, none⟩ = (#[.int .i64 ar2, .int .i64 ep2, v2] : Array Value)[j]? := fun j => by rw [hW2, ← s2]; exact World.cell?_alloc_new _ _ _ _
  have lx : w.heap.size + 1 + 1 < x.heap.size := by omega
  have lw : w.heap.size + 1 + 1 + 1 < W.heap.size := by rw [hW2]; simp [s2]
  exact ⟨⟨h1, h3, h4, h5, (bV.cell (p := ⟨w.heap.size + 1 + 1, 0, none⟩) lx).trans (zx 0), (bV.cell (p := ⟨w.heap.size + 1 + 1, 1, none⟩) lx).trans (zx 1), (bV.cell (p := ⟨w.heap.size + 1 + 1, 2, none⟩) lx).trans (zx 2), (bV.cell (p := ⟨w.heap.size + 1 + 1, 3, none⟩) lx).trans (zx 3), (hV.cell (p := ⟨w.heap.size + 1 + 1 + 1, 0, none⟩) lw).trans (zw 0), (hV.cell (p := ⟨w.heap.size + 1 + 1 + 1, 1, none⟩) lw).trans (zw 1), (hV.cell (p := ⟨w.heap.size + 1 + 1 + 1, 2, none⟩) lw).trans (zw 2)⟩, h2⟩

set_option maxRecDepth 100000 in
set_option maxHeartbeats 4000000 in
theorem walk (c0 : GeoS) (ar1 ep1 : Int) (so1 : Value) (L1 : List ObV) (a2 : Option Addr) (len2 cap2 : Nat) (z2 : List RcV) (c3 : RcV) (a4 : Int) (a5 : Option Addr) (len5 cap5 : Nat) (z5 : List VI) (a6 : Bool) (ar7 ep7 : Int) (so7 : Value) (L7 : List ObV) (w : World) (w0 : c0.Wf) (w1 : RdO w so1 L1) (wa1 : (Lit.int .i64 ar1).wf = true) (we1 : (Lit.int .i64 ep1).wf = true) (w2 : RdR w (.slice a2 len2 cap2) z2) (w3 : c3.In w) (w4 : (Lit.int .i64 a4).wf = true) (w5 : RdII w (.slice a5 len5 cap5) z5) (w7 : RdO w so7 L7) (wa7 : (Lit.int .i64 ar7).wf = true) (we7 : (Lit.int .i64 ep7).wf = true) :
    Calls Tryz.prog 5 #[aggG c0, .agg #[.int .i64 ar1, .int .i64 ep1, so1], .slice a2 len2 cap2, aggR c3, .int .i64 a4, .slice a5 len5 cap5, .bool a6, .agg #[.int .i64 ar7, .int .i64 ep7, so7]] w fun e w' => e = .returned (.bool true) ∧ Below w.heap.size w w' := by
  obtain ⟨oa, oc, rfl⟩ := w1.form
  obtain ⟨pa, pc, rfl⟩ := w7.form
  obtain rfl := w2.lenEq
  obtain rfl := w5.lenEq
  obtain ⟨⟨rk, ky, rl, st⟩, rvs⟩ := c3
  have HC3 := hidI w3
  obtain ⟨sa, sc, ersv⟩ := w3.rs.form
  simp only at ersv
  subst ersv
  have HO := hidI w1
  have HL := hidI w2
  have H5 := hidI w5
  have H7 := hidI w7
  obtain ⟨sx, hsx⟩ : ∃ sx, Hid (decide (smG c0) = sx) := ⟨_, rfl⟩
  obtain ⟨cx, hcx⟩ : ∃ cx, Hid (chG c0 = cx) := ⟨_, rfl⟩
  have KSm := fun W => @small15_any W c0 w0 _ hsx.out
  have KC := fun W => @lcheck_any W c0 w0 _ hcx.out
  obtain ⟨W, hW⟩ : ∃ W, W = (((w.alloc (.cells #[.int .i64 c0.k, .int .i64 c0.m, .int .i64 c0.z, .int .i64 c0.s, .int .i64 c0.t, .int .i64 c0.o] 23)).alloc (.cells #[.int .i64 ar1, .int .i64 ep1, .slice oa L1.length oc] 41)).alloc (.cells #[.int .i64 rk, .string ⟨ky.toArray⟩, .int .i64 rl, .slice sa st.length sc] 38)).alloc (.cells #[.int .i64 ar7, .int .i64 ep7, .slice pa L7.length pc] 41) := ⟨_, rfl⟩
  have T3 := hidI (boxesC_laid w c0 ar1 ep1 (.slice oa L1.length oc) ⟨⟨rk, ky, rl, st⟩, .slice sa st.length sc⟩ ar7 ep7 (.slice pa L7.length pc) hW)
  have HWF := hidI w0
  have HWA := hidI wa1
  have HWA7 := hidI wa7
  have HW4 := hidI w4
  clear w0 w1 w2 w3 w4 w5 w7 wa1 we1 wa7 we7 hsx
  obtain ⟨k, m, z, s, t, o⟩ := c0
  simp only at hW
  rw [aggE] at KSm KC ⊢
  rw [show aggR ⟨⟨rk, ky, rl, st⟩, .slice sa st.length sc⟩ = .agg #[.int .i64 rk, .string ⟨ky.toArray⟩, .int .i64 rl, .slice sa st.length sc] from rfl]
  go_enter Tryz.func5, Tryz.ntmps5
  go_wp2_with fail
  rw [← hW]
  clear hW
  refine awake18_any.mono ?_
  rintro e v0 ⟨rfl, b0⟩
  obtain ⟨⟨⟨y0, y1, y2, y3, y4, y5⟩, e0, e1, e2, f0, f1, f2, f3, j0, j1, j2⟩, Z1⟩ := T3.out v0 b0
  simp only at y0 y1 y2 y3 y4 y5 f0 f1 f2 f3
  have K := KSm v0
  clear KSm
  go_wp2_with fail
  refine K.mono ?_
  clear K
  rintro _ v1 ⟨rfl, b1⟩
  have B1 := hidI (b0.step16 b1 b0.size)
  clear b0 b1
  clear y0 y1 y2 y3 y4 y5 e0 e1 e2 f0 f1 f2 f3 j0 j1 j2 Z1
  obtain ⟨⟨⟨y0, y1, y2, y3, y4, y5⟩, e0, e1, e2, f0, f1, f2, f3, j0, j1, j2⟩, Z1⟩ := T3.out v1 B1.out
  simp only at y0 y1 y2 y3 y4 y5 f0 f1 f2 f3
  cases sx with
  | false =>
    clear KC hcx B1 T3 HO HL H5 H7 HC3
    exact mc_ret
  | true =>
  have K := KC v1
  clear KC
  go_wp2_with fail
  refine K.mono ?_
  clear K
  rintro _ v2 ⟨rfl, b2⟩
  have B2 := hidI (B1.out.step16 b2 B1.out.size)
  clear b2 B1
  clear y0 y1 y2 y3 y4 y5 e0 e1 e2 f0 f1 f2 f3 j0 j1 j2 Z1
  obtain ⟨⟨⟨y0, y1, y2, y3, y4, y5⟩, e0, e1, e2, f0, f1, f2, f3, j0, j1, j2⟩, Z1⟩ := T3.out v2 B2.out
  simp only at y0 y1 y2 y3 y4 y5 f0 f1 f2 f3
  by_cases hx : cx = 0
  rotate_left
  · have q1 : (cx == 0) = false := beq_eq_false_iff_ne.2 hx
    have q2 : (cx != 0) = true := by simp [bne, q1]
    clear T3 B2 hcx HO HL H5 H7 HC3
    exact mc_ret
  subst hx
  have HOK : Hid (okG ⟨k, m, z, s, t, o⟩) := by
    show okG _
    by_cases q : okG ⟨k, m, z, s, t, o⟩
    · exact q
    · have := hcx.out
      rw [show chG ⟨k, m, z, s, t, o⟩ = 50 from if_neg q] at this
      cases this
  clear hcx
  obtain ⟨sm, hsm⟩ : ∃ sm, Hid (decide (smM 0 0 ky.length st.length (oL L1)) = sm) := ⟨_, rfl⟩
  have K := msmall18_any (w := v2) (k := 0) (n := 0) (m := 0) (da := none) (ka := none) (sa := sa) (oa := oa) (ba := none) (ca := none) (dc := 0) (kc := 0) (sc := sc) (oc := oc) (bl := 0) (bc := 0) (cl := 0) (cc := 0) (rk := rk) (rl := rl) (ar := ar1) (ep := ep1) (q0 := 0) (q1 := 0) (q2 := 0) (q3 := 0) (q4 := 0) (L := L1) (HO.out.below Z1) hsm.out
  go_wp2_with fail
  refine K.mono ?_
  clear K
  rintro _ v3 ⟨rfl, b3⟩
  have B3 := hidI (B2.out.step16 b3 B2.out.size)
  clear b3 B2
  clear y0 y1 y2 y3 y4 y5 e0 e1 e2 f0 f1 f2 f3 j0 j1 j2 Z1
  obtain ⟨⟨⟨y0, y1, y2, y3, y4, y5⟩, e0, e1, e2, f0, f1, f2, f3, j0, j1, j2⟩, Z1⟩ := T3.out v3 B3.out
  simp only at y0 y1 y2 y3 y4 y5 f0 f1 f2 f3
  cases sm with
  | false =>
    clear T3 B3 HO HL H5 H7 HC3
    exact mc_ret
  | true =>
  have HS := hidI (sm_st (of_decide_eq_true hsm.out))
  clear hsm
  obtain ⟨sm, hsm⟩ : ∃ sm, Hid (decide (smM 0 0 ([] : List UInt8).length 0 (oL L7)) = sm) := ⟨_, rfl⟩
  have K := msmall18_any (w := v3) (k := 0) (n := 0) (m := 0) (da := none) (ka := none) (sa := none) (oa := pa) (ba := none) (ca := none) (dc := 0) (kc := 0) (sc := 0) (oc := pc) (bl := 0) (bc := 0) (cl := 0) (cc := 0) (rk := 0) (rl := 0) (ar := ar7) (ep := ep7) (q0 := 0) (q1 := 0) (q2 := 0) (q3 := 0) (q4 := 0) (L := L7) (H7.out.below Z1) hsm.out
  go_wp2_with fail
  refine K.mono ?_
  clear K
  rintro _ v4 ⟨rfl, b4⟩
  have B4 := hidI (B3.out.step16 b4 B3.out.size)
  clear b4 B3
  clear y0 y1 y2 y3 y4 y5 e0 e1 e2 f0 f1 f2 f3 j0 j1 j2 Z1
  obtain ⟨⟨⟨y0, y1, y2, y3, y4, y5⟩, e0, e1, e2, f0, f1, f2, f3, j0, j1, j2⟩, Z1⟩ := T3.out v4 B4.out
  simp only at y0 y1 y2 y3 y4 y5 f0 f1 f2 f3
  cases sm with
  | false =>
    clear T3 B4 HO HL H5 H7 HC3
    exact mc_ret
  | true =>
  have HS7 := hidI (sm_st (of_decide_eq_true hsm.out))
  clear hsm
  by_cases h1 : (z5.length : Int) > 10
  · clear T3 B4 HO HL H5 H7 HC3
    exact mc_ret
  by_cases h2 : a4 < 0
  · clear T3 B4 HO HL H5 H7 HC3
    exact mc_ret
  clear y0 y1 y2 y3 y4 y5 e0 e1 e2 f0 f1 f2 f3 j0 j1 j2 Z1
  have HZ5 : Hid (z5.length ≤ 10) := by show _ ≤ _; omega
  go_wp2_with fail
  have d1 : decide ((z5.length : Int) > 10) = false := decide_eq_false (by omega)
  have d2 : decide (10 < (z5.length : Int)) = false := decide_eq_false (by omega)
  have d3 : decide (10 < z5.length) = false := decide_eq_false (by omega)
  have d4 : decide (a4 < 0) = false := decide_eq_false (by omega)
  simp only [d1, d2, d3, d4, Bool.or_false]
  clear d1 d2 d3 d4 h1 h2
  go_loopw [18] (fun i wr => ∃ r : Nat, r ≤ z2.length ∧ i = .int .i64 (r : Int) ∧ Hid (Below W.heap.size W wr)) (fun i _ => z2.length - (intOf i).toNat)
  case atStart => exact ⟨0, Nat.zero_le _, rfl, B4.out⟩
  case round =>
    clear B4
    obtain ⟨r, hr, rfl, hB⟩ := hrel
    have Z1 := (T3.out wr hB.out).2
    by_cases hlt : r < z2.length
    · have hlt' : (r : Int) < (z2.length : Int) := by omega
      obtain ⟨b, off, ea, hb, cz⟩ := (HL.out.below Z1).at hlt
      subst ea
      generalize z2.getD r default = c at cz
      obtain ⟨⟨kd, ky2, ln, st2⟩, vs⟩ := c
      obtain ⟨va, vc, e⟩ := cz.ok.rs.form
      simp only at e
      subst e
      have c0 : wr.cell? ⟨b, off + r * 4, none⟩ = some (.int .i64 kd) := cz.c0
      have c1 : wr.cell? ⟨b, off + r * 4 + 1, none⟩ = some (.string ⟨ky2.toArray⟩) := cz.c1
      have c2 : wr.cell? ⟨b, off + r * 4 + 2, none⟩ = some (.int .i64 ln) := cz.c2
      have c3 : wr.cell? ⟨b, off + r * 4 + 3, none⟩ = some (.slice va st2.length vc) := cz.c3
      obtain ⟨sn, hsn⟩ : ∃ sn, decide (smM 0 0 ky2.length st2.length (oL [])) = sn := ⟨_, rfl⟩
      have K := fun V => msmall18_any (w := V) (k := 0) (n := 0) (m := 0) (da := none) (ka := none) (sa := va) (oa := none) (ba := none) (ca := none) (dc := 0) (kc := 0) (sc := vc) (oc := 0) (bl := 0) (bc := 0) (cl := 0) (cc := 0) (rk := kd) (rl := ln) (ar := 0) (ep := 0) (q0 := 0) (q1 := 0) (q2 := 0) (q3 := 0) (q4 := 0) (L := []) (Or.inl ⟨none, 0, rfl, rfl⟩) hsn
      clear cz hsn
      go_wp2_with fail
      refine (K _).mono ?_
      clear K
      rintro _ w5 ⟨rfl, b5⟩
      have B5 := hidI (hB.out.step16 b5 hB.out.size)
      clear b5 hB c0 c1 c2 c3 Z1
      cases sn with
      | false =>
        have Z1 := (T3.out w5 B5.out).2
        clear T3 B5 HO HL H5 H7 HC3
        exact mc_ret
      | true =>
        have hll := rdR_len HL.out
        go_wp2
        go_roundw
        case rel => exact ⟨r + 1, by omega, by go_num, B5.out⟩
        case measure => simp [intOf]; omega
    · obtain ⟨wy, ewy⟩ : ∃ x, x = wr := ⟨_, rfl⟩
      subst ewy
      obtain rfl : r = z2.length := by omega
      have hge : ¬ (z2.length : Int) < (z2.length : Int) := by omega
      clear Z1
      go_wp2_with fail
      go_loopw [19] (fun i wr => ∃ r : Nat, r ≤ z5.length ∧ i = .int .i64 (r : Int) ∧ Hid (Below W.heap.size W wr)) (fun i _ => z5.length - (intOf i).toNat)
      case atStart => exact ⟨0, Nat.zero_le _, rfl, hB.out⟩
      case round =>
        clear hB
        obtain ⟨r, hr, rfl, hB⟩ := hrel
        have Z1 := (T3.out wr hB.out).2
        by_cases hlt : r < z5.length
        · have hlt' : (r : Int) < (z5.length : Int) := by omega
          obtain ⟨b, off, ea, hb, cz⟩ := (H5.out.below Z1).at hlt
          subst ea
          generalize z5.getD r default = c at cz
          obtain ⟨cv, cl⟩ := c
          obtain ⟨va, vc, e⟩ := cz.rd.form
          simp only at e
          subst e
          have c0 : wr.cell? ⟨b, off + r, none⟩ = some (.slice va cl.length vc) := cz.c
          clear cz
          by_cases h1 : (cl.length : Int) > 50
          · clear T3 hB HO HL H5 H7 HC3
            exact mc_ret
          · have hll := HZ5.out
            go_wp2
            go_roundw
            case rel => exact ⟨r + 1, by omega, by go_num, hB.out⟩
            case measure => simp [intOf]; omega
        · obtain ⟨wz, ewz⟩ : ∃ x, x = wr := ⟨_, rfl⟩
          subst ewz
          obtain rfl : r = z5.length := by omega
          have hge : ¬ (z5.length : Int) < (z5.length : Int) := by omega
          clear Z1
          obtain ⟨⟨⟨y0, y1, y2, y3, y4, y5⟩, e0, e1, e2, f0, f1, f2, f3, j0, j1, j2⟩, Z1⟩ := T3.out wz hB.out
          simp only at y0 y1 y2 y3 y4 y5 f0 f1 f2 f3
          have HSL : Hid (L1.length ≤ 20 ∧ ∀ i, i < L1.length → (L1.getD i default).o.st.length ≤ 1000000) := ⟨HS.out.1, fun i hi => Nat.le_trans (HS.out.2 i hi) (by decide)⟩
          have HSL7 : Hid (L7.length ≤ 20 ∧ ∀ i, i < L7.length → (L7.getD i default).o.st.length ≤ 1000000) := ⟨HS7.out.1, fun i hi => Nat.le_trans (HS7.out.2 i hi) (by decide)⟩
          have K := laid18_any (w := wz) HWF.out HOK.out HWA.out (ep := ep1) (HO.out.below Z1) HSL.out.2 (HL.out.below Z1)
          obtain ⟨RS, hRS⟩ : ∃ RS, Hid (z2.map (·.r) = RS) := ⟨_, rfl⟩
          have RSL : Hid (RS.length = z2.length) := by show _ = _; rw [← hRS.out, List.length_map]
          have KO := kp_ok ⟨k, m, z, s, t, o⟩ RS
          rw [hRS.out] at K
          obtain ⟨A2, hA2⟩ : ∃ A2, Hid (svS (lbS (newA (nT ⟨k, m, z, s, t, o⟩) (secG ⟨k, m, z, s, t, o⟩).toNat) (ldl (nT ⟨k, m, z, s, t, o⟩))) ⟨k, m, z, s, t, o⟩ ar1 ep1 (oL L1) = A2) := ⟨_, rfl⟩
          obtain ⟨X, hX⟩ : ∃ X, Hid (svX (lbS (newA (nT ⟨k, m, z, s, t, o⟩) (secG ⟨k, m, z, s, t, o⟩).toNat) (ldl (nT ⟨k, m, z, s, t, o⟩))) ⟨k, m, z, s, t, o⟩ ar1 ep1 (oL L1) = X) := ⟨_, rfl⟩
          rw [hA2.out, hX.out] at K
          have HN18 : Hid (nwA18 ⟨k, m, z, s, t, o⟩ ar1 ep1 (oL L1) = A2) := hA2.out
          have HXP : Hid (X = 0 → svP ⟨k, m, z, s, t, o⟩ ar1 ep1 (oL L1) = 0) := fun hx => sv_zeroP (hX.out.trans hx)
          clear hA2 hX
          rw [aggE] at K
          go_wp2_with fail
          refine K.mono ?_
          clear K
          clear y0 y1 y2 y3 y4 y5 e0 e1 e2 f0 f1 f2 f3 j0 j1 j2 Z1
          rintro _ wl ⟨hK, bl⟩
          have T4 := T3
          clear T3
          have T3 := hidI (fun V (bV : Below wz.heap.size wz V) => T4.out V (hB.out.step16 bV hB.out.size))
          clear T4 hB
          obtain ⟨⟨⟨y0, y1, y2, y3, y4, y5⟩, e0, e1, e2, f0, f1, f2, f3, j0, j1, j2⟩, Z1⟩ := T3.out wl bl
          simp only at y0 y1 y2 y3 y4 y5 f0 f1 f2 f3
          rcases hK with ⟨rfl, ab, GA, rfl, S0⟩ | ⟨hx, rfl⟩
          rotate_left
          · clear T3 HXP HN18 KO bl HO HL H5 H7 HC3
            exact mc_ret
          have HP := hidI (HXP.out rfl)
          rw [RSL.out] at S0
          rw [RSL.out]
          have KO3 := hidI (KO (min 20 z2.length))
          obtain ⟨⟨A3, cn⟩, hA3⟩ : ∃ P, ldA A2 ⟨k, m, z, s, t, o⟩ ep1 RS (min 20 z2.length) = P := ⟨_, rfl⟩
          obtain ⟨KR, hKR⟩ : ∃ P, kpL ⟨k, m, z, s, t, o⟩ RS (min 20 z2.length) = P := ⟨_, rfl⟩
          have HKR : Hid (kpL ⟨k, m, z, s, t, o⟩ (z2.map (·.r)) (min 20 z2.length) = KR) := by rw [hRS.out]; exact hKR
          have HKL : Hid (KR.length ≤ 20) := by
            show _ ≤ _
            rw [← hKR]
            have := (kp_le ⟨k, m, z, s, t, o⟩ RS (min 20 z2.length)).2
            omega
          have HAL : Hid ((ldA (nwA18 ⟨k, m, z, s, t, o⟩ ar1 ep1 (oL L1)) ⟨k, m, z, s, t, o⟩ ep1 RS (min 20 z2.length)).1 = A3) := by show _ = _; rw [HN18.out, hA3]
          have HCN : Hid ((kpL ⟨k, m, z, s, t, o⟩ RS (min 20 z2.length)).length = cn) := by
            have h := (laid_uni (l := RS) HOK.out HP.out (min 20 z2.length)).2.1
            rw [HN18.out, hA3] at h
            exact h.symm
          rw [hKR] at KO3
          rw [hA3] at S0 ⊢
          simp only at S0 ⊢
          have HES := hidI (fun (hne : ¬ svX (caA A3 a4) ⟨k, m, z, s, t, o⟩ (1 - ar1) ep7 (oL L7) = 1) (hlt : ep1 < ep7) a2 b K (h2 : svS (caA A3 a4) ⟨k, m, z, s, t, o⟩ (1 - ar1) ep7 (oL L7) = a2) (hb : reAS a2 K = b) => cuts_end_s (l := RS) HOK.out HP.out rfl hlt (min 20 z2.length) HAL.out hne h2 hb)
          have HEA : Hid (OkR ⟨rk, ky, rl, st⟩ → (cn : Int) < t → ∀ a2 b K, apS (caA A3 a4) ⟨k, m, z, s, t, o⟩ ep1 (cn : Int) ⟨rk, ky, rl, st⟩ = a2 → reAS a2 K = b → b.off = false ∧ ltX b ⟨k, m, z, s, t, o⟩ (knL b) = 0 ∧ (ltA b ⟨k, m, z, s, t, o⟩ (knL b)).ep = ep1 ∧ (ltA b ⟨k, m, z, s, t, o⟩ (knL b)).ob = oL L1 ∧ rlX b ⟨k, m, z, s, t, o⟩ (knL b) ep1 = 0 ∧ (rlR b ⟨k, m, z, s, t, o⟩ (knL b) ep1 = KR ∨ rlR b ⟨k, m, z, s, t, o⟩ (knL b) ep1 = KR ++ [⟨rk, ky, rl, st⟩])) := fun hr hct a2 b K h2 hb => by
            have h := cuts_end_a (l := RS) (cn := cn) HOK.out HP.out hr (min 20 z2.length) HAL.out HCN.out hct h2 hb
            rw [hKR] at h
            exact h
          have HCL : Hid (cn ≤ 20) := by
            show _ ≤ _
            rw [← HCN.out, hKR]; exact HKL.out
          obtain ⟨_, ar01, ar02, _⟩ := sv_may HP.out
          have gs : IntKind.i64.wrap (1 - ar1) = 1 - ar1 := by rw [IntKind.wrap_i64]; omega
          clear ar01 ar02 KO hA3 hKR hRS RSL HXP HN18 HAL HCN
          have HS0 := hidI S0
          have HBl := hidI bl
          clear S0 bl
          by_cases q1 : ar7 = 1 - ar1
          rotate_left
          · clear T3 HES HEA HS0 HBl HO HL H5 H7 HC3
            exact mc_ret
          subst q1
          by_cases q2 : ep7 ≤ ep1
          · clear T3 HES HEA HS0 HBl HO HL H5 H7 HC3
            exact mc_ret
          obtain ⟨xr, hxr⟩ : ∃ x, Hid (chR ⟨rk, ky, rl, st⟩ = x) := ⟨_, rfl⟩
          have K : Calls Tryz.prog _ #[.agg #[.int .i64 rk, .string ⟨ky.toArray⟩, .int .i64 rl, .slice sa st.length sc]] wl (fun e w' => e = .returned (.int .i64 xr) ∧ Below wl.heap.size wl w') := chk16_any (c := ⟨⟨rk, ky, rl, st⟩, .slice sa st.length sc⟩) (HC3.out.below Z1) hxr.out
          go_wp2_with fail
          refine K.mono ?_
          clear K
          clear y0 y1 y2 y3 y4 y5 e0 e1 e2 f0 f1 f2 f3 j0 j1 j2 Z1
          rintro _ wm ⟨rfl, bm⟩
          have Sm := hidI (HS0.out.below bm)
          have Bm := hidI (HBl.out.step16 bm HBl.out.size)
          clear bm HS0 HBl
          obtain ⟨⟨⟨y0, y1, y2, y3, y4, y5⟩, e0, e1, e2, f0, f1, f2, f3, j0, j1, j2⟩, Z1⟩ := T3.out wm Bm.out
          simp only at y0 y1 y2 y3 y4 y5 f0 f1 f2 f3
          by_cases hxx : xr = 0
          rotate_left
          · have q3 : (xr == 0) = false := beq_eq_false_iff_ne.2 hxx
            have q4 : (xr != 0) = true := by simp [bne, q3]
            clear T3 HES HEA Sm Bm hxr HO HL H5 H7 HC3
            exact mc_ret
          subst hxx
          have HRO : Hid (OkR ⟨rk, ky, rl, st⟩) := by
            show OkR _
            by_cases q : OkR ⟨rk, ky, rl, st⟩
            · exact q
            · have := hxr.out
              rw [show chR ⟨rk, ky, rl, st⟩ = 1 from if_neg q] at this
              cases this
          clear hxr
          by_cases q5 : (cn : Int) ≥ t
          · clear T3 HES HEA Sm Bm HO HL H5 H7 HC3
            exact mc_ret
          have HEA2 := hidI (HEA.out HRO.out (by omega))
          have HES2 := hidI (fun hne => HES.out hne (by omega))
          have HLT : Hid (ep1 < ep7) := by show _ < _; omega
          clear HEA HES
          have K := kept18_any (w := wm) (g := ⟨k, m, z, s, t, o⟩) (HL.out.below Z1)
          rw [HKR.out, aggE] at K
          go_wp2_with fail
          refine K.mono ?_
          clear K HKR
          clear y0 y1 y2 y3 y4 y5 e0 e1 e2 f0 f1 f2 f3 j0 j1 j2 Z1
          rintro _ wk ⟨uv, LK, rfl, owk, oqk, ek, eck, bk⟩
          have lk : LK.length = KR.length := by rw [← List.length_map (f := (·.r)), ek]
          have RU := owk.rd (by have := HKL.out; omega)
          obtain ⟨ua, uc, euv⟩ := RU.form
          subst euv
          have HOWK := hidI owk
          have HEK := hidI ek
          have HLK := hidI lk
          have HOQ : Hid (∀ q, Value.ownBlock (.slice ua LK.length uc) = some q → ¬ GA q) := fun q hq hg => by have h1 := oqk q hq; have h2 := Sm.out.at_.lt _ hg; omega
          have HIN : Hid (∀ V, Below wz.heap.size wz V → ∀ c ∈ LK, RcV.In V c) := fun V bV c hc => (rdR_in HL.out c (eck c hc)).below (T3.out V bV).2
          have Sk := hidI (Sm.out.below bk)
          have Bk := hidI (Bm.out.step16 bk Bm.out.size)
          clear owk oqk ek eck lk RU Sm Bm bk
          have K := aafter_any Sk.out.at_ HW4.out
          obtain ⟨aC, haC⟩ : ∃ aC, caA A3 a4 = aC := ⟨_, rfl⟩
          rw [haC] at K HEA2 HES2
          clear haC
          go_wp2_with fail
          refine K.mono ?_
          clear K
          rintro _ wc ⟨rfl, GC, AC, gC⟩
          have Sc := hidI (Sk.out.grew AC gC)
          have Bc := hidI (Bk.out.trans (Sk.out.bel gC))
          have Gc := hidI gC
          clear AC gC Sk Bk
          cases a6 with
          | true =>
            obtain ⟨⟨⟨y0, y1, y2, y3, y4, y5⟩, e0, e1, e2, f0, f1, f2, f3, j0, j1, j2⟩, Z1⟩ := T3.out wc Bc.out
            simp only at y0 y1 y2 y3 y4 y5 f0 f1 f2 f3
            have K := msave_any Sc.out.at_ HWF.out HWA7.out (ep := ep7) (H7.out.below Z1) HSL7.out.2
            obtain ⟨aD, haD⟩ : ∃ a, svS aC ⟨k, m, z, s, t, o⟩ (1 - ar1) ep7 (oL L7) = a := ⟨_, rfl⟩
            obtain ⟨xs, hxs⟩ : ∃ x, svX aC ⟨k, m, z, s, t, o⟩ (1 - ar1) ep7 (oL L7) = x := ⟨_, rfl⟩
            rw [haD, hxs] at K
            rw [hxs] at HES2
            rw [aggE] at K
            go_wp2_with fail
            refine K.mono ?_
            clear K
            clear y0 y1 y2 y3 y4 y5 e0 e1 e2 f0 f1 f2 f3 j0 j1 j2 Z1
            rintro _ wd ⟨rfl, GD, AD, gD⟩
            have Sd := hidI (Sc.out.grew AD gD)
            have Bd := hidI (Bc.out.trans (Sc.out.bel gD))
            clear AD gD Sc Bc Gc HOWK HOQ HIN HEK HLK
            by_cases hx1 : xs = 1
            · have Z1 := (T3.out wd Bd.out).2
              clear T3 HES2 HEA2 Sd Bd HO HL H5 H7 HC3
              exact mc_ret
            have hx2 : (xs == 1) = false := beq_eq_false_iff_ne.2 hx1
            have HEB := hidI (fun b (hb : reAS aD (z5.map (·.2)) = b) => HES2.out hx1 aD b (z5.map (·.2)) haD hb)
            clear HES2 HEA2 haD hxs
            have HKz := hidI (H5.out.below (T3.out wz (Below.refl _ _)).2)
            have K := arestart_any Sd.out.at_ (v := .slice a5 z5.length cap5) (K := z5) (ToldII.old HKz.out Sd.out.low Bd.out) (fun r hr => RdII.short18 H5.out hr)
            obtain ⟨bA, hbA⟩ : ∃ b, reAS aD (z5.map (·.2)) = b := ⟨_, rfl⟩
            rw [hbA] at K
            have HF := HEB.out bA hbA
            clear HEB hbA HKz
            go_wp2_with fail
            refine K.mono ?_
            clear K
            rintro _ we ⟨rfl, GE, AE, gE⟩
            have Se := hidI (Sd.out.grew AE gE)
            have Be := hidI (Bd.out.trans (Sd.out.bel gE))
            clear AE gE Sd Bd
            have K := mknows_any Se.out.at_
            rw [(km_on HF.1).1] at K
            obtain ⟨KL, hKL⟩ : ∃ KL, knL bA = KL := ⟨_, rfl⟩
            rw [hKL] at K HF
            clear hKL
            have HFX := hidI HF
            clear HF
            go_wp2_with fail
            refine K.mono ?_
            clear K
            rintro _ wf ⟨kv, rfl, RK, _, bf⟩
            obtain ⟨ka, kc, ekv⟩ := RK.form
            subst ekv
            have Sf := hidI (Se.out.below bf)
            have Bf := hidI (Be.out.step16 bf Be.out.size)
            have HRK := hidI RK
            have K := mlatest_any Sf.out.at_ HWF.out RK
            obtain ⟨TA, hTA⟩ : ∃ A, ltA bA ⟨k, m, z, s, t, o⟩ KL = A := ⟨_, rfl⟩
            rw [HFX.out.2.1, hTA] at K
            rw [hTA] at HFX
            obtain ⟨t1, t2, t3, t4, t5⟩ := TA
            rw [aggE] at K
            obtain ⟨⟨⟨y0, y1, y2, y3, y4, y5⟩, e0, e1, e2, f0, f1, f2, f3, j0, j1, j2⟩, Z1⟩ := T3.out wf Bf.out
            simp only at y0 y1 y2 y3 y4 y5 f0 f1 f2 f3
            clear hTA bf Se Be RK
            go_wp2_with fail
            refine K.mono ?_
            clear K
            clear y0 y1 y2 y3 y4 y5 e0 e1 e2 f0 f1 f2 f3 j0 j1 j2 Z1
            rintro _ wg ⟨tv, LT, rfl, rf, el, bg⟩
            simp only at el
            obtain ⟨ta, tc, etv⟩ := rf.form
            subst etv
            have HEL : Hid (oL LT = t3) := el
            obtain ⟨wh, hwh⟩ : ∃ x, x = wg.alloc (.cells #[.int .i64 t1, .int .i64 t2, .slice ta LT.length tc] 41) := ⟨_, rfl⟩
            have qh : Below wg.heap.size wg wh := by rw [hwh]; exact belR _ _
            have bh := bg.step16 qh bg.size
            obtain ⟨Y, hY⟩ : ∃ Y, Hid (Y = wg.heap.size) := ⟨_, rfl⟩
            have lY : Hid (Y < wh.heap.size) := by show Y < _; rw [hY.out, hwh]; simp
            have cY : Hid (∀ j, wh.cell? ⟨Y, j, none⟩ = (#[.int .i64 t1, .int .i64 t2, .slice ta LT.length tc] : Array Value)[j]?) := fun j => by rw [hwh, hY.out]; exact World.cell?_alloc_new _ _ _ _
            have CY : Hid (∀ V, Below wh.heap.size wh V → V.cell? ⟨Y, 0, none⟩ = some (.int .i64 t1) ∧ V.cell? ⟨Y, 1, none⟩ = some (.int .i64 t2) ∧ V.cell? ⟨Y, 2, none⟩ = some (.slice ta LT.length tc)) := fun V b => ⟨(b.cell (p := ⟨Y, 0, none⟩) lY.out).trans (cY.out 0), (b.cell (p := ⟨Y, 1, none⟩) lY.out).trans (cY.out 1), (b.cell (p := ⟨Y, 2, none⟩) lY.out).trans (cY.out 2)⟩
            have RT := hidI (rf.1.below qh)
            have Sh := hidI (Sf.out.below bh)
            have Bh := hidI (Bf.out.step16 bh Bf.out.size)
            have HWH := hidI hwh
            have LS : Hid (LT.length ≤ 1000 ∧ ∀ i, i < LT.length → (LT.getD i default).o.st.length ≤ 1000000) := by
              rcases HFX.out.2.2 with ⟨_, h⟩ | ⟨_, h⟩
              · obtain ⟨x1, x2⟩ := oL_st (HEL.out.trans h) HS.out.2
                exact ⟨by have := HS.out.1; omega, x2⟩
              · obtain ⟨x1, x2⟩ := oL_st (HEL.out.trans h) HS7.out.2
                exact ⟨by have := HS7.out.1; omega, x2⟩
            clear Sf Bf HRK bg qh bh rf el lY cY
            obtain ⟨⟨⟨y0, y1, y2, y3, y4, y5⟩, e0, e1, e2, f0, f1, f2, f3, j0, j1, j2⟩, Z1⟩ := T3.out wh Bh.out
            simp only at y0 y1 y2 y3 y4 y5 f0 f1 f2 f3
            obtain ⟨g0, g1, g2⟩ := CY.out wh (Below.refl _ _)
            have K := robjs16_any RT.out (HO.out.below Z1) LS.out.1 LS.out.2 HSL.out.2
            rw [hwh] at K g0 g1 g2 e2
            clear hwh y0 y1 y2 y3 y4 y5 e0 e1 f0 f1 f2 f3 j0 j1 j2 Z1 g0 g1
            go_wp2_with fail
            rw [← hY.out]
            refine K.mono ?_
            clear K g2 e2
            rintro _ wi ⟨x1, rfl, hx1', bi⟩
            rw [← HWH.out] at bi
            have HX1 := hidI hx1'
            have Bi := hidI bi
            clear hx1' bi
            obtain ⟨⟨⟨y0, y1, y2, y3, y4, y5⟩, e0, e1, e2, f0, f1, f2, f3, j0, j1, j2⟩, Z1⟩ := T3.out wi (Bh.out.step16 Bi.out Bh.out.size)
            simp only at y0 y1 y2 y3 y4 y5 f0 f1 f2 f3
            obtain ⟨g0, g1, g2⟩ := CY.out wi Bi.out
            have K := robjs16_any (RT.out.below Bi.out) (H7.out.below Z1) LS.out.1 LS.out.2 HSL7.out.2
            clear y0 y1 y2 y3 y4 y5 e0 e1 e2 f0 f1 f2 f3 j0 j1 Z1 g0 g1
            go_wp2_with fail
            refine K.mono ?_
            clear K g2 j2
            rintro _ wj ⟨x2, rfl, hx2', bj⟩
            have HX2 := hidI hx2'
            have Bj := hidI (Bi.out.step16 bj Bi.out.size)
            clear hx2' bj Bi LS RT
            obtain ⟨⟨⟨y0, y1, y2, y3, y4, y5⟩, e0, e1, e2, f0, f1, f2, f3, j0, j1, j2⟩, Z1⟩ := T3.out wj (Bh.out.step16 Bj.out Bh.out.size)
            obtain ⟨g0, g1, g2⟩ := CY.out wj Bj.out
            have D : (x1 = true ∧ t2 = ep1) ∨ (x2 = true ∧ t2 = ep7) := by
              rcases HFX.out.2.2 with ⟨h, h'⟩ | ⟨h, h'⟩
              · exact Or.inl ⟨HX1.out.2 (HEL.out.trans h'), h⟩
              · exact Or.inr ⟨HX2.out.2 (HEL.out.trans h'), h⟩
            clear y0 y1 y2 y3 y4 y5 e0 e2 f0 f1 f2 f3 j0 j2 g0 g2 T3 CY Sh Bh Bj HFX HX1 HX2 HEL HO HL H5 H7 HC3
            rcases D with ⟨rfl, rfl⟩ | ⟨rfl, rfl⟩
            · exact mc_ret
            · have hlt : ep1 < t2 := HLT.out
              have hne : ¬ t2 = ep1 := by omega
              have hne2 : (t2 == ep1) = false := beq_eq_false_iff_ne.2 hne
              clear hlt HLT
              exact mc_ret
          | false =>
            obtain ⟨⟨⟨y0, y1, y2, y3, y4, y5⟩, e0, e1, e2, f0, f1, f2, f3, j0, j1, j2⟩, Z1⟩ := T3.out wc Bc.out
            simp only at y0 y1 y2 y3 y4 y5 f0 f1 f2 f3
            have K := mappend_any Sc.out.at_ HWF.out (base := ep1) (count := (cn : Int)) (wf64 (by omega) (by have := HCL.out; omega)) (HC3.out.below Z1)
            obtain ⟨aD, haD⟩ : ∃ a, apS aC ⟨k, m, z, s, t, o⟩ ep1 (cn : Int) ⟨rk, ky, rl, st⟩ = a := ⟨_, rfl⟩
            obtain ⟨xs, hxs⟩ : ∃ x, apX aC ⟨k, m, z, s, t, o⟩ ep1 (cn : Int) ⟨rk, ky, rl, st⟩ = x := ⟨_, rfl⟩
            simp only at K
            rw [haD, hxs] at K
            rw [aggE, show aggR ⟨⟨rk, ky, rl, st⟩, .slice sa st.length sc⟩ = .agg #[.int .i64 rk, .string ⟨ky.toArray⟩, .int .i64 rl, .slice sa st.length sc] from rfl] at K
            go_wp2_with fail
            refine K.mono ?_
            clear K
            clear y0 y1 y2 y3 y4 y5 e0 e1 e2 f0 f1 f2 f3 j0 j1 j2 Z1
            rintro _ wd ⟨rfl, GD, AD, gD⟩
            have Sd := hidI (Sc.out.grew AD gD)
            have Bd := hidI (Bc.out.trans (Sc.out.bel gD))
            have Gd := hidI (Gc.out.trans gD)
            clear AD gD Sc Bc Gc
            have HEB := hidI (fun b (hb : reAS aD (z5.map (·.2)) = b) => HEA2.out aD b (z5.map (·.2)) haD hb)
            clear HES2 HEA2 haD hxs
            have HKz := hidI (H5.out.below (T3.out wz (Below.refl _ _)).2)
            have K := arestart_any Sd.out.at_ (v := .slice a5 z5.length cap5) (K := z5) (ToldII.old HKz.out Sd.out.low Bd.out) (fun r hr => RdII.short18 H5.out hr)
            obtain ⟨bA, hbA⟩ : ∃ b, reAS aD (z5.map (·.2)) = b := ⟨_, rfl⟩
            rw [hbA] at K
            have HF := HEB.out bA hbA
            clear HEB hbA HKz
            go_wp2_with fail
            refine K.mono ?_
            clear K
            rintro _ we ⟨rfl, GE, AE, gE⟩
            have Se := hidI (Sd.out.grew AE gE)
            have Be := hidI (Bd.out.trans (Sd.out.bel gE))
            have Ge := hidI (Gd.out.trans gE)
            clear AE gE Sd Bd Gd
            have K := mknows_any Se.out.at_
            rw [(km_on HF.1).1] at K
            obtain ⟨KL, hKL⟩ : ∃ KL, knL bA = KL := ⟨_, rfl⟩
            rw [hKL] at K HF
            clear hKL
            have HFX := hidI HF
            clear HF
            go_wp2_with fail
            refine K.mono ?_
            clear K
            rintro _ wf ⟨kv, rfl, RK, _, bf⟩
            obtain ⟨ka, kc, ekv⟩ := RK.form
            subst ekv
            have Sf := hidI (Se.out.below bf)
            have Bf := hidI (Be.out.step16 bf Be.out.size)
            have Gf' := hidI (Ge.out.trans (Grew.of_below (G := GE) bf))
            have HRK := hidI RK
            have K := mlatest_any Sf.out.at_ HWF.out RK
            obtain ⟨TA, hTA⟩ : ∃ A, ltA bA ⟨k, m, z, s, t, o⟩ KL = A := ⟨_, rfl⟩
            rw [HFX.out.2.1, hTA] at K
            rw [hTA] at HFX
            obtain ⟨t1, t2, t3, t4, t5⟩ := TA
            rw [aggE] at K
            obtain ⟨⟨⟨y0, y1, y2, y3, y4, y5⟩, e0, e1, e2, f0, f1, f2, f3, j0, j1, j2⟩, Z1⟩ := T3.out wf Bf.out
            simp only at y0 y1 y2 y3 y4 y5 f0 f1 f2 f3
            clear hTA bf Se Be RK Ge
            go_wp2_with fail
            refine K.mono ?_
            clear K
            clear y0 y1 y2 y3 y4 y5 e0 e1 e2 f0 f1 f2 f3 j0 j1 j2 Z1
            rintro _ wg ⟨tv, LT, rfl, rf, el, bg⟩
            simp only at el
            obtain ⟨ta, tc, etv⟩ := rf.form
            subst etv
            have HEL : Hid (oL LT = t3) := el
            obtain ⟨wh, hwh⟩ : ∃ x, x = wg.alloc (.cells #[.int .i64 t1, .int .i64 t2, .slice ta LT.length tc] 41) := ⟨_, rfl⟩
            have qh : Below wg.heap.size wg wh := by rw [hwh]; exact belR _ _
            have bh := bg.step16 qh bg.size
            obtain ⟨Y, hY⟩ : ∃ Y, Hid (Y = wg.heap.size) := ⟨_, rfl⟩
            have lY : Hid (Y < wh.heap.size) := by show Y < _; rw [hY.out, hwh]; simp
            have cY : Hid (∀ j, wh.cell? ⟨Y, j, none⟩ = (#[.int .i64 t1, .int .i64 t2, .slice ta LT.length tc] : Array Value)[j]?) := fun j => by rw [hwh, hY.out]; exact World.cell?_alloc_new _ _ _ _
            have CY : Hid (∀ V, Below wh.heap.size wh V → V.cell? ⟨Y, 0, none⟩ = some (.int .i64 t1) ∧ V.cell? ⟨Y, 1, none⟩ = some (.int .i64 t2) ∧ V.cell? ⟨Y, 2, none⟩ = some (.slice ta LT.length tc)) := fun V b => ⟨(b.cell (p := ⟨Y, 0, none⟩) lY.out).trans (cY.out 0), (b.cell (p := ⟨Y, 1, none⟩) lY.out).trans (cY.out 1), (b.cell (p := ⟨Y, 2, none⟩) lY.out).trans (cY.out 2)⟩
            have RT := hidI (rf.1.below qh)
            have Sh := hidI (Sf.out.below bh)
            have Bh := hidI (Bf.out.step16 bh Bf.out.size)
            have Gh := hidI (Gf'.out.trans (Grew.of_below (G := GE) bh))
            have Rh := hidI (HRK.out.below bh)
            have HWH := hidI hwh
            have LS : Hid (LT.length ≤ 1000 ∧ ∀ i, i < LT.length → (LT.getD i default).o.st.length ≤ 1000000) := by
              obtain ⟨x1, x2⟩ := oL_st (HEL.out.trans HFX.out.2.2.2.1) HS.out.2
              exact ⟨by have := HS.out.1; omega, x2⟩
            clear Sf Bf HRK bg qh bh rf el lY cY Gf'
            obtain ⟨⟨⟨y0, y1, y2, y3, y4, y5⟩, e0, e1, e2, f0, f1, f2, f3, j0, j1, j2⟩, Z1⟩ := T3.out wh Bh.out
            simp only at y0 y1 y2 y3 y4 y5 f0 f1 f2 f3
            obtain ⟨g0, g1, g2⟩ := CY.out wh (Below.refl _ _)
            have K := robjs16_any RT.out (HO.out.below Z1) LS.out.1 LS.out.2 HSL.out.2
            rw [hwh] at K g0 g1 g2 e2
            clear hwh y0 y1 y2 y3 y4 y5 e0 e1 f0 f1 f2 f3 j0 j1 j2 Z1 g0 g1
            go_wp2_with fail
            rw [← hY.out]
            refine K.mono ?_
            clear K g2 e2
            rintro _ wi ⟨x1, rfl, hx1', bi⟩
            rw [← HWH.out] at bi
            have HX1 := hidI hx1'
            have Bi := hidI bi
            clear hx1' bi
            obtain ⟨⟨⟨y0, y1, y2, y3, y4, y5⟩, e0, e1, e2, f0, f1, f2, f3, j0, j1, j2⟩, Z1⟩ := T3.out wi (Bh.out.step16 Bi.out Bh.out.size)
            simp only at y0 y1 y2 y3 y4 y5 f0 f1 f2 f3
            obtain ⟨g0, g1, g2⟩ := CY.out wi Bi.out
            have K := robjs16_any (RT.out.below Bi.out) (H7.out.below Z1) LS.out.1 LS.out.2 HSL7.out.2
            clear y0 y1 y2 y3 y4 y5 e0 e1 e2 f0 f1 f2 f3 j0 j1 Z1 g0 g1
            go_wp2_with fail
            refine K.mono ?_
            clear K g2 j2
            rintro _ wj ⟨x2, rfl, hx2', bj⟩
            have HX2 := hidI hx2'
            have Bj := hidI (Bi.out.step16 bj Bi.out.size)
            clear hx2' bj Bi LS RT
            obtain ⟨⟨⟨y0, y1, y2, y3, y4, y5⟩, e0, e1, e2, f0, f1, f2, f3, j0, j1, j2⟩, Z1⟩ := T3.out wj (Bh.out.step16 Bj.out Bh.out.size)
            simp only at y0 y1 y2 y3 y4 y5 f0 f1 f2 f3
            have K := mreplay_any (Sh.out.below Bj.out).at_ HWF.out (Rh.out.below Bj.out) (base := ep1)
            obtain ⟨RL, hRL⟩ : ∃ R, rlR bA ⟨k, m, z, s, t, o⟩ KL ep1 = R := ⟨_, rfl⟩
            rw [HFX.out.2.2.2.2.1, hRL, aggE] at K
            have HRL : Hid (RL = KR ∨ RL = KR ++ [⟨rk, ky, rl, st⟩]) := by
              show RL = _ ∨ RL = _
              rw [← hRL]; exact HFX.out.2.2.2.2.2
            have HT2 : Hid (t2 = ep1) := HFX.out.2.2.1
            have HXO : Hid (x1 = true) := HX1.out.2 (HEL.out.trans HFX.out.2.2.2.1)
            have Gj := hidI (Gh.out.trans (Grew.of_below (G := GE) Bj.out))
            have BWj := hidI (Bh.out.step16 Bj.out Bh.out.size)
            clear hRL HFX HX1 HX2 HEL Sh Rh Gh
            go_wp2_with fail
            refine K.mono ?_
            clear K
            clear y0 y1 y2 y3 y4 y5 e0 e1 e2 f0 f1 f2 f3 j0 j1 j2 Z1
            rintro _ wn ⟨rv, LR, rfl, ow, er, bn⟩
            have HOKR : Hid (∀ x ∈ KR ++ [(⟨rk, ky, rl, st⟩ : RcS)], OkR x) := fun x hx => by
              rcases List.mem_append.1 hx with hx | hx
              · exact KO3.out x hx
              · simp only [List.mem_singleton] at hx
                rw [hx]; exact HRO.out
            have HRLO : Hid (LR.length ≤ 21 ∧ ∀ x ∈ LR.map (·.r), OkR x) := by
              refine ⟨?_, ?_⟩
              · rw [← List.length_map (f := (·.r)), er]
                rcases HRL.out with e | e
                · rw [e]; have := HKL.out; omega
                · rw [e, List.length_append]; have := HKL.out; simp; omega
              · rw [er]
                rcases HRL.out with e | e
                · rw [e]; exact KO3.out
                · rw [e]; exact HOKR.out
            have RR := ow.rd (by have := HRLO.out.1; omega)
            obtain ⟨ra, rc, erv⟩ := RR.form
            subst erv
            have HRR := hidI RR
            have HER : Hid (LR.map (·.r) = KR ∨ LR.map (·.r) = KR ++ [⟨rk, ky, rl, st⟩]) := by rw [er]; exact HRL.out
            have Gn := hidI (Gj.out.trans (Grew.of_below (G := GE) bn))
            have Bn := hidI (BWj.out.step16 bn BWj.out.size)
            have Bjn := hidI (Bj.out.step16 bn Bj.out.size)
            clear ow er bn RR Gj BWj Bj HRL
            have OWN := hidI (HOWK.out.turnO Gn.out.turn HOQ.out (HIN.out wn Bn.out))
            have LKL : Hid (LK.length ≤ 20) := by rw [HLK.out]; exact HKL.out
            have OKK : Hid (∀ x ∈ LK.map (·.r), OkR x) := by rw [HEK.out]; exact KO3.out
            clear HOWK HOQ Gn
            have K := rrecs18_any HRR.out (OWN.out.rd (by have := LKL.out; omega)) (by have := HRLO.out.1; omega) (rL_st rfl HRLO.out.2) (rL_st rfl OKK.out)
            go_wp2_with fail
            refine K.mono ?_
            clear K
            rintro _ wo ⟨y1', rfl, hy1, bo⟩
            have Bo := hidI (Bn.out.step16 bo Bn.out.size)
            have Bjo := hidI (Bjn.out.step16 bo Bjn.out.size)
            have OWo := hidI (OWN.out.later bo)
            have HRo := hidI (HRR.out.below bo)
            have HY1 : Hid (y1' = true ↔ LR.map (·.r) = KR) := by rw [← HEK.out]; exact hy1
            clear bo hy1 Bn Bjn OWN HRR
            obtain ⟨⟨⟨y0, y1, y2, y3, y4, y5⟩, e0, e1, e2, f0, f1, f2, f3, j0, j1, j2⟩, Z1⟩ := T3.out wo Bo.out
            simp only at y0 y1 y2 y3 y4 y5 f0 f1 f2 f3
            clear y0 y1 y2 y3 y4 y5 e0 e1 e2 j0 j1 j2 Z1
            have IN3 : Hid (∀ V, Below wo.heap.size wo V → RcV.In V ⟨⟨rk, ky, rl, st⟩, .slice sa st.length sc⟩) := fun V b => HC3.out.below (T3.out V (Bo.out.step16 b Bo.out.size)).2
            have SF : Hid (∀ V, Below wo.heap.size wo V → (V.cell? ⟨w.heap.size + 1 + 1, 0, none⟩ = some (.int .i64 rk) ∧ V.cell? ⟨w.heap.size + 1 + 1, 1, none⟩ = some (.string ⟨ky.toArray⟩) ∧ V.cell? ⟨w.heap.size + 1 + 1, 2, none⟩ = some (.int .i64 rl) ∧ V.cell? ⟨w.heap.size + 1 + 1, 3, none⟩ = some (.slice sa st.length sc))) := fun V b => by
              obtain ⟨h, _⟩ := T3.out V (Bo.out.step16 b Bo.out.size)
              exact ⟨h.f0, h.f1, h.f2, h.f3⟩
            have FINC : Hid (∀ V, Below wo.heap.size wo V → V.cell? ⟨Y, 1, none⟩ = some (.int .i64 t2) ∧ V.cell? ⟨w.heap.size + 1, 1, none⟩ = some (.int .i64 ep1) ∧ Below w.heap.size w V) := fun V b => by
              obtain ⟨h, hz⟩ := T3.out V (Bo.out.step16 b Bo.out.size)
              exact ⟨(CY.out V (Bjo.out.step16 b Bjo.out.size)).2.1, h.e1, hz⟩
            have INK : Hid (∀ c ∈ LK, RcV.In wo c) := HIN.out wo Bo.out
            have EAP : Hid (((([] : List RcV) ++ LK) ++ [(⟨⟨rk, ky, rl, st⟩, .slice sa st.length sc⟩ : RcV)]).map (·.r) = KR ++ [⟨rk, ky, rl, st⟩]) := by
              show _ = _
              rw [List.nil_append, List.map_append, HEK.out]; rfl
            have INC : Hid (RcV.In wo ⟨⟨rk, ky, rl, st⟩, .slice sa st.length sc⟩) := IN3.out wo (Below.refl _ _)
            clear T3 CY HIN Bo Bjo IN3 HEK HL HO H5 H7 HC3 Bh
            go_wp2
            refine wp_region_held_drew (S := fun V => V.cell? ⟨w.heap.size + 1 + 1, 0, none⟩ = some (.int .i64 rk) ∧ V.cell? ⟨w.heap.size + 1 + 1, 1, none⟩ = some (.string ⟨ky.toArray⟩) ∧ V.cell? ⟨w.heap.size + 1 + 1, 2, none⟩ = some (.int .i64 rl) ∧ V.cell? ⟨w.heap.size + 1 + 1, 3, none⟩ = some (.slice sa st.length sc)) (by kernel_rfl) ⟨f0, f1, f2, f3⟩ (fun hHeld => ?_)
            clear f0 f1 f2 f3
            refine tkH 0 ?_
            refine tkH 2 ?_
            refine tkH 4 ?_
            clear hHeld
            refine rmH 1 5 (fun K' hK => ?_) fun K' hK => ?_
            · have bA : Below wo.heap.size wo (wo.alloc (.cells #[] 38)).drew := (belR _ _).drew
              have oA : OwnRc (wo.alloc (.cells #[] 38)).drew 0 (.slice (some ⟨wo.heap.size, 0, none⟩) 0 0) [] := (made_rc wo (Nat.zero_le _)).later ((Below.refl _ _).drew)
              have qA := own_at (n := 0) (c := 0) (Nat.le_refl wo.heap.size)
              go_simp
              refine koH hK (SF.out _ bA) fun hHeld => ?_
              clear hK K' hHeld
              refine rmH 3 5 (fun K' hK => ?_) fun K' hK => ?_
              · refine step_append_rcs rfl (.tmp 208) (.tmp 209) rfl 0 0 (.slice (some ⟨wo.heap.size, 0, none⟩) 0 0) [] rfl oA (.slice ua LK.length uc) LK rfl (OWo.out.later bA) (fun c hc => near_old (INK.out c hc) bA.size qA) (by have := LKL.out; simp; omega) (Nat.zero_le _) ?_
                intro v1 w1 o1 g1
                obtain ⟨b1, q1⟩ := ap18_after bA qA g1
                refine koH hK (SF.out _ b1) fun hHeld => ?_
                clear hK K' hHeld oA bA g1 qA
                have bl : Below w1.heap.size w1 (w1.alloc (.cells #[.int .i64 rk, .string ⟨ky.toArray⟩, .int .i64 rl, .slice sa st.length sc] 38)) := belR _ _
                have b2 := b1.step16 bl b1.size
                refine rnH 5 (fun K' hK => ?_)
                go_simp
                refine koH hK (SF.out _ b2) fun hHeld => ?_
                clear hK K' hHeld
                have ol := lit_rc w1 (base := 0) (c := ⟨⟨rk, ky, rl, st⟩, .slice sa st.length sc⟩) (INC.out.below b1) (Nat.zero_le _) (near_old INC.out b1.size (own_at b1.size))
                refine rnH 6 (fun K' hK => ?_)
                refine step_append_rcs rfl (.tmp 210) (.tmp 212) rfl 0 0 v1 ([] ++ LK) rfl (o1.later bl) (.slice (some ⟨w1.heap.size, 0, none⟩) 1 1) [⟨⟨rk, ky, rl, st⟩, .slice sa st.length sc⟩] rfl ol (fun c hc => by simp only [List.mem_singleton] at hc; rw [hc]; exact near_old INC.out b2.size q1) (by have := LKL.out; simp; omega) (Nat.zero_le _) ?_
                intro v2 w2 o2 g2
                obtain ⟨b3, q3⟩ := ap18_after b2 q1 g2
                clear g2 q3 q1 ol o1 b1 b2 bl
                exact mc_last
              · have b2 : Below wo.heap.size wo ((wo.alloc (.cells #[] 38)).alloc (.cells #[.int .i64 rk, .string ⟨ky.toArray⟩, .int .i64 rl, .slice sa st.length sc] 38)).drew := ((belR _ _).step16 (belR _ _) (by simp)).drew
                have o2' : OwnRc ((wo.alloc (.cells #[] 38)).alloc (.cells #[.int .i64 rk, .string ⟨ky.toArray⟩, .int .i64 rl, .slice sa st.length sc] 38)).drew 0 (.slice (some ⟨wo.heap.size, 0, none⟩) 0 0) [] := ((made_rc wo (Nat.zero_le _)).later (belR _ _)).later ((Below.refl _ _).drew)
                have ol : OwnRc ((wo.alloc (.cells #[] 38)).alloc (.cells #[.int .i64 rk, .string ⟨ky.toArray⟩, .int .i64 rl, .slice sa st.length sc] 38)).drew 0 (.slice (some ⟨wo.heap.size + 1, 0, none⟩) 1 1) [⟨⟨rk, ky, rl, st⟩, .slice sa st.length sc⟩] := by
                  have h := (lit_rc (wo.alloc (.cells #[] 38)) (base := 0) (c := ⟨⟨rk, ky, rl, st⟩, .slice sa st.length sc⟩) (INC.out.below (belR _ _)) (Nat.zero_le _) (near_old INC.out (belR wo (.cells #[] 38)).size (own_at (belR wo (.cells #[] 38)).size))).later ((Below.refl _ _).drew)
                  rw [show (wo.alloc (.cells #[] 38)).heap.size = wo.heap.size + 1 by simp] at h
                  exact h
                have nl : ∀ c ∈ [(⟨⟨rk, ky, rl, st⟩, .slice sa st.length sc⟩ : RcV)], NearR 0 ((wo.alloc (.cells #[] 38)).alloc (.cells #[.int .i64 rk, .string ⟨ky.toArray⟩, .int .i64 rl, .slice sa st.length sc] 38)).drew.heap.size (.slice (some ⟨wo.heap.size, 0, none⟩) 0 0) c.vs := fun c hc => by simp only [List.mem_singleton] at hc; rw [hc]; exact near_old INC.out b2.size qA
                clear oA bA
                go_simp
                refine koH hK (SF.out _ b2) fun hHeld => ?_
                clear hK K' hHeld
                refine rnH 3 (fun K' hK => ?_)
                refine step_append_rcs rfl (.tmp 208) (.tmp 209) rfl 0 0 (.slice (some ⟨wo.heap.size, 0, none⟩) 0 0) [] rfl o2' (.slice ua LK.length uc) LK rfl (OWo.out.later b2) (fun c hc => near_old (INK.out c hc) b2.size qA) (by have := LKL.out; simp; omega) (Nat.zero_le _) ?_
                intro v1 w1 o1 g1
                obtain ⟨b1, q1⟩ := ap18_after b2 qA g1
                have ol1 := ol.gro g1 (fun q hq => by have := own_is hq; rw [own_mk]; intro e; simp at e; omega) nl
                refine koH hK (SF.out _ b1) fun hHeld => ?_
                clear hK K' hHeld o2' g1 qA ol nl b2
                refine rnH 6 (fun K' hK => ?_)
                refine step_append_rcs rfl (.tmp 210) (.tmp 212) rfl 0 0 v1 ([] ++ LK) rfl o1 (.slice (some ⟨wo.heap.size + 1, 0, none⟩) 1 1) [⟨⟨rk, ky, rl, st⟩, .slice sa st.length sc⟩] rfl ol1 (fun c hc => by simp only [List.mem_singleton] at hc; rw [hc]; exact near_old INC.out b1.size q1) (by have := LKL.out; simp; omega) (Nat.zero_le _) ?_
                intro v2 w2 o2 g2
                obtain ⟨b3, q3⟩ := ap18_after b1 q1 g2
                clear g2 q3 q1 ol1 o1 b1
                exact mc_last
            · have b2 : Below wo.heap.size wo ((wo.alloc (.cells #[.int .i64 rk, .string ⟨ky.toArray⟩, .int .i64 rl, .slice sa st.length sc] 38)).alloc (.cells #[] 38)).drew := ((belR _ _).step16 (belR _ _) (by simp)).drew
              have bA : Below wo.heap.size wo (wo.alloc (.cells #[.int .i64 rk, .string ⟨ky.toArray⟩, .int .i64 rl, .slice sa st.length sc] 38)).drew := (belR _ _).drew
              have qA := own_at (n := 0) (c := 0) (Nat.le_succ wo.heap.size)
              have o2' : OwnRc ((wo.alloc (.cells #[.int .i64 rk, .string ⟨ky.toArray⟩, .int .i64 rl, .slice sa st.length sc] 38)).alloc (.cells #[] 38)).drew 0 (.slice (some ⟨wo.heap.size + 1, 0, none⟩) 0 0) [] := by
                have h := (made_rc (wo.alloc (.cells #[.int .i64 rk, .string ⟨ky.toArray⟩, .int .i64 rl, .slice sa st.length sc] 38)) (base := 0) (Nat.zero_le _)).later ((Below.refl _ _).drew)
                rw [show (wo.alloc (.cells #[.int .i64 rk, .string ⟨ky.toArray⟩, .int .i64 rl, .slice sa st.length sc] 38)).heap.size = wo.heap.size + 1 by simp] at h
                exact h
              have ol : OwnRc ((wo.alloc (.cells #[.int .i64 rk, .string ⟨ky.toArray⟩, .int .i64 rl, .slice sa st.length sc] 38)).alloc (.cells #[] 38)).drew 0 (.slice (some ⟨wo.heap.size, 0, none⟩) 1 1) [⟨⟨rk, ky, rl, st⟩, .slice sa st.length sc⟩] :=
                ((lit_rc wo (base := 0) (c := ⟨⟨rk, ky, rl, st⟩, .slice sa st.length sc⟩) INC.out (Nat.zero_le _) (near_old INC.out (Nat.le_refl _) (own_at (Nat.le_refl _)))).later (belR _ _)).later ((Below.refl _ _).drew)
              have nl : ∀ c ∈ [(⟨⟨rk, ky, rl, st⟩, .slice sa st.length sc⟩ : RcV)], NearR 0 ((wo.alloc (.cells #[.int .i64 rk, .string ⟨ky.toArray⟩, .int .i64 rl, .slice sa st.length sc] 38)).alloc (.cells #[] 38)).drew.heap.size (.slice (some ⟨wo.heap.size + 1, 0, none⟩) 0 0) c.vs := fun c hc => by simp only [List.mem_singleton] at hc; rw [hc]; exact near_old INC.out b2.size qA
              go_simp
              refine koH hK (SF.out _ bA) fun hHeld => ?_
              clear hK K' hHeld bA
              refine rnH 1 (fun K' hK => ?_)
              go_simp
              refine koH hK (SF.out _ b2) fun hHeld => ?_
              clear hK K' hHeld
              refine rnH 3 (fun K' hK => ?_)
              refine step_append_rcs rfl (.tmp 208) (.tmp 209) rfl 0 0 (.slice (some ⟨wo.heap.size + 1, 0, none⟩) 0 0) [] rfl o2' (.slice ua LK.length uc) LK rfl (OWo.out.later b2) (fun c hc => near_old (INK.out c hc) b2.size qA) (by have := LKL.out; simp; omega) (Nat.zero_le _) ?_
              intro v1 w1 o1 g1
              obtain ⟨b1, q1⟩ := ap18_after b2 qA g1
              have ol1 := ol.gro g1 (fun q hq => by have := own_is hq; rw [own_mk]; intro e; simp at e; omega) nl
              refine koH hK (SF.out _ b1) fun hHeld => ?_
              clear hK K' hHeld o2' g1 qA ol nl b2
              refine rnH 6 (fun K' hK => ?_)
              refine step_append_rcs rfl (.tmp 210) (.tmp 212) rfl 0 0 v1 ([] ++ LK) rfl o1 (.slice (some ⟨wo.heap.size, 0, none⟩) 1 1) [⟨⟨rk, ky, rl, st⟩, .slice sa st.length sc⟩] rfl ol1 (fun c hc => by simp only [List.mem_singleton] at hc; rw [hc]; exact near_old INC.out b1.size q1) (by have := LKL.out; simp; omega) (Nat.zero_le _) ?_
              intro v2 w2 o2 g2
              obtain ⟨b3, q3⟩ := ap18_after b1 q1 g2
              clear g2 q3 q1 ol1 o1 b1
              exact mc_last

/-! ### THE ROW's STEP: WRITTEN OUT: LEAVE IT -/
set_option maxRecDepth 100000 in
set_option maxHeartbeats 2000000 in
set_option maxHeartbeats 2000000 in
set_option maxHeartbeats 2000000 in
theorem lifted (os : Os) (started : os.Started) (H : Type) (enc : TypeId × Value → H) :
    ReturnsInHanded {} Tryz.checked os 5 .any (Rows.metalogCutsSpec.pre6 enc Tryz.prog Tryz.f5 Rows.metalogCutsRow.domain false) (Rows.metalogCutsSpec.post enc Tryz.prog Tryz.f5 false true false false) := by
  refine returnsInHanded_of_change (C := Tryz.checked) own started (by kernel_rfl) Tryz.func5
    (ChangeSpec.witness6 (enc := enc) (C := Tryz.checked) false ⟨#[], #[.agg #[.int .i64 0, .int .i64 0, .int .i64 0, .int .i64 0, .int .i64 0, .int .i64 0], .agg #[.int .i64 0, .int .i64 0, .slice none 0 0], .slice none 0 0, .agg #[.int .i64 0, .string ⟨#[]⟩, .int .i64 0, .slice none 0 0], .int .i64 0, .slice none 0 0, .bool false, .agg #[.int .i64 0, .int .i64 0, .slice none 0 0]], []⟩ 8 (by kernel_rfl) (by kernel_rfl) (by kernel_rfl) (by kernel_rfl)) ?_
  intro W base args ds gs before hval0 hW hcnd _
  have hval : ∀ (j : Nat) t v, Tryz.f5.params[j]? = some t → args[j]? = some v → Value.okWide Tryz.prog W .any base t v := hval0
  have hW' := hW
  obtain ⟨p, q, hA0, hV, rfl, hfz, hnd⟩ := hW
  have hA : DataW.TrodAll enc Tryz.prog W 0 (fun _ => true) true Tryz.f5.params.toList args.toList ds p := hA0
  rw [Tryz.params5] at hA hval
  obtain ⟨v0, vs0, d0, ds0, p0, q0, hargs, rfl, rfl, h0, r0⟩ := trodAll_cons hA
  obtain ⟨v1, vs1, d1, ds1, p1, q1, rfl, rfl, rfl, h1, r1⟩ := trodAll_cons r0
  obtain ⟨v2, vs2, d2, ds2, p2, q2, rfl, rfl, rfl, h2, r2⟩ := trodAll_cons r1
  obtain ⟨v3, vs3, d3, ds3, p3, q3, rfl, rfl, rfl, h3, r3⟩ := trodAll_cons r2
  obtain ⟨v4, vs4, d4, ds4, p4, q4, rfl, rfl, rfl, h4, r4⟩ := trodAll_cons r3
  obtain ⟨v5, vs5, d5, ds5, p5, q5, rfl, rfl, rfl, h5, r5⟩ := trodAll_cons r4
  obtain ⟨v6, vs6, d6, ds6, p6, q6, rfl, rfl, rfl, h6, r6⟩ := trodAll_cons r5
  obtain ⟨v7, vs7, d7, ds7, p7, q7, rfl, rfl, rfl, h7, r7⟩ := trodAll_cons r6
  obtain ⟨rfl, rfl, rfl⟩ := trodAll_nil r7
  obtain rfl : args = #[v0, v1, v2, v3, v4, v5, v6, v7] := by cases args; simp_all
  obtain ⟨rfl, rfl⟩ := trodVars_none hV
  have k0 := h0
  have lt0 : ∀ x ∈ p0, x.block < W.heap.size := by obtain ⟨m, hm⟩ := k0; exact DataW.trod_lt m _ _ _ hm
  obtain ⟨c0, rfl, w0⟩ := open_geo Tryz.underlying23 (by kernel_rfl) rfl rfl rfl rfl rfl rfl (by kernel_rfl) (by kernel_rfl) (by kernel_rfl) (by kernel_rfl) (by kernel_rfl) (by kernel_rfl) (by kernel_rfl) (by kernel_rfl) (by kernel_rfl) (by kernel_rfl) (by kernel_rfl) (by kernel_rfl) (hval 0 23 v0 rfl rfl) h0
  have k1 := h1
  have lt1 : ∀ x ∈ p1, x.block < W.heap.size := by obtain ⟨m, hm⟩ := k1; exact DataW.trod_lt m _ _ _ hm
  obtain ⟨ar1, ep1, so1, L1, rfl, w1, wa1, we1⟩ := open_saved (te := 92) (si := 3) Tryz.underlying41 (by kernel_rfl) (by kernel_rfl) (by kernel_rfl) (by kernel_rfl) (by kernel_rfl) Tryz.underlying92 (by kernel_rfl) rfl rfl rfl rfl (by kernel_rfl) (by kernel_rfl) (by kernel_rfl) (by kernel_rfl) (by kernel_rfl) (by kernel_rfl) (by kernel_rfl) (by kernel_rfl) (by kernel_rfl) (by kernel_rfl) (hval 1 41 v1 rfl rfl) h1
  obtain ⟨a2, len2, cap2, rfl⟩ := okWide_slice Tryz.underlying51 (hval 2 51 v2 rfl rfl)
  have k2 := h2
  have lt2 : ∀ x ∈ p2, x.block < W.heap.size := by obtain ⟨m, hm⟩ := k2; exact DataW.trod_lt m _ _ _ hm
  obtain ⟨z2, w2⟩ : ∃ zs, RdR W (.slice a2 len2 cap2) zs := by
    obtain ⟨fuel, hf⟩ := h2
    obtain ⟨a9, l9, c9, L9, hcs, _, hR⟩ := open_recs (si := 3) Tryz.underlying51 Tryz.underlying38 (by kernel_rfl) rfl rfl rfl rfl (by kernel_rfl) (by kernel_rfl) (by kernel_rfl) (by kernel_rfl) (by kernel_rfl) (by kernel_rfl) (by kernel_rfl) (by kernel_rfl) (by kernel_rfl) (by kernel_rfl) hf
    simp [Value.cells] at hcs
    obtain ⟨rfl, rfl, rfl⟩ := hcs
    exact ⟨L9, hR⟩
  have k3 := h3
  have lt3 : ∀ x ∈ p3, x.block < W.heap.size := by obtain ⟨m, hm⟩ := k3; exact DataW.trod_lt m _ _ _ hm
  obtain ⟨c3, rfl, w3⟩ := open_rec (si := 3) Tryz.underlying38 (by kernel_rfl) (by kernel_rfl) (by kernel_rfl) (by kernel_rfl) (by kernel_rfl) (by kernel_rfl) (by kernel_rfl) (by kernel_rfl) (hval 3 38 v3 rfl rfl) h3
  obtain ⟨a4, rfl, rfl, rfl, w4⟩ := open_int Tryz.underlying3 (hval 4 3 v4 rfl rfl) h4
  obtain ⟨a5, len5, cap5, rfl⟩ := okWide_slice Tryz.underlying43 (hval 5 43 v5 rfl rfl)
  have k5 := h5
  have lt5 : ∀ x ∈ p5, x.block < W.heap.size := by obtain ⟨m, hm⟩ := k5; exact DataW.trod_lt m _ _ _ hm
  obtain ⟨z5, w5⟩ : ∃ zs, RdII W (.slice a5 len5 cap5) zs := by
    obtain ⟨fuel, hf⟩ := h5
    obtain ⟨a9, l9, c9, L9, hcs, _, hR⟩ := open_rows Tryz.underlying43 Tryz.underlying35 Tryz.underlying3 (by kernel_rfl) (by kernel_rfl) hf
    simp [Value.cells] at hcs
    obtain ⟨rfl, rfl, rfl⟩ := hcs
    exact ⟨L9, hR⟩
  obtain ⟨a6, rfl, rfl, rfl⟩ := open_bool Tryz.underlying4 (hval 6 4 v6 rfl rfl) h6
  have k7 := h7
  have lt7 : ∀ x ∈ p7, x.block < W.heap.size := by obtain ⟨m, hm⟩ := k7; exact DataW.trod_lt m _ _ _ hm
  obtain ⟨ar7, ep7, so7, L7, rfl, w7, wa7, we7⟩ := open_saved (te := 92) (si := 3) Tryz.underlying41 (by kernel_rfl) (by kernel_rfl) (by kernel_rfl) (by kernel_rfl) (by kernel_rfl) Tryz.underlying92 (by kernel_rfl) rfl rfl rfl rfl (by kernel_rfl) (by kernel_rfl) (by kernel_rfl) (by kernel_rfl) (by kernel_rfl) (by kernel_rfl) (by kernel_rfl) (by kernel_rfl) (by kernel_rfl) (by kernel_rfl) (hval 7 41 v7 rfl rfl) h7
  clear hA0 hval0
  refine (walk c0 ar1 ep1 so1 L1 a2 len2 cap2 z2 c3 a4 a5 len5 cap5 z5 a6 ar7 ep7 so7 L7 W w0 w1 wa1 we1 w2 w3 w4 w5 w7 wa7 we7).mono fun e W' ⟨he, bel⟩ => ?_
  subst he
  exact ⟨_, rfl, _, _, _, [], _, [], hW', trodAll_mk1 (shut_bool Tryz.underlying4 _), (trodAll_cons_mk (Below.trod laidOut (by kernel_rfl) (of_decide_eq_true (by kernel_rfl)) k0 bel lt0) (trodAll_cons_mk (Below.trod laidOut (by kernel_rfl) (of_decide_eq_true (by kernel_rfl)) k1 bel lt1) (trodAll_cons_mk (Below.trod laidOut (by kernel_rfl) (of_decide_eq_true (by kernel_rfl)) k2 bel lt2) (trodAll_cons_mk (Below.trod laidOut (by kernel_rfl) (of_decide_eq_true (by kernel_rfl)) k3 bel lt3) (trodAll_cons_mk (shut_int Tryz.underlying3 w4) (trodAll_cons_mk (Below.trod laidOut (by kernel_rfl) (of_decide_eq_true (by kernel_rfl)) k5 bel lt5) (trodAll_cons_mk (shut_bool Tryz.underlying4 _) (trodAll_cons_mk (Below.trod laidOut (by kernel_rfl) (of_decide_eq_true (by kernel_rfl)) k7 bel lt7) trodAll_mk0)))))))), rfl, bel.frame _, fun h => by cases h⟩

theorem over : Rows.metalogCutsRow.holds Tryz.pinned (OpenSpec.ofChange Rows.metalogCutsSpec) :=
  OpenClaim.holds_of_wide 5 Tryz.f5 rfl rfl rfl rfl rfl rfl rfl ⟨rfl, rfl, rfl, rfl, rfl⟩ rfl rfl rfl rfl rfl (by kernel_rfl) Tryz.func5 (by kernel_rfl)
    (of_decide_eq_true (by kernel_rfl)) (by unfold Func.isWrapper; first | (rw [if_pos (by decide +kernel)]; kernel_rfl) | (rw [if_neg (by decide +kernel)]; exact ⟨rfl, rfl⟩))
    (fun os started H enc _ => lifted os started H enc)

/-- ████ THE STATEMENT ████ -/
theorem proved : Rows.MetalogCutsSaid := over
end Go.Proofs.YtclieefpnbdbjaaGreat.metalogCuts
namespace Go.Proofs.YtclieefpnbdbjaaGreat
theorem metalogCuts_holds : Rows.MetalogCutsSaid := metalogCuts.proved
#print axioms metalogCuts_holds
end Go.Proofs.YtclieefpnbdbjaaGreat
