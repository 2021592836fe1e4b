/- TEXTS JOINED: KeEuc, KeCA, KeCB. -/
import Derived.Test.YtddnfhfangfgeaaGreatTome6
import Derived.Test.YtddnfhfangfgeaaGreatTome2
import Derived.Test.YtddnfhfangfgeaaGreatTome3
import Derived.Test.YtddnfhfangfgeaaGreatTome4
import Derived.Deep.RegionWith
import Derived.Deep.RegionHeld3
import Derived.WalkMore
namespace Go.Proofs.YtddnfhfangfgeaaGreat.Gf
set_option linter.unusedVariables false
set_option linter.unusedSimpArgs false
/-- where Euclid's steps stand, as lists; e is known's degree -/
structure EuL (s known : List UInt8) (e : Nat) (r0 r1 v0 v1 : List UInt8) : Prop where
  eu : ∃ a b, Eu (keP s known) s.length (co r0) (co r1) (co v0) (co v1) a b ∧ s.length + e ≤ 2 * b ∧ v1.length = a + 1 ∧ r0.length = b + 1
  n1 : norm r1 = r1
  m1 : norm v1 = v1
theorem norm_tops {p : List UInt8} (h : norm p = p) (h0 : p.length ≠ 0) : co p (p.length - 1) ≠ 0 := by
  have hl : p.length = deg (co p) p.length := by
    have := congrArg List.length h
    unfold norm at this
    rw [mk_length] at this
    exact this.symm
  have := deg_top (co p) p.length (by rw [← hl]; exact h0)
  rwa [← hl] at this
/-- the first numbers of a list, up to the top -/
theorem EuL.start {s known r1 x : List UInt8} {e : Nat} (he : e ≤ s.length) (hx : ∀ i, co x i = if i = s.length then 1 else 0) (hxl : x.length = s.length + 1) (hr : ∀ j, j < s.length → co r1 j = keP s known j) (hrl : r1.length ≤ s.length) (hn : norm r1 = r1) : EuL s known e x r1 [] [1] := by
  refine ⟨⟨0, s.length, ?_, by omega, rfl, hxl⟩, hn, by decide +kernel⟩
  have h := Eu.start (P := keP s known) (r1 := co r1) (m := s.length) (fun j hj => (hr j hj).symm) ((co_fin r1).mono hrl)
  have e1 : co x = fun i => if i = s.length then 1 else 0 := funext hx
  have e2 : co [] = fun _ => (0 : UInt8) := funext co_nil
  have e3 : co [1] = cst 1 := by
    funext j
    cases j with
    | zero => rfl
    | succ j => rw [cst_ne (by omega)]; rfl
  rw [e1, e2, e3]
  exact h
theorem EuL.step {s known r0 r1 v0 v1 q r : List UInt8} {e : Nat} (h : EuL s known e r0 r1 v0 v1) (hb : s.length + e + 2 ≤ 2 * r1.length) (hd : IsDiv r0 r1 q r) : EuL s known e r1 r v1 (addP v0 (mulP q v1)) := by
  obtain ⟨a, b, eu, h2, ha, hb0⟩ := h.eu
  have hne : r1.length ≠ 0 := by omega
  have ht := norm_tops h.n1 hne
  have hf : Fin0 (co r1) (r1.length - 1 + 1) := by rw [show r1.length - 1 + 1 = r1.length by omega]; exact co_fin r1
  have hdb : r1.length - 1 < b := by
    rcases Nat.lt_or_ge (r1.length - 1) b with h | h
    · exact h
    · exact absurd (eu.g1 _ h) ht
  have hless := hd.less
  rw [h.n1] at hless
  -- the quotient's length
  have hqf : Fin0 (co q) (b - (r1.length - 1) + 1) := by
    have hq := co_fin q
    by_cases hq0 : q.length = 0
    · exact hq.mono (by omega)
    · have hqt := norm_tops hd.ns hq0
      have htop := conv_top (f := co q) (g := co r1) (n := q.length - 1) (m := r1.length - 1) (by rw [show q.length - 1 + 1 = q.length by omega]; exact hq) hf
      rcases Nat.lt_or_ge b (q.length - 1 + (r1.length - 1)) with hlt | hge
      · have e1 := hd.eqn (q.length - 1 + (r1.length - 1))
        rw [eu.g0 _ (by omega), htop, co_ge (p := r) (by omega), x_zero] at e1
        exact absurd e1.symm (mu_ne hqt ht)
      · exact hq.mono (by omega)
  have st := eu.step hf ht hd.eqn hqf ((co_fin r).mono (by omega))
  have e1 : co (addP v0 (mulP q v1)) = addF (co v0) (conv (co q) (co v1)) := by rw [co_addP, co_mulP]
  have hl : (addP v0 (mulP q v1)).length = a + (b - (r1.length - 1)) + 1 := by
    unfold addP
    rw [mk_length]
    refine deg_unique (fin_add _ _) ?_ (fun _ => ?_)
    · rw [co_mulP]; exact st.f1
    · rw [co_mulP]; exact st.t1
  refine ⟨⟨a + (b - (r1.length - 1)), r1.length - 1, ?_, by omega, hl, by omega⟩, hd.nr, norm_mk (fin_add _ _)⟩
  rw [e1]
  exact st
/-- what is told at the end -/
theorem EuL.least {s known r0 r1 v0 v1 : List UInt8} {e : Nat} (h : EuL s known e r0 r1 v0 v1) (h1 : 2 * r1.length ≤ s.length + e + 1) (hr : r1.length ≤ e + (v1.length - 1)) :
    v1.length ≠ 0 ∧ co v1 (v1.length - 1) ≠ 0 ∧ LeastLoc (keP s known) s.length e (v1.length - 1) (fun j => mu (iv (co v1 (v1.length - 1))) (co v1 j)) := by
  obtain ⟨a, b, eu, h2, ha, hb0⟩ := h.eu
  have ea : v1.length - 1 = a := by omega
  rw [ea] at hr ⊢
  exact ⟨by omega, eu.t1, eu.least h2 (co_fin r1) h1 ((co_fin r1).mono hr)⟩
theorem EuL.none {s known r0 r1 v0 v1 : List UInt8} {e : Nat} (h : EuL s known e r0 r1 v0 v1) (h1 : 2 * r1.length ≤ s.length + e + 1) (hr : e + (v1.length - 1) < r1.length) : ∀ t L, 2 * t + e ≤ s.length → ¬ IsLoc (keP s known) s.length e t L := by
  obtain ⟨a, b, eu, h2, ha, hb0⟩ := h.eu
  refine eu.none h2 (co_fin r1) h1 fun hf => ?_
  have ea : v1.length - 1 = a := by omega
  rw [ea] at hr
  exact norm_tops h.n1 (by omega) (hf _ (by omega))
theorem EuL.fac {s known r0 r1 v0 v1 : List UInt8} {e : Nat} (h : EuL s known e r0 r1 v0 v1) : 1 ≤ v1.length ∧ v1.length ≤ s.length + 1 ∧ r0.length ≤ s.length + 1 ∧ r1.length < r0.length ∧ 2 * v1.length + e ≤ s.length + 2 := by
  obtain ⟨a, b, eu, h2, ha, hb0⟩ := h.eu
  have := eu.sum
  refine ⟨by omega, by omega, by omega, ?_, by omega⟩
  rcases Nat.lt_or_ge r1.length r0.length with h9 | h9
  · exact h9
  · exact absurd (eu.g1 _ (by omega)) (norm_tops h.n1 (by omega))
/-- a list times the inverse of its top -/
theorem mul_top {v : List UInt8} (h : v.length ≠ 0) (ht : co v (v.length - 1) ≠ 0) : mulP v [iv (co v (v.length - 1))] = upto (fun j => mu (iv (co v (v.length - 1))) (co v j)) (v.length - 1 + 1) := by
  obtain ⟨c, hc⟩ : ∃ c, c = iv (co v (v.length - 1)) := ⟨_, rfl⟩
  have hc0 : c ≠ 0 := fun e => by
    have := mu_iv ht
    rw [← hc, e, mu_zero] at this
    cases this
  rw [← hc]
  have e3 : co [c] = cst c := by
    funext j
    cases j with
    | zero => rfl
    | succ j => rw [cst_ne (by omega)]; rfl
  have e4 : conv (co v) (co [c]) = fun j => mu c (co v j) := by rw [e3, conv_comm, one_conv]
  have hf : Fin0 (fun j => mu c (co v j)) v.length := fun i hi => by show mu c (co v i) = 0; rw [co_ge hi, mu_zero]
  have hl : (mulP v [c]).length = v.length := by
    unfold mulP
    rw [mk_length, e4]
    exact deg_unique (hf.mono (by omega)) hf (fun _ => mu_ne hc0 ht)
  refine co_ext (by rw [hl, upto_length]; omega) fun i hi => ?_
  rw [hl] at hi
  rw [co_mulP, e4, upto, co_map_range _ (by omega)]
end Go.Proofs.YtddnfhfangfgeaaGreat.Gf

namespace Go.Proofs.YtddnfhfangfgeaaGreat.Gf
set_option linter.unusedVariables false
set_option linter.unusedSimpArgs false
open Go.RowKit
/-- x's power of n -/
def xpF (n i : Nat) : UInt8 := if i = n then 1 else 0
def xpL (n : Nat) : List UInt8 := upto (xpF n) (n + 1)
theorem xpL_length (n : Nat) : (xpL n).length = n + 1 := upto_length _ _
theorem co_xpL (n i : Nat) : co (xpL n) i = if i = n then 1 else 0 := co_upto (fun i hi => if_neg (by omega)) i
set_option maxRecDepth 100000 in
set_option maxHeartbeats 1000000 in
theorem kpow_any {w : World} {n : Nat} (hn : n ≤ 1000) {x : Int} (hx : x = (n : Int)) : Calls Tryz.prog 218 #[.int .i64 x] w (MakesF w (xpL n)) := by
  subst hx
  obtain ⟨i0, hi, hz0, hz1, hz2⟩ := info_parts info_u8
  go_enter Tryz.func218, Tryz.ntmps218
  obtain ⟨m, hm⟩ : ∃ m, Hid (m = n + 1) := ⟨_, rfl⟩
  have g0 : (n : Int) + 1 = (m : Int) := by have := hm.out; omega
  have hnm : n < m := by have := hm.out; omega
  have hm1 : m ≤ 1001 := by have := hm.out; omega
  have gw : IntKind.i64.wrap (m : Int) = (m : Int) := by rw [IntKind.wrap_i64]; omega
  go_wp2_with (at_make; go_loud (refine wpList_make_full _ rfl (.tmp 5) (.tmp 5) 36 rfl w.heap.size 5 i0 (.int .u8 0) 1 Tryz.underlying36 hi hz0 hz1 _ _ _ _ m rfl rfl (by omega) (by omega) (by rw [hz2]; omega) (by unfold maxLen; omega) (Nat.le_refl _) ?_); intro w1 hown1 hgrow1; have R1 := RowF.made hown1; have c1 := R1.cell hnm; have f1 := R1.unfrozen n)
  have B1 : Below w.heap.size w w1 := (Below.refl _ _).grown hgrow1 (Nat.le_refl _) (fun k h => by cases h)
  clear hown1 hgrow1
  have HN : Hid (RowF (w1.setCell ⟨w.heap.size, n, none⟩ (.int .u8 1)) w.heap.size 5 w.heap.size m m (xpF n)) := R1.store hnm 1 (fun s => rfl)
  have HB : Hid (Below w.heap.size w (w1.setCell ⟨w.heap.size, n, none⟩ (.int .u8 1))) := B1.setCell (p := ⟨w.heap.size, n, none⟩) (Nat.le_refl _) _
  clear R1 B1
  go_ret
  exact ⟨_, rfl, by have := HN.out.rd; rw [hm.out] at this; rw [hm.out]; exact this, HB.out, far_some (Nat.le_refl _)⟩
set_option maxRecDepth 100000 in
set_option maxHeartbeats 2000000 in
theorem kturn_any {w : World} {v : Value} {s : List UInt8} (hs : Rd w v s) (hl : s.length ≤ 1000) : Calls Tryz.prog 195 #[v] w (MakesF w s.reverse) := by
  obtain ⟨i0, hi, hz0, hz1, hz2⟩ := info_parts info_u8
  obtain ⟨a, c, rfl⟩ := hs.form
  obtain ⟨m, hm⟩ : ∃ m, Hid (m = s.length) := ⟨_, rfl⟩
  rw [← hm.out] at hs hl ⊢
  go_enter Tryz.func195, Tryz.ntmps195
  go_wp2_with (at_make; go_loud (refine wpList_make_full _ rfl (.tmp 7) (.tmp 7) 36 rfl w.heap.size 5 i0 (.int .u8 0) 1 Tryz.underlying36 hi hz0 hz1 _ _ _ _ m rfl rfl (by omega) (by omega) (by rw [hz2]; omega) (by unfold maxLen; omega) (Nat.le_refl _) ?_); intro w1 hown1 hgrow1)
  have R1 : Hid (RowF w1 w.heap.size 5 w.heap.size m m (fun _ => 0)) := RowF.made hown1
  have B1 : Hid (Below w.heap.size w w1) := (Below.refl _ _).grown hgrow1 (Nat.le_refl _) (fun k h => by cases h)
  clear hown1 hgrow1
  go_wp2
  go_loopw [11] (fun v wr => ∃ i : Nat, i ≤ m ∧ v = .int .i64 i ∧ RowF wr w.heap.size 5 w.heap.size m m (tnF s i) ∧ Below w.heap.size w wr) (fun v _ => m - (intOf v).toNat)
  case atStart => exact ⟨0, by omega, rfl, R1.out.congr fun j hj => (tnF_zero s (by rw [← hm.out]; exact hj)).symm, B1.out⟩
  case round =>
    obtain ⟨i, hi9, rfl, hR, hB⟩ := hrel
    clear R1 B1
    by_cases hlt : i < m
    · have hlt' : (i : Int) < (m : Int) := by omega
      obtain ⟨d, hd⟩ : ∃ d, Hid (d = m - 1 - i) := ⟨_, rfl⟩
      have gd : (m : Int) - 1 - (i : Int) = (d : Int) := by have := hd.out; omega
      have hdm : d < m := by have := hd.out; omega
      have hdm' : (d : Int) < (m : Int) := by omega
      have gw1 : IntKind.i64.wrap ((m : Int) - 1) = (m : Int) - 1 := by rw [IntKind.wrap_i64]; omega
      have gw2 : IntKind.i64.wrap (d : Int) = (d : Int) := by rw [IntKind.wrap_i64]; omega
      obtain ⟨sb, so, es, _, cs⟩ := (hs.below hB).byte (i := i) (by rw [← hm.out]; exact hlt)
      subst es
      have c1 := hR.cell hdm
      have f1 := hR.unfrozen d
      have HN : Hid (RowF (World.setCell wr ⟨w.heap.size, d, none⟩ (.int .u8 ((co s i).toNat : Nat))) w.heap.size 5 w.heap.size m m (tnF s (i + 1))) := hR.store hdm _ (fun j => by rw [tnF_step s (by rw [← hm.out]; exact hlt), ← hm.out, ← hd.out])
      have HB : Hid (Below w.heap.size w (World.setCell wr ⟨w.heap.size, d, none⟩ (.int .u8 ((co s i).toNat : Nat)))) := hB.setCell (p := ⟨w.heap.size, d, none⟩) (Nat.le_refl _) _
      clear hR hB hs
      go_wp2
      go_roundw
      case rel => exact ⟨i + 1, by omega, by go_num, HN.out, HB.out⟩
      case measure => simp [intOf]; omega
    · have hge : ¬ (i : Int) < (m : Int) := by omega
      have ei : i = m := by omega
      have Rt : Hid (Rd wr (.slice (some ⟨w.heap.size, 0, none⟩) m m) s.reverse) := by
        show Rd _ _ _
        rw [← tnF_all, ← hm.out, ← ei]
        have := hR.rd
        rw [ei] at this ⊢
        exact this
      clear ei hR hs
      go_wp2
      go_ret
      exact ⟨_, rfl, Rt.out, hB, far_some (Nat.le_refl _)⟩
set_option maxRecDepth 100000 in
set_option maxHeartbeats 1000000 in
theorem ktop_any {w : World} {b : Nat} {v : Value} {p : List UInt8} (hF : FieldAt w b) (hp : Rd w v p) (hl : p.length ≤ 1000) (h0 : p.length ≠ 0) (ht : co p (p.length - 1) ≠ 0) :
    Calls Tryz.prog 197 #[.pointer (some ⟨b, 0, none⟩), v] w (MakesF w (upto (fun j => mu (iv (co p (p.length - 1))) (co p j)) (p.length - 1 + 1))) := by
  rw [← mul_top h0 ht, mulP_comm]
  obtain ⟨pa, pcap, rfl⟩ := hp.form
  obtain ⟨bb, off, rfl, hbb, c1⟩ := hp.byte (i := p.length - 1) (by omega)
  obtain ⟨d, hd⟩ : ∃ d, Hid (d = p.length - 1) := ⟨_, rfl⟩
  rw [← hd.out] at c1 ht ⊢
  have gd : (p.length : Int) - 1 = (d : Int) := by have := hd.out; omega
  have hdl : d < p.length := by have := hd.out; omega
  have hdl' : (d : Int) < (p.length : Int) := by omega
  have gw : IntKind.i64.wrap (d : Int) = (d : Int) := by rw [IntKind.wrap_i64]; omega
  obtain ⟨y, hy⟩ : ∃ y, Hid (y = co p d) := ⟨_, rfl⟩
  rw [← hy.out] at c1 ht ⊢
  obtain ⟨z, hz⟩ : ∃ z, Hid (z = iv y) := ⟨_, rfl⟩
  rw [← hz.out]
  go_enter Tryz.func197, Tryz.ntmps197
  go_wp2_with fail
  refine (finv_at hF y ht rfl).mono ?_
  rintro e w1 ⟨rfl, n1, hw1⟩
  have B1 : Below w.heap.size w w1 := by rw [hw1]; exact below_draws _ _
  clear hw1
  rw [← hz.out]
  have HL : Hid (Rd (w1.alloc (.cells #[.int .u8 (z.toNat : Nat)] 5)) (.slice (some ⟨w1.heap.size, 0, none⟩) 1 1) [z]) := rd_lit (n := 1) [z] rfl rfl (by decide)
  go_wp2_with fail
  refine (pmul_far (hF.below (below_lit B1 _)) HL.out (hp.below (below_lit B1 _)) (by simp) (by omega)).mono ?_
  rintro e w2 ⟨v2, rfl, hr2, hb2, hf2⟩
  have HB : Hid (Below w.heap.size w w2) := Below.next (below_lit B1 _) hb2
  have hf3 : Far w.heap.size v2 := hf2.mono (by have := (below_lit B1 (.cells #[.int .u8 (z.toNat : Nat)] 5)).size; exact this)
  clear hb2 B1 hf2
  go_wp2
  go_ret
  exact ⟨_, rfl, hr2, HB.out, hf3⟩
set_option maxRecDepth 100000 in
set_option maxHeartbeats 2000000 in
theorem kloc_any {b : Nat} {v : Value} {s : List UInt8} {w : World} (hF : FieldAt w b) (hs : Rd w v s) (hl : s.length ≤ 300) : Calls Tryz.prog 165 #[.pointer (some ⟨b, 0, none⟩), v] w (MakesV w (locL s)) := by
  obtain ⟨a, c, rfl⟩ := hs.form
  go_enter Tryz.func165, Tryz.ntmps165
  go_wp2
  have B0 : Below w.heap.size w (w.alloc (.cells #[.int .u8 1] 5)) := (Below.refl _ _).alloc (Nat.le_refl _) _
  have R0 : Rd (w.alloc (.cells #[.int .u8 1] 5)) (.slice (some ⟨w.heap.size, 0, none⟩) 1 1) [1] := rd_lit (n := 1) [1] rfl rfl (by decide)
  go_loopw [5, 13] (fun o i wr => ∃ k : Nat, k ≤ s.length ∧ i = .int .i64 k ∧ Rd wr o (locN (co s) k) ∧ Below w.heap.size w wr) (fun _ i _ => s.length - (intOf i).toNat)
  case atStart => exact ⟨0, by omega, rfl, R0, B0⟩
  case round =>
    obtain ⟨k, hk, rfl, hR, hB⟩ := hrel
    clear R0 B0
    obtain ⟨av, cv, ev⟩ := hR.form
    rw [locN_length] at ev
    subst ev
    by_cases hlt : k < s.length
    · have hlt' : (k : Int) < (s.length : Int) := by omega
      obtain ⟨bb, off, rfl, _, c1⟩ := (hs.below hB).byte hlt
      obtain ⟨x, hx⟩ : ∃ x, Hid (x = co s k) := ⟨_, rfl⟩
      rw [← hx.out] at c1
      have HM : Hid (mulP [x, 1] (locN (co s) k) = locN (co s) (k + 1)) := by show _ = _; rw [hx.out, mulP_comm]; exact locN_succ _ _
      have HR : Hid _ := hR.below (w' := wr.alloc (.cells #[.int .u8 (x.toNat : Nat), .int .u8 1] 5)) ((Below.refl _ _).alloc (Nat.le_refl _) _)
      have HL : Hid (Rd (wr.alloc (.cells #[.int .u8 (x.toNat : Nat), .int .u8 1] 5)) (.slice (some ⟨wr.heap.size, 0, none⟩) 2 2) [x, 1]) := rd_lit (n := 2) [x, 1] rfl rfl (by decide)
      clear hs hR
      go_wp2_with fail
      refine (pmul_any (hF.below (below_lit hB _)) HL.out HR.out (by simp) (by rw [locN_length]; omega)).mono ?_
      rintro e w2 ⟨v2, rfl, hown2, hb2⟩
      have HR2 : Hid (Rd w2 v2 (locN (co s) (k + 1))) := by
        rw [HM.out] at hown2
        exact hown2
      have HB2 : Hid (Below w.heap.size w w2) := Below.next (below_lit hB _) hb2
      clear hown2 hb2 HR HL c1 hB
      go_wp2
      go_roundw
      case rel => exact ⟨k + 1, by omega, by go_num, HR2.out, HB2.out⟩
      case measure => simp [intOf]; omega
    · have e : k = s.length := by omega
      have hge : ¬ (k : Int) < (s.length : Int) := by omega
      have HR : Hid (Rd wr (.slice av (k + 1) cv) (locL s)) := by
        show Rd _ _ _
        unfold locL
        rw [← e]; exact hR
      clear hs hR e
      go_wp2
      go_ret
      exact ⟨_, rfl, HR.out, hB⟩
end Go.Proofs.YtddnfhfangfgeaaGreat.Gf

namespace Go.Proofs.YtddnfhfangfgeaaGreat.Gf
set_option linter.unusedVariables false
set_option linter.unusedSimpArgs false
open Go.RowKit
/-- the five variables of 'euclid' that the closure has: the field, what stands above, what is left, the factor, the one before -/
structure Eu9 (w : World) (b fb ab lb cb vb : Nat) (va vl vc vv : Value) : Prop where
  cf : w.cell? ⟨fb, 0, none⟩ = some (.pointer (some ⟨b, 0, none⟩))
  ca : w.cell? ⟨ab, 0, none⟩ = some va
  cl : w.cell? ⟨lb, 0, none⟩ = some vl
  cc : w.cell? ⟨cb, 0, none⟩ = some vc
  cv : w.cell? ⟨vb, 0, none⟩ = some vv
  ga : w.frozen? ⟨ab, 0, none⟩ = false
  gl : w.frozen? ⟨lb, 0, none⟩ = false
  gc : w.frozen? ⟨cb, 0, none⟩ = false
  gv : w.frozen? ⟨vb, 0, none⟩ = false
/-- .. lie apart -/
structure Sep9 (b fb ab lb cb vb : Nat) : Prop where
  n1 : ab ≠ lb
  n2 : ab ≠ cb
  n3 : ab ≠ vb
  n4 : lb ≠ cb
  n5 : lb ≠ vb
  n6 : cb ≠ vb
  m1 : fb ≠ ab
  m2 : fb ≠ lb
  m3 : fb ≠ cb
  m4 : fb ≠ vb
  k1 : b ≠ ab
  k2 : b ≠ lb
  k3 : b ≠ cb
  k4 : b ≠ vb
theorem ApartL.far {N : Nat} {v : Value} {G : List Nat} (h : Far N v) (hg : ∀ g, g ∈ G → g < N) : ApartL G v := by
  intro x n c e
  exact Or.inr (fun h2 => by have := hg _ h2; have := h x n c e; omega)
set_option maxRecDepth 100000 in
set_option maxHeartbeats 4000000 in
theorem kst_any {w : World} {b fb ab lb cb vb : Nat} {va vl vc vv : Value} {A L C V : List UInt8} (hF : FieldAt w b) (hE : Eu9 w b fb ab lb cb vb va vl vc vv) (hS : Sep9 b fb ab lb cb vb)
    (ra : Rd w va A) (rl : Rd w vl L) (rc : Rd w vc C) (rv : Rd w vv V) (pl : ApartL [ab, lb, cb, vb] vl) (pc : ApartL [ab, lb, cb, vb] vc) (pv : ApartL [ab, lb, cb, vb] vv) (hA : A.length ≤ 1000) (hL : L.length ≤ 1000) (hC : C.length ≤ 1000) (hV : V.length ≤ 1000) (hn : norm L ≠ []) (hq : ∀ q r, IsDiv A L q r → q.length ≤ 2000) :
    Calls Tryz.prog 219 #[.pointer (some ⟨fb, 0, none⟩), .pointer (some ⟨ab, 0, none⟩), .pointer (some ⟨lb, 0, none⟩), .pointer (some ⟨cb, 0, none⟩), .pointer (some ⟨vb, 0, none⟩)] w fun e w' => e = .returned (.tuple #[]) ∧
      ∃ q r vr vn, IsDiv A L q r ∧ Eu9 w' b fb ab lb cb vb vl vr vn vc ∧ Rd w' vl L ∧ Rd w' vr r ∧ Rd w' vn (addP V (mulP q C)) ∧ Rd w' vc C ∧ ApartL [ab, lb, cb, vb] vr ∧ ApartL [ab, lb, cb, vb] vn ∧ TurnL [ab, lb, cb, vb] w w' := by
  obtain ⟨aa, ac, rfl⟩ := ra.form
  obtain ⟨la, lc, rfl⟩ := rl.form
  obtain ⟨ca, cc, rfl⟩ := rc.form
  obtain ⟨va, vc, rfl⟩ := rv.form
  obtain ⟨cf, c1, c2, c3, c4, g1, g2, g3, g4⟩ := hE
  obtain ⟨n1, n2, n3, n4, n5, n6, m1, m2, m3, m4, k1, k2, k3, k4⟩ := hS
  go_enter Tryz.func219, Tryz.ntmps219
  go_wp2_with fail
  refine (pdivide_far hF ra rl (by omega) (by omega) hn).mono ?_
  rintro e w1 ⟨vs, vr, q, r, rfl, hd, rs, rr, b1, fs, fr⟩
  obtain ⟨qa, qc, rfl⟩ := rs.form
  obtain ⟨ra', rc', rfl⟩ := rr.form
  have l0 := World.block_lt_of_cell? w _ cf
  have l1 := World.block_lt_of_cell? w _ c1
  have l2 := World.block_lt_of_cell? w _ c2
  have l3 := World.block_lt_of_cell? w _ c3
  have l4 := World.block_lt_of_cell? w _ c4
  have hql := hq q r hd
  have HD : Hid _ := hd
  replace cf := (b1.cell (p := ⟨fb, 0, none⟩) l0).trans cf
  replace c1 := (b1.cell (p := ⟨ab, 0, none⟩) l1).trans c1
  replace c2 := (b1.cell (p := ⟨lb, 0, none⟩) l2).trans c2
  replace c3 := (b1.cell (p := ⟨cb, 0, none⟩) l3).trans c3
  replace c4 := (b1.cell (p := ⟨vb, 0, none⟩) l4).trans c4
  replace g1 := (b1.frozen (p := ⟨ab, 0, none⟩) l1).trans g1
  replace g2 := (b1.frozen (p := ⟨lb, 0, none⟩) l2).trans g2
  replace g3 := (b1.frozen (p := ⟨cb, 0, none⟩) l3).trans g3
  replace g4 := (b1.frozen (p := ⟨vb, 0, none⟩) l4).trans g4
  clear hq hd
  go_wp2_with fail
  obtain ⟨u, hu⟩ : ∃ u, u = (w1.setCell ⟨ab, 0, none⟩ (.slice la L.length lc)).setCell ⟨lb, 0, none⟩ (.slice ra' r.length rc') := ⟨_, rfl⟩
  rw [← hu]
  have tu : TurnL [ab, lb, cb, vb] w u := by rw [hu]; exact ((Below.turnL b1 _).put (by simp) 0 _).put (by simp) 0 _
  have t1 : TurnL [ab, lb, cb, vb] w1 u := by rw [hu]; exact ((TurnL.refl _ w1).put (by simp) 0 _).put (by simp) 0 _
  have sz1 := b1.size
  have cfu : u.cell? ⟨fb, 0, none⟩ = some (.pointer (some ⟨b, 0, none⟩)) := by rw [hu]; simp [go_sem, cf, m1, m2, n1, Ne.symm m1, Ne.symm m2]
  have c1u : u.cell? ⟨ab, 0, none⟩ = some (.slice la L.length lc) := by rw [hu]; simp [go_sem, c1, n1, Ne.symm n1]
  have c2u : u.cell? ⟨lb, 0, none⟩ = some (.slice ra' r.length rc') := by rw [hu]; simp [go_sem, c2, n1, Ne.symm n1]
  have c3u : u.cell? ⟨cb, 0, none⟩ = some (.slice ca C.length cc) := by rw [hu]; simp [go_sem, c3, n2, n4, Ne.symm n2, Ne.symm n4]
  have c4u : u.cell? ⟨vb, 0, none⟩ = some (.slice va V.length vc) := by rw [hu]; simp [go_sem, c4, n3, n5, Ne.symm n3, Ne.symm n5]
  have g1u : u.frozen? ⟨ab, 0, none⟩ = false := by rw [hu]; simp [go_sem, g1]
  have g2u : u.frozen? ⟨lb, 0, none⟩ = false := by rw [hu]; simp [go_sem, g2]
  have g3u : u.frozen? ⟨cb, 0, none⟩ = false := by rw [hu]; simp [go_sem, g3]
  have g4u : u.frozen? ⟨vb, 0, none⟩ = false := by rw [hu]; simp [go_sem, g4]
  clear hu cf c1 c2 c3 c4 g1 g2 g3 g4
  have szu := tu.size
  have hG : ∀ g, g ∈ [ab, lb, cb, vb] → g < w.heap.size := fun g hg => by simp at hg; rcases hg with rfl | rfl | rfl | rfl <;> assumption
  have hFu : FieldAt u b := hF.turnL (by simp [k1, k2, k3, k4]) tu
  have RL : Hid (Rd u (.slice la L.length lc) L) := rl.turnL pl tu
  have RR : Hid (Rd u (.slice ra' r.length rc') r) := rr.turnL (ApartL.far fr hG) t1
  have RS : Rd u (.slice qa q.length qc) q := rs.turnL (ApartL.far fs hG) t1
  have RC : Rd u (.slice ca C.length cc) C := rc.turnL pc tu
  have RV : Rd u (.slice va V.length vc) V := rv.turnL pv tu
  have PR : Hid (ApartL [ab, lb, cb, vb] (.slice ra' r.length rc')) := ApartL.far fr hG
  have TU : Hid (TurnL [ab, lb, cb, vb] w u) := tu
  have hml : (mulP q C).length ≤ 3000 := by unfold mulP; rw [mk_length]; have := deg_le (conv (co q) (co C)) (q.length + C.length); omega
  obtain ⟨M, hM⟩ : ∃ M, Hid (M = mulP q C) := ⟨_, rfl⟩
  rw [← hM.out] at hml
  have lf : fb < u.heap.size := by omega
  have la9 : ab < u.heap.size := by omega
  have ll9 : lb < u.heap.size := by omega
  have lc9 : cb < u.heap.size := by omega
  have lv9 : vb < u.heap.size := by omega
  have HM : ∀ W : World, Below u.heap.size u W → Calls Tryz.prog 173 #[.pointer (some ⟨b, 0, none⟩), .slice qa q.length qc, .slice ca C.length cc] W fun e w' => ∃ ma mc, e = .returned (.slice ma M.length mc) ∧ Rd w' (.slice ma M.length mc) M ∧ Below u.heap.size u w' := fun W hW =>
    (pmul_far (hFu.below hW) (RS.below hW) (RC.below hW) (by omega) (by omega)).mono fun e w' ⟨v, h1, h2, h3, h4⟩ => by
      rw [← hM.out] at h2
      obtain ⟨ma, mc, rfl⟩ := h2.form
      exact ⟨ma, mc, h1, h2, Below.next hW h3⟩
  have HA : ∀ (W : World) ma mc, Below u.heap.size u W → Rd W (.slice ma M.length mc) M → Calls Tryz.prog 221 #[.slice va V.length vc, .slice ma M.length mc] W fun e w' => ∃ na nc, e = .returned (.slice na (addP V M).length nc) ∧ Rd w' (.slice na (addP V M).length nc) (addP V M) ∧ Below u.heap.size u w' ∧ Far u.heap.size (.slice na (addP V M).length nc) := fun W ma mc hW hr =>
    (padd_far (RV.below hW) hr (by omega) (by omega)).mono fun e w' ⟨v, h1, h2, h3, h4⟩ => by
      obtain ⟨na, nc, rfl⟩ := h2.form
      exact ⟨na, nc, h1, h2, Below.next hW h3, h4.mono hW.size⟩
  obtain ⟨N, hN⟩ : ∃ N, Hid (N = addP V M) := ⟨_, rfl⟩
  rw [← hN.out] at HA
  have HFin : Hid (∀ (w4 : World) na nc, Below u.heap.size u w4 → Rd w4 (.slice na N.length nc) N → Far u.heap.size (.slice na N.length nc) →
      ∃ q r vr vn, IsDiv A L q r ∧ Eu9 ((w4.setCell ⟨vb, 0, none⟩ (.slice ca C.length cc)).setCell ⟨cb, 0, none⟩ (.slice na N.length nc)) b fb ab lb cb vb (.slice la L.length lc) vr vn (.slice ca C.length cc) ∧ Rd ((w4.setCell ⟨vb, 0, none⟩ (.slice ca C.length cc)).setCell ⟨cb, 0, none⟩ (.slice na N.length nc)) (.slice la L.length lc) L ∧ Rd ((w4.setCell ⟨vb, 0, none⟩ (.slice ca C.length cc)).setCell ⟨cb, 0, none⟩ (.slice na N.length nc)) vr r ∧ Rd ((w4.setCell ⟨vb, 0, none⟩ (.slice ca C.length cc)).setCell ⟨cb, 0, none⟩ (.slice na N.length nc)) vn (addP V (mulP q C)) ∧ Rd ((w4.setCell ⟨vb, 0, none⟩ (.slice ca C.length cc)).setCell ⟨cb, 0, none⟩ (.slice na N.length nc)) (.slice ca C.length cc) C ∧ ApartL [ab, lb, cb, vb] vr ∧ ApartL [ab, lb, cb, vb] vn ∧ TurnL [ab, lb, cb, vb] w ((w4.setCell ⟨vb, 0, none⟩ (.slice ca C.length cc)).setCell ⟨cb, 0, none⟩ (.slice na N.length nc))) := by
    intro w4 na nc b4 r4 f4
    obtain ⟨w5, h5⟩ : ∃ w5, w5 = (w4.setCell ⟨vb, 0, none⟩ (.slice ca C.length cc)).setCell ⟨cb, 0, none⟩ (.slice na N.length nc) := ⟨_, rfl⟩
    have d0 := (b4.cell (p := ⟨fb, 0, none⟩) lf).trans cfu
    have d1 := (b4.cell (p := ⟨ab, 0, none⟩) la9).trans c1u
    have d2 := (b4.cell (p := ⟨lb, 0, none⟩) ll9).trans c2u
    have d3 := (b4.cell (p := ⟨cb, 0, none⟩) lc9).trans c3u
    have d4 := (b4.cell (p := ⟨vb, 0, none⟩) lv9).trans c4u
    have e1 := (b4.frozen (p := ⟨ab, 0, none⟩) la9).trans g1u
    have e2 := (b4.frozen (p := ⟨lb, 0, none⟩) ll9).trans g2u
    have e3 := (b4.frozen (p := ⟨cb, 0, none⟩) lc9).trans g3u
    have e4 := (b4.frozen (p := ⟨vb, 0, none⟩) lv9).trans g4u
    have T5 : TurnL [ab, lb, cb, vb] u w5 := by rw [h5]; exact ((Below.turnL b4 _).put (by simp) 0 _).put (by simp) 0 _
    have T6 : TurnL [ab, lb, cb, vb] w4 w5 := by rw [h5]; exact ((TurnL.refl _ w4).put (by simp) 0 _).put (by simp) 0 _
    rw [← h5]
    have P4 : ApartL [ab, lb, cb, vb] (.slice na N.length nc) := ApartL.far f4 (fun g hg => Nat.lt_of_lt_of_le (hG g hg) szu)
    refine ⟨q, r, _, _, HD.out, ⟨?_, ?_, ?_, ?_, ?_, ?_, ?_, ?_, ?_⟩, RL.out.turnL pl T5, RR.out.turnL PR.out T5, ?_, RC.turnL pc T5, PR.out, P4, TU.out.trans T5⟩
    · rw [h5]; simp [go_sem, d0, m3, m4, Ne.symm m3, Ne.symm m4]
    · rw [h5]; simp [go_sem, d1, n2, n3, Ne.symm n2, Ne.symm n3]
    · rw [h5]; simp [go_sem, d2, n4, n5, Ne.symm n4, Ne.symm n5]
    · rw [h5]; simp [go_sem, d3, n6, Ne.symm n6]
    · rw [h5]; simp [go_sem, d4, n6, Ne.symm n6]
    · rw [h5]; simp [go_sem, e1]
    · rw [h5]; simp [go_sem, e2]
    · rw [h5]; simp [go_sem, e3]
    · rw [h5]; simp [go_sem, e4]
    · rw [← hM.out, ← hN.out]; exact r4.turnL P4 T6
  clear RL RR PR TU tu t1 rs rr ra rl rc rv hF b1 fs fr pl pc pv c1u c2u g1u g2u hG HD n1 n2 n3 n4 n5 m1 m2 k1 k2 k3 k4 l0 l1 l2 l3 l4 hn
  refine wp_region_held_drew (S := fun wx => wx.cell? ⟨fb, 0, none⟩ = some (.pointer (some ⟨b, 0, none⟩))) (by kernel_rfl) ?_ (fun hHeld => ?_)
  · exact cfu
  refine wpAnyH_take (i := 2) (v := ?_) rfl (by kernel_rfl) (by kernel_rfl) (by kernel_rfl) (fun _ _ _ h => h) (Or.inl ⟨by rfl, ?_⟩) (by assumption) ?_
  rotate_left
  · intro w hSw; (try dsimp only at hSw); go_simp; try with_reducible rfl
  try simp only [Act.put, List.setIfInBounds_toArray, List.set_cons_zero, List.set_cons_succ]
  refine wpAnyH_take (i := 3) (v := ?_) rfl (by kernel_rfl) (by kernel_rfl) (by kernel_rfl) (fun _ _ _ h => h) (Or.inl ⟨by rfl, ?_⟩) (by assumption) ?_
  rotate_left
  · intro w hSw; (try dsimp only at hSw); go_simp; try with_reducible rfl
  try simp only [Act.put, List.setIfInBounds_toArray, List.set_cons_zero, List.set_cons_succ]
  refine wpAnyH_ready (rs := [0, 1, 4]) (by kernel_rfl) (by simp) ?_
  refine AllReadyH.cons rfl (fun K hK => ?_) (AllReadyH.cons rfl (fun K hK => ?_) (AllReadyH.cons rfl (fun K hK => ?_) AllReadyH.nil))
  · go_simp
    refine hK.out _ _ ?_ (fun hHeld => ?_)
    · exact hHeld
    clear hK K
    try simp only [Act.put, List.setIfInBounds_toArray, List.set_cons_zero, List.set_cons_succ]
    refine wpAnyH_ready (rs := [1, 4]) (by kernel_rfl) (by simp) ?_
    refine AllReadyH.cons rfl (fun K hK => ?_) (AllReadyH.cons rfl (fun K hK => ?_) AllReadyH.nil)
    · go_simp
      refine hK.out _ _ ?_ (fun hHeld => ?_)
      · exact hHeld
      clear hK K
      try simp only [Act.put, List.setIfInBounds_toArray, List.set_cons_zero, List.set_cons_succ]
      refine wpAnyH_ready (rs := [4]) (by kernel_rfl) (by simp) ?_
      refine AllReadyH.cons rfl (fun K hK => ?_) AllReadyH.nil
      go_simp
      refine hK.out _ _ ?_ (fun hHeld => ?_)
      · exact hHeld
      clear hK K
      try simp only [Act.put, List.setIfInBounds_toArray, List.set_cons_zero, List.set_cons_succ]
      refine wpAnyH_ready (rs := [5]) (by kernel_rfl) (by simp) ?_
      refine AllReadyH.cons rfl (fun K hK => ?_) AllReadyH.nil
      go_simp
      refine (HM _ (by first | assumption | exact (Below.refl _ _).drew)).mono ?_
      rintro e w3 ⟨ma, mc, rfl, r3, b3⟩
      have x1 := (b3.cell (p := ⟨cb, 0, none⟩) lc9).trans c3u
      have x2 := (b3.cell (p := ⟨vb, 0, none⟩) lv9).trans c4u
      try go_simp
      refine hK.out _ _ ?_ (fun hHeld => ?_)
      · exact (b3.cell (p := ⟨fb, 0, none⟩) lf).trans cfu
      clear hK K
      try simp only [Act.put, List.setIfInBounds_toArray, List.set_cons_zero, List.set_cons_succ]
      refine wpAnyH_ready (rs := [6]) (by kernel_rfl) (by simp) ?_
      refine AllReadyH.cons rfl (fun K hK => ?_) AllReadyH.nil
      go_simp
      refine (HA _ _ _ (by assumption) (by assumption)).mono ?_
      rintro e w4 ⟨na, nc, rfl, r4, b4, f4⟩
      have y1 := (b4.cell (p := ⟨cb, 0, none⟩) lc9).trans c3u
      have y2 := (b4.cell (p := ⟨vb, 0, none⟩) lv9).trans c4u
      have z1 := (b4.frozen (p := ⟨cb, 0, none⟩) lc9).trans g3u
      have z2 := (b4.frozen (p := ⟨vb, 0, none⟩) lv9).trans g4u
      try go_simp
      refine hK.out _ _ ?_ (fun hHeld => ?_)
      · exact (b4.cell (p := ⟨fb, 0, none⟩) lf).trans cfu
      clear hK K
      try simp only [Act.put, List.setIfInBounds_toArray, List.set_cons_zero, List.set_cons_succ]
      refine wpAnyH_ready (rs := [7]) (by kernel_rfl) (by simp) ?_
      refine AllReadyH.cons rfl (fun K hK => ?_) AllReadyH.nil
      go_simp
      refine hK.out _ _ ?_ (fun hHeld => ?_)
      · exact (World.cell?_setCell_far _ _ _ _ (Ne.symm m4)).trans hHeld
      clear hK K
      try simp only [Act.put, List.setIfInBounds_toArray, List.set_cons_zero, List.set_cons_succ]
      refine wpAnyH_ready (rs := [8]) (by kernel_rfl) (by simp) ?_
      refine AllReadyH.cons rfl (fun K hK => ?_) AllReadyH.nil
      go_simp
      refine hK.out _ _ ?_ (fun hHeld => ?_)
      · exact (World.cell?_setCell_far _ _ _ _ (Ne.symm m3)).trans hHeld
      clear hK K
      try simp only [Act.put, List.setIfInBounds_toArray, List.set_cons_zero, List.set_cons_succ]
      refine wpAnyH_done (by kernel_rfl) ?_ _
      clear hHeld
      go_end0
      exact ⟨rfl, HFin.out w4 na nc b4 r4 f4⟩
    · go_simp
      refine hK.out _ _ ?_ (fun hHeld => ?_)
      · exact hHeld
      clear hK K
      try simp only [Act.put, List.setIfInBounds_toArray, List.set_cons_zero, List.set_cons_succ]
      refine wpAnyH_ready (rs := [1, 5]) (by kernel_rfl) (by simp) ?_
      refine AllReadyH.cons rfl (fun K hK => ?_) (AllReadyH.cons rfl (fun K hK => ?_) AllReadyH.nil)
      · go_simp
        refine hK.out _ _ ?_ (fun hHeld => ?_)
        · exact hHeld
        clear hK K
        try simp only [Act.put, List.setIfInBounds_toArray, List.set_cons_zero, List.set_cons_succ]
        refine wpAnyH_ready (rs := [5]) (by kernel_rfl) (by simp) ?_
        refine AllReadyH.cons rfl (fun K hK => ?_) AllReadyH.nil
        go_simp
        refine (HM _ (by first | assumption | exact (Below.refl _ _).drew)).mono ?_
        rintro e w3 ⟨ma, mc, rfl, r3, b3⟩
        have x1 := (b3.cell (p := ⟨cb, 0, none⟩) lc9).trans c3u
        have x2 := (b3.cell (p := ⟨vb, 0, none⟩) lv9).trans c4u
        try go_simp
        refine hK.out _ _ ?_ (fun hHeld => ?_)
        · exact (b3.cell (p := ⟨fb, 0, none⟩) lf).trans cfu
        clear hK K
        try simp only [Act.put, List.setIfInBounds_toArray, List.set_cons_zero, List.set_cons_succ]
        refine wpAnyH_ready (rs := [6]) (by kernel_rfl) (by simp) ?_
        refine AllReadyH.cons rfl (fun K hK => ?_) AllReadyH.nil
        go_simp
        refine (HA _ _ _ (by assumption) (by assumption)).mono ?_
        rintro e w4 ⟨na, nc, rfl, r4, b4, f4⟩
        have y1 := (b4.cell (p := ⟨cb, 0, none⟩) lc9).trans c3u
        have y2 := (b4.cell (p := ⟨vb, 0, none⟩) lv9).trans c4u
        have z1 := (b4.frozen (p := ⟨cb, 0, none⟩) lc9).trans g3u
        have z2 := (b4.frozen (p := ⟨vb, 0, none⟩) lv9).trans g4u
        try go_simp
        refine hK.out _ _ ?_ (fun hHeld => ?_)
        · exact (b4.cell (p := ⟨fb, 0, none⟩) lf).trans cfu
        clear hK K
        try simp only [Act.put, List.setIfInBounds_toArray, List.set_cons_zero, List.set_cons_succ]
        refine wpAnyH_ready (rs := [7]) (by kernel_rfl) (by simp) ?_
        refine AllReadyH.cons rfl (fun K hK => ?_) AllReadyH.nil
        go_simp
        refine hK.out _ _ ?_ (fun hHeld => ?_)
        · exact (World.cell?_setCell_far _ _ _ _ (Ne.symm m4)).trans hHeld
        clear hK K
        try simp only [Act.put, List.setIfInBounds_toArray, List.set_cons_zero, List.set_cons_succ]
        refine wpAnyH_ready (rs := [8]) (by kernel_rfl) (by simp) ?_
        refine AllReadyH.cons rfl (fun K hK => ?_) AllReadyH.nil
        go_simp
        refine hK.out _ _ ?_ (fun hHeld => ?_)
        · exact (World.cell?_setCell_far _ _ _ _ (Ne.symm m3)).trans hHeld
        clear hK K
        try simp only [Act.put, List.setIfInBounds_toArray, List.set_cons_zero, List.set_cons_succ]
        refine wpAnyH_done (by kernel_rfl) ?_ _
        clear hHeld
        go_end0
        exact ⟨rfl, HFin.out w4 na nc b4 r4 f4⟩
      · go_simp
        refine (HM _ (by first | assumption | exact (Below.refl _ _).drew)).mono ?_
        rintro e w3 ⟨ma, mc, rfl, r3, b3⟩
        have x1 := (b3.cell (p := ⟨cb, 0, none⟩) lc9).trans c3u
        have x2 := (b3.cell (p := ⟨vb, 0, none⟩) lv9).trans c4u
        try go_simp
        refine hK.out _ _ ?_ (fun hHeld => ?_)
        · exact (b3.cell (p := ⟨fb, 0, none⟩) lf).trans cfu
        clear hK K
        try simp only [Act.put, List.setIfInBounds_toArray, List.set_cons_zero, List.set_cons_succ]
        refine wpAnyH_ready (rs := [1]) (by kernel_rfl) (by simp) ?_
        refine AllReadyH.cons rfl (fun K hK => ?_) AllReadyH.nil
        go_simp
        refine hK.out _ _ ?_ (fun hHeld => ?_)
        · exact hHeld
        clear hK K
        try simp only [Act.put, List.setIfInBounds_toArray, List.set_cons_zero, List.set_cons_succ]
        refine wpAnyH_ready (rs := [6]) (by kernel_rfl) (by simp) ?_
        refine AllReadyH.cons rfl (fun K hK => ?_) AllReadyH.nil
        go_simp
        refine (HA _ _ _ (by assumption) (by assumption)).mono ?_
        rintro e w4 ⟨na, nc, rfl, r4, b4, f4⟩
        have y1 := (b4.cell (p := ⟨cb, 0, none⟩) lc9).trans c3u
        have y2 := (b4.cell (p := ⟨vb, 0, none⟩) lv9).trans c4u
        have z1 := (b4.frozen (p := ⟨cb, 0, none⟩) lc9).trans g3u
        have z2 := (b4.frozen (p := ⟨vb, 0, none⟩) lv9).trans g4u
        try go_simp
        refine hK.out _ _ ?_ (fun hHeld => ?_)
        · exact (b4.cell (p := ⟨fb, 0, none⟩) lf).trans cfu
        clear hK K
        try simp only [Act.put, List.setIfInBounds_toArray, List.set_cons_zero, List.set_cons_succ]
        refine wpAnyH_ready (rs := [7]) (by kernel_rfl) (by simp) ?_
        refine AllReadyH.cons rfl (fun K hK => ?_) AllReadyH.nil
        go_simp
        refine hK.out _ _ ?_ (fun hHeld => ?_)
        · exact (World.cell?_setCell_far _ _ _ _ (Ne.symm m4)).trans hHeld
        clear hK K
        try simp only [Act.put, List.setIfInBounds_toArray, List.set_cons_zero, List.set_cons_succ]
        refine wpAnyH_ready (rs := [8]) (by kernel_rfl) (by simp) ?_
        refine AllReadyH.cons rfl (fun K hK => ?_) AllReadyH.nil
        go_simp
        refine hK.out _ _ ?_ (fun hHeld => ?_)
        · exact (World.cell?_setCell_far _ _ _ _ (Ne.symm m3)).trans hHeld
        clear hK K
        try simp only [Act.put, List.setIfInBounds_toArray, List.set_cons_zero, List.set_cons_succ]
        refine wpAnyH_done (by kernel_rfl) ?_ _
        clear hHeld
        go_end0
        exact ⟨rfl, HFin.out w4 na nc b4 r4 f4⟩
  · go_simp
    refine hK.out _ _ ?_ (fun hHeld => ?_)
    · exact hHeld
    clear hK K
    try simp only [Act.put, List.setIfInBounds_toArray, List.set_cons_zero, List.set_cons_succ]
    refine wpAnyH_ready (rs := [0, 4]) (by kernel_rfl) (by simp) ?_
    refine AllReadyH.cons rfl (fun K hK => ?_) (AllReadyH.cons rfl (fun K hK => ?_) AllReadyH.nil)
    · go_simp
      refine hK.out _ _ ?_ (fun hHeld => ?_)
      · exact hHeld
      clear hK K
      try simp only [Act.put, List.setIfInBounds_toArray, List.set_cons_zero, List.set_cons_succ]
      refine wpAnyH_ready (rs := [4]) (by kernel_rfl) (by simp) ?_
      refine AllReadyH.cons rfl (fun K hK => ?_) AllReadyH.nil
      go_simp
      refine hK.out _ _ ?_ (fun hHeld => ?_)
      · exact hHeld
      clear hK K
      try simp only [Act.put, List.setIfInBounds_toArray, List.set_cons_zero, List.set_cons_succ]
      refine wpAnyH_ready (rs := [5]) (by kernel_rfl) (by simp) ?_
      refine AllReadyH.cons rfl (fun K hK => ?_) AllReadyH.nil
      go_simp
      refine (HM _ (by first | assumption | exact (Below.refl _ _).drew)).mono ?_
      rintro e w3 ⟨ma, mc, rfl, r3, b3⟩
      have x1 := (b3.cell (p := ⟨cb, 0, none⟩) lc9).trans c3u
      have x2 := (b3.cell (p := ⟨vb, 0, none⟩) lv9).trans c4u
      try go_simp
      refine hK.out _ _ ?_ (fun hHeld => ?_)
      · exact (b3.cell (p := ⟨fb, 0, none⟩) lf).trans cfu
      clear hK K
      try simp only [Act.put, List.setIfInBounds_toArray, List.set_cons_zero, List.set_cons_succ]
      refine wpAnyH_ready (rs := [6]) (by kernel_rfl) (by simp) ?_
      refine AllReadyH.cons rfl (fun K hK => ?_) AllReadyH.nil
      go_simp
      refine (HA _ _ _ (by assumption) (by assumption)).mono ?_
      rintro e w4 ⟨na, nc, rfl, r4, b4, f4⟩
      have y1 := (b4.cell (p := ⟨cb, 0, none⟩) lc9).trans c3u
      have y2 := (b4.cell (p := ⟨vb, 0, none⟩) lv9).trans c4u
      have z1 := (b4.frozen (p := ⟨cb, 0, none⟩) lc9).trans g3u
      have z2 := (b4.frozen (p := ⟨vb, 0, none⟩) lv9).trans g4u
      try go_simp
      refine hK.out _ _ ?_ (fun hHeld => ?_)
      · exact (b4.cell (p := ⟨fb, 0, none⟩) lf).trans cfu
      clear hK K
      try simp only [Act.put, List.setIfInBounds_toArray, List.set_cons_zero, List.set_cons_succ]
      refine wpAnyH_ready (rs := [7]) (by kernel_rfl) (by simp) ?_
      refine AllReadyH.cons rfl (fun K hK => ?_) AllReadyH.nil
      go_simp
      refine hK.out _ _ ?_ (fun hHeld => ?_)
      · exact (World.cell?_setCell_far _ _ _ _ (Ne.symm m4)).trans hHeld
      clear hK K
      try simp only [Act.put, List.setIfInBounds_toArray, List.set_cons_zero, List.set_cons_succ]
      refine wpAnyH_ready (rs := [8]) (by kernel_rfl) (by simp) ?_
      refine AllReadyH.cons rfl (fun K hK => ?_) AllReadyH.nil
      go_simp
      refine hK.out _ _ ?_ (fun hHeld => ?_)
      · exact (World.cell?_setCell_far _ _ _ _ (Ne.symm m3)).trans hHeld
      clear hK K
      try simp only [Act.put, List.setIfInBounds_toArray, List.set_cons_zero, List.set_cons_succ]
      refine wpAnyH_done (by kernel_rfl) ?_ _
      clear hHeld
      go_end0
      exact ⟨rfl, HFin.out w4 na nc b4 r4 f4⟩
    · go_simp
      refine hK.out _ _ ?_ (fun hHeld => ?_)
      · exact hHeld
      clear hK K
      try simp only [Act.put, List.setIfInBounds_toArray, List.set_cons_zero, List.set_cons_succ]
      refine wpAnyH_ready (rs := [0, 5]) (by kernel_rfl) (by simp) ?_
      refine AllReadyH.cons rfl (fun K hK => ?_) (AllReadyH.cons rfl (fun K hK => ?_) AllReadyH.nil)
      · go_simp
        refine hK.out _ _ ?_ (fun hHeld => ?_)
        · exact hHeld
        clear hK K
        try simp only [Act.put, List.setIfInBounds_toArray, List.set_cons_zero, List.set_cons_succ]
        refine wpAnyH_ready (rs := [5]) (by kernel_rfl) (by simp) ?_
        refine AllReadyH.cons rfl (fun K hK => ?_) AllReadyH.nil
        go_simp
        refine (HM _ (by first | assumption | exact (Below.refl _ _).drew)).mono ?_
        rintro e w3 ⟨ma, mc, rfl, r3, b3⟩
        have x1 := (b3.cell (p := ⟨cb, 0, none⟩) lc9).trans c3u
        have x2 := (b3.cell (p := ⟨vb, 0, none⟩) lv9).trans c4u
        try go_simp
        refine hK.out _ _ ?_ (fun hHeld => ?_)
        · exact (b3.cell (p := ⟨fb, 0, none⟩) lf).trans cfu
        clear hK K
        try simp only [Act.put, List.setIfInBounds_toArray, List.set_cons_zero, List.set_cons_succ]
        refine wpAnyH_ready (rs := [6]) (by kernel_rfl) (by simp) ?_
        refine AllReadyH.cons rfl (fun K hK => ?_) AllReadyH.nil
        go_simp
        refine (HA _ _ _ (by assumption) (by assumption)).mono ?_
        rintro e w4 ⟨na, nc, rfl, r4, b4, f4⟩
        have y1 := (b4.cell (p := ⟨cb, 0, none⟩) lc9).trans c3u
        have y2 := (b4.cell (p := ⟨vb, 0, none⟩) lv9).trans c4u
        have z1 := (b4.frozen (p := ⟨cb, 0, none⟩) lc9).trans g3u
        have z2 := (b4.frozen (p := ⟨vb, 0, none⟩) lv9).trans g4u
        try go_simp
        refine hK.out _ _ ?_ (fun hHeld => ?_)
        · exact (b4.cell (p := ⟨fb, 0, none⟩) lf).trans cfu
        clear hK K
        try simp only [Act.put, List.setIfInBounds_toArray, List.set_cons_zero, List.set_cons_succ]
        refine wpAnyH_ready (rs := [7]) (by kernel_rfl) (by simp) ?_
        refine AllReadyH.cons rfl (fun K hK => ?_) AllReadyH.nil
        go_simp
        refine hK.out _ _ ?_ (fun hHeld => ?_)
        · exact (World.cell?_setCell_far _ _ _ _ (Ne.symm m4)).trans hHeld
        clear hK K
        try simp only [Act.put, List.setIfInBounds_toArray, List.set_cons_zero, List.set_cons_succ]
        refine wpAnyH_ready (rs := [8]) (by kernel_rfl) (by simp) ?_
        refine AllReadyH.cons rfl (fun K hK => ?_) AllReadyH.nil
        go_simp
        refine hK.out _ _ ?_ (fun hHeld => ?_)
        · exact (World.cell?_setCell_far _ _ _ _ (Ne.symm m3)).trans hHeld
        clear hK K
        try simp only [Act.put, List.setIfInBounds_toArray, List.set_cons_zero, List.set_cons_succ]
        refine wpAnyH_done (by kernel_rfl) ?_ _
        clear hHeld
        go_end0
        exact ⟨rfl, HFin.out w4 na nc b4 r4 f4⟩
      · go_simp
        refine (HM _ (by first | assumption | exact (Below.refl _ _).drew)).mono ?_
        rintro e w3 ⟨ma, mc, rfl, r3, b3⟩
        have x1 := (b3.cell (p := ⟨cb, 0, none⟩) lc9).trans c3u
        have x2 := (b3.cell (p := ⟨vb, 0, none⟩) lv9).trans c4u
        try go_simp
        refine hK.out _ _ ?_ (fun hHeld => ?_)
        · exact (b3.cell (p := ⟨fb, 0, none⟩) lf).trans cfu
        clear hK K
        try simp only [Act.put, List.setIfInBounds_toArray, List.set_cons_zero, List.set_cons_succ]
        refine wpAnyH_ready (rs := [0, 6]) (by kernel_rfl) (by simp) ?_
        refine AllReadyH.cons rfl (fun K hK => ?_) (AllReadyH.cons rfl (fun K hK => ?_) AllReadyH.nil)
        · go_simp
          refine hK.out _ _ ?_ (fun hHeld => ?_)
          · exact hHeld
          clear hK K
          try simp only [Act.put, List.setIfInBounds_toArray, List.set_cons_zero, List.set_cons_succ]
          refine wpAnyH_ready (rs := [6]) (by kernel_rfl) (by simp) ?_
          refine AllReadyH.cons rfl (fun K hK => ?_) AllReadyH.nil
          go_simp
          refine (HA _ _ _ (by assumption) (by assumption)).mono ?_
          rintro e w4 ⟨na, nc, rfl, r4, b4, f4⟩
          have y1 := (b4.cell (p := ⟨cb, 0, none⟩) lc9).trans c3u
          have y2 := (b4.cell (p := ⟨vb, 0, none⟩) lv9).trans c4u
          have z1 := (b4.frozen (p := ⟨cb, 0, none⟩) lc9).trans g3u
          have z2 := (b4.frozen (p := ⟨vb, 0, none⟩) lv9).trans g4u
          try go_simp
          refine hK.out _ _ ?_ (fun hHeld => ?_)
          · exact (b4.cell (p := ⟨fb, 0, none⟩) lf).trans cfu
          clear hK K
          try simp only [Act.put, List.setIfInBounds_toArray, List.set_cons_zero, List.set_cons_succ]
          refine wpAnyH_ready (rs := [7]) (by kernel_rfl) (by simp) ?_
          refine AllReadyH.cons rfl (fun K hK => ?_) AllReadyH.nil
          go_simp
          refine hK.out _ _ ?_ (fun hHeld => ?_)
          · exact (World.cell?_setCell_far _ _ _ _ (Ne.symm m4)).trans hHeld
          clear hK K
          try simp only [Act.put, List.setIfInBounds_toArray, List.set_cons_zero, List.set_cons_succ]
          refine wpAnyH_ready (rs := [8]) (by kernel_rfl) (by simp) ?_
          refine AllReadyH.cons rfl (fun K hK => ?_) AllReadyH.nil
          go_simp
          refine hK.out _ _ ?_ (fun hHeld => ?_)
          · exact (World.cell?_setCell_far _ _ _ _ (Ne.symm m3)).trans hHeld
          clear hK K
          try simp only [Act.put, List.setIfInBounds_toArray, List.set_cons_zero, List.set_cons_succ]
          refine wpAnyH_done (by kernel_rfl) ?_ _
          clear hHeld
          go_end0
          exact ⟨rfl, HFin.out w4 na nc b4 r4 f4⟩
        · go_simp
          refine (HA _ _ _ (by assumption) (by assumption)).mono ?_
          rintro e w4 ⟨na, nc, rfl, r4, b4, f4⟩
          have y1 := (b4.cell (p := ⟨cb, 0, none⟩) lc9).trans c3u
          have y2 := (b4.cell (p := ⟨vb, 0, none⟩) lv9).trans c4u
          have z1 := (b4.frozen (p := ⟨cb, 0, none⟩) lc9).trans g3u
          have z2 := (b4.frozen (p := ⟨vb, 0, none⟩) lv9).trans g4u
          try go_simp
          refine hK.out _ _ ?_ (fun hHeld => ?_)
          · exact (b4.cell (p := ⟨fb, 0, none⟩) lf).trans cfu
          clear hK K
          try simp only [Act.put, List.setIfInBounds_toArray, List.set_cons_zero, List.set_cons_succ]
          refine wpAnyH_ready (rs := [0]) (by kernel_rfl) (by simp) ?_
          refine AllReadyH.cons rfl (fun K hK => ?_) AllReadyH.nil
          go_simp
          refine hK.out _ _ ?_ (fun hHeld => ?_)
          · exact hHeld
          clear hK K
          try simp only [Act.put, List.setIfInBounds_toArray, List.set_cons_zero, List.set_cons_succ]
          refine wpAnyH_ready (rs := [7]) (by kernel_rfl) (by simp) ?_
          refine AllReadyH.cons rfl (fun K hK => ?_) AllReadyH.nil
          go_simp
          refine hK.out _ _ ?_ (fun hHeld => ?_)
          · exact (World.cell?_setCell_far _ _ _ _ (Ne.symm m4)).trans hHeld
          clear hK K
          try simp only [Act.put, List.setIfInBounds_toArray, List.set_cons_zero, List.set_cons_succ]
          refine wpAnyH_ready (rs := [8]) (by kernel_rfl) (by simp) ?_
          refine AllReadyH.cons rfl (fun K hK => ?_) AllReadyH.nil
          go_simp
          refine hK.out _ _ ?_ (fun hHeld => ?_)
          · exact (World.cell?_setCell_far _ _ _ _ (Ne.symm m3)).trans hHeld
          clear hK K
          try simp only [Act.put, List.setIfInBounds_toArray, List.set_cons_zero, List.set_cons_succ]
          refine wpAnyH_done (by kernel_rfl) ?_ _
          clear hHeld
          go_end0
          exact ⟨rfl, HFin.out w4 na nc b4 r4 f4⟩
  · go_simp
    refine hK.out _ _ ?_ (fun hHeld => ?_)
    · exact hHeld
    clear hK K
    try simp only [Act.put, List.setIfInBounds_toArray, List.set_cons_zero, List.set_cons_succ]
    refine wpAnyH_ready (rs := [0, 1, 5]) (by kernel_rfl) (by simp) ?_
    refine AllReadyH.cons rfl (fun K hK => ?_) (AllReadyH.cons rfl (fun K hK => ?_) (AllReadyH.cons rfl (fun K hK => ?_) AllReadyH.nil))
    · go_simp
      refine hK.out _ _ ?_ (fun hHeld => ?_)
      · exact hHeld
      clear hK K
      try simp only [Act.put, List.setIfInBounds_toArray, List.set_cons_zero, List.set_cons_succ]
      refine wpAnyH_ready (rs := [1, 5]) (by kernel_rfl) (by simp) ?_
      refine AllReadyH.cons rfl (fun K hK => ?_) (AllReadyH.cons rfl (fun K hK => ?_) AllReadyH.nil)
      · go_simp
        refine hK.out _ _ ?_ (fun hHeld => ?_)
        · exact hHeld
        clear hK K
        try simp only [Act.put, List.setIfInBounds_toArray, List.set_cons_zero, List.set_cons_succ]
        refine wpAnyH_ready (rs := [5]) (by kernel_rfl) (by simp) ?_
        refine AllReadyH.cons rfl (fun K hK => ?_) AllReadyH.nil
        go_simp
        refine (HM _ (by first | assumption | exact (Below.refl _ _).drew)).mono ?_
        rintro e w3 ⟨ma, mc, rfl, r3, b3⟩
        have x1 := (b3.cell (p := ⟨cb, 0, none⟩) lc9).trans c3u
        have x2 := (b3.cell (p := ⟨vb, 0, none⟩) lv9).trans c4u
        try go_simp
        refine hK.out _ _ ?_ (fun hHeld => ?_)
        · exact (b3.cell (p := ⟨fb, 0, none⟩) lf).trans cfu
        clear hK K
        try simp only [Act.put, List.setIfInBounds_toArray, List.set_cons_zero, List.set_cons_succ]
        refine wpAnyH_ready (rs := [6]) (by kernel_rfl) (by simp) ?_
        refine AllReadyH.cons rfl (fun K hK => ?_) AllReadyH.nil
        go_simp
        refine (HA _ _ _ (by assumption) (by assumption)).mono ?_
        rintro e w4 ⟨na, nc, rfl, r4, b4, f4⟩
        have y1 := (b4.cell (p := ⟨cb, 0, none⟩) lc9).trans c3u
        have y2 := (b4.cell (p := ⟨vb, 0, none⟩) lv9).trans c4u
        have z1 := (b4.frozen (p := ⟨cb, 0, none⟩) lc9).trans g3u
        have z2 := (b4.frozen (p := ⟨vb, 0, none⟩) lv9).trans g4u
        try go_simp
        refine hK.out _ _ ?_ (fun hHeld => ?_)
        · exact (b4.cell (p := ⟨fb, 0, none⟩) lf).trans cfu
        clear hK K
        try simp only [Act.put, List.setIfInBounds_toArray, List.set_cons_zero, List.set_cons_succ]
        refine wpAnyH_ready (rs := [7]) (by kernel_rfl) (by simp) ?_
        refine AllReadyH.cons rfl (fun K hK => ?_) AllReadyH.nil
        go_simp
        refine hK.out _ _ ?_ (fun hHeld => ?_)
        · exact (World.cell?_setCell_far _ _ _ _ (Ne.symm m4)).trans hHeld
        clear hK K
        try simp only [Act.put, List.setIfInBounds_toArray, List.set_cons_zero, List.set_cons_succ]
        refine wpAnyH_ready (rs := [8]) (by kernel_rfl) (by simp) ?_
        refine AllReadyH.cons rfl (fun K hK => ?_) AllReadyH.nil
        go_simp
        refine hK.out _ _ ?_ (fun hHeld => ?_)
        · exact (World.cell?_setCell_far _ _ _ _ (Ne.symm m3)).trans hHeld
        clear hK K
        try simp only [Act.put, List.setIfInBounds_toArray, List.set_cons_zero, List.set_cons_succ]
        refine wpAnyH_done (by kernel_rfl) ?_ _
        clear hHeld
        go_end0
        exact ⟨rfl, HFin.out w4 na nc b4 r4 f4⟩
      · go_simp
        refine (HM _ (by first | assumption | exact (Below.refl _ _).drew)).mono ?_
        rintro e w3 ⟨ma, mc, rfl, r3, b3⟩
        have x1 := (b3.cell (p := ⟨cb, 0, none⟩) lc9).trans c3u
        have x2 := (b3.cell (p := ⟨vb, 0, none⟩) lv9).trans c4u
        try go_simp
        refine hK.out _ _ ?_ (fun hHeld => ?_)
        · exact (b3.cell (p := ⟨fb, 0, none⟩) lf).trans cfu
        clear hK K
        try simp only [Act.put, List.setIfInBounds_toArray, List.set_cons_zero, List.set_cons_succ]
        refine wpAnyH_ready (rs := [1]) (by kernel_rfl) (by simp) ?_
        refine AllReadyH.cons rfl (fun K hK => ?_) AllReadyH.nil
        go_simp
        refine hK.out _ _ ?_ (fun hHeld => ?_)
        · exact hHeld
        clear hK K
        try simp only [Act.put, List.setIfInBounds_toArray, List.set_cons_zero, List.set_cons_succ]
        refine wpAnyH_ready (rs := [6]) (by kernel_rfl) (by simp) ?_
        refine AllReadyH.cons rfl (fun K hK => ?_) AllReadyH.nil
        go_simp
        refine (HA _ _ _ (by assumption) (by assumption)).mono ?_
        rintro e w4 ⟨na, nc, rfl, r4, b4, f4⟩
        have y1 := (b4.cell (p := ⟨cb, 0, none⟩) lc9).trans c3u
        have y2 := (b4.cell (p := ⟨vb, 0, none⟩) lv9).trans c4u
        have z1 := (b4.frozen (p := ⟨cb, 0, none⟩) lc9).trans g3u
        have z2 := (b4.frozen (p := ⟨vb, 0, none⟩) lv9).trans g4u
        try go_simp
        refine hK.out _ _ ?_ (fun hHeld => ?_)
        · exact (b4.cell (p := ⟨fb, 0, none⟩) lf).trans cfu
        clear hK K
        try simp only [Act.put, List.setIfInBounds_toArray, List.set_cons_zero, List.set_cons_succ]
        refine wpAnyH_ready (rs := [7]) (by kernel_rfl) (by simp) ?_
        refine AllReadyH.cons rfl (fun K hK => ?_) AllReadyH.nil
        go_simp
        refine hK.out _ _ ?_ (fun hHeld => ?_)
        · exact (World.cell?_setCell_far _ _ _ _ (Ne.symm m4)).trans hHeld
        clear hK K
        try simp only [Act.put, List.setIfInBounds_toArray, List.set_cons_zero, List.set_cons_succ]
        refine wpAnyH_ready (rs := [8]) (by kernel_rfl) (by simp) ?_
        refine AllReadyH.cons rfl (fun K hK => ?_) AllReadyH.nil
        go_simp
        refine hK.out _ _ ?_ (fun hHeld => ?_)
        · exact (World.cell?_setCell_far _ _ _ _ (Ne.symm m3)).trans hHeld
        clear hK K
        try simp only [Act.put, List.setIfInBounds_toArray, List.set_cons_zero, List.set_cons_succ]
        refine wpAnyH_done (by kernel_rfl) ?_ _
        clear hHeld
        go_end0
        exact ⟨rfl, HFin.out w4 na nc b4 r4 f4⟩
    · go_simp
      refine hK.out _ _ ?_ (fun hHeld => ?_)
      · exact hHeld
      clear hK K
      try simp only [Act.put, List.setIfInBounds_toArray, List.set_cons_zero, List.set_cons_succ]
      refine wpAnyH_ready (rs := [0, 5]) (by kernel_rfl) (by simp) ?_
      refine AllReadyH.cons rfl (fun K hK => ?_) (AllReadyH.cons rfl (fun K hK => ?_) AllReadyH.nil)
      · go_simp
        refine hK.out _ _ ?_ (fun hHeld => ?_)
        · exact hHeld
        clear hK K
        try simp only [Act.put, List.setIfInBounds_toArray, List.set_cons_zero, List.set_cons_succ]
        refine wpAnyH_ready (rs := [5]) (by kernel_rfl) (by simp) ?_
        refine AllReadyH.cons rfl (fun K hK => ?_) AllReadyH.nil
        go_simp
        refine (HM _ (by first | assumption | exact (Below.refl _ _).drew)).mono ?_
        rintro e w3 ⟨ma, mc, rfl, r3, b3⟩
        have x1 := (b3.cell (p := ⟨cb, 0, none⟩) lc9).trans c3u
        have x2 := (b3.cell (p := ⟨vb, 0, none⟩) lv9).trans c4u
        try go_simp
        refine hK.out _ _ ?_ (fun hHeld => ?_)
        · exact (b3.cell (p := ⟨fb, 0, none⟩) lf).trans cfu
        clear hK K
        try simp only [Act.put, List.setIfInBounds_toArray, List.set_cons_zero, List.set_cons_succ]
        refine wpAnyH_ready (rs := [6]) (by kernel_rfl) (by simp) ?_
        refine AllReadyH.cons rfl (fun K hK => ?_) AllReadyH.nil
        go_simp
        refine (HA _ _ _ (by assumption) (by assumption)).mono ?_
        rintro e w4 ⟨na, nc, rfl, r4, b4, f4⟩
        have y1 := (b4.cell (p := ⟨cb, 0, none⟩) lc9).trans c3u
        have y2 := (b4.cell (p := ⟨vb, 0, none⟩) lv9).trans c4u
        have z1 := (b4.frozen (p := ⟨cb, 0, none⟩) lc9).trans g3u
        have z2 := (b4.frozen (p := ⟨vb, 0, none⟩) lv9).trans g4u
        try go_simp
        refine hK.out _ _ ?_ (fun hHeld => ?_)
        · exact (b4.cell (p := ⟨fb, 0, none⟩) lf).trans cfu
        clear hK K
        try simp only [Act.put, List.setIfInBounds_toArray, List.set_cons_zero, List.set_cons_succ]
        refine wpAnyH_ready (rs := [7]) (by kernel_rfl) (by simp) ?_
        refine AllReadyH.cons rfl (fun K hK => ?_) AllReadyH.nil
        go_simp
        refine hK.out _ _ ?_ (fun hHeld => ?_)
        · exact (World.cell?_setCell_far _ _ _ _ (Ne.symm m4)).trans hHeld
        clear hK K
        try simp only [Act.put, List.setIfInBounds_toArray, List.set_cons_zero, List.set_cons_succ]
        refine wpAnyH_ready (rs := [8]) (by kernel_rfl) (by simp) ?_
        refine AllReadyH.cons rfl (fun K hK => ?_) AllReadyH.nil
        go_simp
        refine hK.out _ _ ?_ (fun hHeld => ?_)
        · exact (World.cell?_setCell_far _ _ _ _ (Ne.symm m3)).trans hHeld
        clear hK K
        try simp only [Act.put, List.setIfInBounds_toArray, List.set_cons_zero, List.set_cons_succ]
        refine wpAnyH_done (by kernel_rfl) ?_ _
        clear hHeld
        go_end0
        exact ⟨rfl, HFin.out w4 na nc b4 r4 f4⟩
      · go_simp
        refine (HM _ (by first | assumption | exact (Below.refl _ _).drew)).mono ?_
        rintro e w3 ⟨ma, mc, rfl, r3, b3⟩
        have x1 := (b3.cell (p := ⟨cb, 0, none⟩) lc9).trans c3u
        have x2 := (b3.cell (p := ⟨vb, 0, none⟩) lv9).trans c4u
        try go_simp
        refine hK.out _ _ ?_ (fun hHeld => ?_)
        · exact (b3.cell (p := ⟨fb, 0, none⟩) lf).trans cfu
        clear hK K
        try simp only [Act.put, List.setIfInBounds_toArray, List.set_cons_zero, List.set_cons_succ]
        refine wpAnyH_ready (rs := [0, 6]) (by kernel_rfl) (by simp) ?_
        refine AllReadyH.cons rfl (fun K hK => ?_) (AllReadyH.cons rfl (fun K hK => ?_) AllReadyH.nil)
        · go_simp
          refine hK.out _ _ ?_ (fun hHeld => ?_)
          · exact hHeld
          clear hK K
          try simp only [Act.put, List.setIfInBounds_toArray, List.set_cons_zero, List.set_cons_succ]
          refine wpAnyH_ready (rs := [6]) (by kernel_rfl) (by simp) ?_
          refine AllReadyH.cons rfl (fun K hK => ?_) AllReadyH.nil
          go_simp
          refine (HA _ _ _ (by assumption) (by assumption)).mono ?_
          rintro e w4 ⟨na, nc, rfl, r4, b4, f4⟩
          have y1 := (b4.cell (p := ⟨cb, 0, none⟩) lc9).trans c3u
          have y2 := (b4.cell (p := ⟨vb, 0, none⟩) lv9).trans c4u
          have z1 := (b4.frozen (p := ⟨cb, 0, none⟩) lc9).trans g3u
          have z2 := (b4.frozen (p := ⟨vb, 0, none⟩) lv9).trans g4u
          try go_simp
          refine hK.out _ _ ?_ (fun hHeld => ?_)
          · exact (b4.cell (p := ⟨fb, 0, none⟩) lf).trans cfu
          clear hK K
          try simp only [Act.put, List.setIfInBounds_toArray, List.set_cons_zero, List.set_cons_succ]
          refine wpAnyH_ready (rs := [7]) (by kernel_rfl) (by simp) ?_
          refine AllReadyH.cons rfl (fun K hK => ?_) AllReadyH.nil
          go_simp
          refine hK.out _ _ ?_ (fun hHeld => ?_)
          · exact (World.cell?_setCell_far _ _ _ _ (Ne.symm m4)).trans hHeld
          clear hK K
          try simp only [Act.put, List.setIfInBounds_toArray, List.set_cons_zero, List.set_cons_succ]
          refine wpAnyH_ready (rs := [8]) (by kernel_rfl) (by simp) ?_
          refine AllReadyH.cons rfl (fun K hK => ?_) AllReadyH.nil
          go_simp
          refine hK.out _ _ ?_ (fun hHeld => ?_)
          · exact (World.cell?_setCell_far _ _ _ _ (Ne.symm m3)).trans hHeld
          clear hK K
          try simp only [Act.put, List.setIfInBounds_toArray, List.set_cons_zero, List.set_cons_succ]
          refine wpAnyH_done (by kernel_rfl) ?_ _
          clear hHeld
          go_end0
          exact ⟨rfl, HFin.out w4 na nc b4 r4 f4⟩
        · go_simp
          refine (HA _ _ _ (by assumption) (by assumption)).mono ?_
          rintro e w4 ⟨na, nc, rfl, r4, b4, f4⟩
          have y1 := (b4.cell (p := ⟨cb, 0, none⟩) lc9).trans c3u
          have y2 := (b4.cell (p := ⟨vb, 0, none⟩) lv9).trans c4u
          have z1 := (b4.frozen (p := ⟨cb, 0, none⟩) lc9).trans g3u
          have z2 := (b4.frozen (p := ⟨vb, 0, none⟩) lv9).trans g4u
          try go_simp
          refine hK.out _ _ ?_ (fun hHeld => ?_)
          · exact (b4.cell (p := ⟨fb, 0, none⟩) lf).trans cfu
          clear hK K
          try simp only [Act.put, List.setIfInBounds_toArray, List.set_cons_zero, List.set_cons_succ]
          refine wpAnyH_ready (rs := [0]) (by kernel_rfl) (by simp) ?_
          refine AllReadyH.cons rfl (fun K hK => ?_) AllReadyH.nil
          go_simp
          refine hK.out _ _ ?_ (fun hHeld => ?_)
          · exact hHeld
          clear hK K
          try simp only [Act.put, List.setIfInBounds_toArray, List.set_cons_zero, List.set_cons_succ]
          refine wpAnyH_ready (rs := [7]) (by kernel_rfl) (by simp) ?_
          refine AllReadyH.cons rfl (fun K hK => ?_) AllReadyH.nil
          go_simp
          refine hK.out _ _ ?_ (fun hHeld => ?_)
          · exact (World.cell?_setCell_far _ _ _ _ (Ne.symm m4)).trans hHeld
          clear hK K
          try simp only [Act.put, List.setIfInBounds_toArray, List.set_cons_zero, List.set_cons_succ]
          refine wpAnyH_ready (rs := [8]) (by kernel_rfl) (by simp) ?_
          refine AllReadyH.cons rfl (fun K hK => ?_) AllReadyH.nil
          go_simp
          refine hK.out _ _ ?_ (fun hHeld => ?_)
          · exact (World.cell?_setCell_far _ _ _ _ (Ne.symm m3)).trans hHeld
          clear hK K
          try simp only [Act.put, List.setIfInBounds_toArray, List.set_cons_zero, List.set_cons_succ]
          refine wpAnyH_done (by kernel_rfl) ?_ _
          clear hHeld
          go_end0
          exact ⟨rfl, HFin.out w4 na nc b4 r4 f4⟩
    · go_simp
      refine (HM _ (by first | assumption | exact (Below.refl _ _).drew)).mono ?_
      rintro e w3 ⟨ma, mc, rfl, r3, b3⟩
      have x1 := (b3.cell (p := ⟨cb, 0, none⟩) lc9).trans c3u
      have x2 := (b3.cell (p := ⟨vb, 0, none⟩) lv9).trans c4u
      try go_simp
      refine hK.out _ _ ?_ (fun hHeld => ?_)
      · exact (b3.cell (p := ⟨fb, 0, none⟩) lf).trans cfu
      clear hK K
      try simp only [Act.put, List.setIfInBounds_toArray, List.set_cons_zero, List.set_cons_succ]
      refine wpAnyH_ready (rs := [0, 1]) (by kernel_rfl) (by simp) ?_
      refine AllReadyH.cons rfl (fun K hK => ?_) (AllReadyH.cons rfl (fun K hK => ?_) AllReadyH.nil)
      · go_simp
        refine hK.out _ _ ?_ (fun hHeld => ?_)
        · exact hHeld
        clear hK K
        try simp only [Act.put, List.setIfInBounds_toArray, List.set_cons_zero, List.set_cons_succ]
        refine wpAnyH_ready (rs := [1]) (by kernel_rfl) (by simp) ?_
        refine AllReadyH.cons rfl (fun K hK => ?_) AllReadyH.nil
        go_simp
        refine hK.out _ _ ?_ (fun hHeld => ?_)
        · exact hHeld
        clear hK K
        try simp only [Act.put, List.setIfInBounds_toArray, List.set_cons_zero, List.set_cons_succ]
        refine wpAnyH_ready (rs := [6]) (by kernel_rfl) (by simp) ?_
        refine AllReadyH.cons rfl (fun K hK => ?_) AllReadyH.nil
        go_simp
        refine (HA _ _ _ (by assumption) (by assumption)).mono ?_
        rintro e w4 ⟨na, nc, rfl, r4, b4, f4⟩
        have y1 := (b4.cell (p := ⟨cb, 0, none⟩) lc9).trans c3u
        have y2 := (b4.cell (p := ⟨vb, 0, none⟩) lv9).trans c4u
        have z1 := (b4.frozen (p := ⟨cb, 0, none⟩) lc9).trans g3u
        have z2 := (b4.frozen (p := ⟨vb, 0, none⟩) lv9).trans g4u
        try go_simp
        refine hK.out _ _ ?_ (fun hHeld => ?_)
        · exact (b4.cell (p := ⟨fb, 0, none⟩) lf).trans cfu
        clear hK K
        try simp only [Act.put, List.setIfInBounds_toArray, List.set_cons_zero, List.set_cons_succ]
        refine wpAnyH_ready (rs := [7]) (by kernel_rfl) (by simp) ?_
        refine AllReadyH.cons rfl (fun K hK => ?_) AllReadyH.nil
        go_simp
        refine hK.out _ _ ?_ (fun hHeld => ?_)
        · exact (World.cell?_setCell_far _ _ _ _ (Ne.symm m4)).trans hHeld
        clear hK K
        try simp only [Act.put, List.setIfInBounds_toArray, List.set_cons_zero, List.set_cons_succ]
        refine wpAnyH_ready (rs := [8]) (by kernel_rfl) (by simp) ?_
        refine AllReadyH.cons rfl (fun K hK => ?_) AllReadyH.nil
        go_simp
        refine hK.out _ _ ?_ (fun hHeld => ?_)
        · exact (World.cell?_setCell_far _ _ _ _ (Ne.symm m3)).trans hHeld
        clear hK K
        try simp only [Act.put, List.setIfInBounds_toArray, List.set_cons_zero, List.set_cons_succ]
        refine wpAnyH_done (by kernel_rfl) ?_ _
        clear hHeld
        go_end0
        exact ⟨rfl, HFin.out w4 na nc b4 r4 f4⟩
      · go_simp
        refine hK.out _ _ ?_ (fun hHeld => ?_)
        · exact hHeld
        clear hK K
        try simp only [Act.put, List.setIfInBounds_toArray, List.set_cons_zero, List.set_cons_succ]
        refine wpAnyH_ready (rs := [0, 6]) (by kernel_rfl) (by simp) ?_
        refine AllReadyH.cons rfl (fun K hK => ?_) (AllReadyH.cons rfl (fun K hK => ?_) AllReadyH.nil)
        · go_simp
          refine hK.out _ _ ?_ (fun hHeld => ?_)
          · exact hHeld
          clear hK K
          try simp only [Act.put, List.setIfInBounds_toArray, List.set_cons_zero, List.set_cons_succ]
          refine wpAnyH_ready (rs := [6]) (by kernel_rfl) (by simp) ?_
          refine AllReadyH.cons rfl (fun K hK => ?_) AllReadyH.nil
          go_simp
          refine (HA _ _ _ (by assumption) (by assumption)).mono ?_
          rintro e w4 ⟨na, nc, rfl, r4, b4, f4⟩
          have y1 := (b4.cell (p := ⟨cb, 0, none⟩) lc9).trans c3u
          have y2 := (b4.cell (p := ⟨vb, 0, none⟩) lv9).trans c4u
          have z1 := (b4.frozen (p := ⟨cb, 0, none⟩) lc9).trans g3u
          have z2 := (b4.frozen (p := ⟨vb, 0, none⟩) lv9).trans g4u
          try go_simp
          refine hK.out _ _ ?_ (fun hHeld => ?_)
          · exact (b4.cell (p := ⟨fb, 0, none⟩) lf).trans cfu
          clear hK K
          try simp only [Act.put, List.setIfInBounds_toArray, List.set_cons_zero, List.set_cons_succ]
          refine wpAnyH_ready (rs := [7]) (by kernel_rfl) (by simp) ?_
          refine AllReadyH.cons rfl (fun K hK => ?_) AllReadyH.nil
          go_simp
          refine hK.out _ _ ?_ (fun hHeld => ?_)
          · exact (World.cell?_setCell_far _ _ _ _ (Ne.symm m4)).trans hHeld
          clear hK K
          try simp only [Act.put, List.setIfInBounds_toArray, List.set_cons_zero, List.set_cons_succ]
          refine wpAnyH_ready (rs := [8]) (by kernel_rfl) (by simp) ?_
          refine AllReadyH.cons rfl (fun K hK => ?_) AllReadyH.nil
          go_simp
          refine hK.out _ _ ?_ (fun hHeld => ?_)
          · exact (World.cell?_setCell_far _ _ _ _ (Ne.symm m3)).trans hHeld
          clear hK K
          try simp only [Act.put, List.setIfInBounds_toArray, List.set_cons_zero, List.set_cons_succ]
          refine wpAnyH_done (by kernel_rfl) ?_ _
          clear hHeld
          go_end0
          exact ⟨rfl, HFin.out w4 na nc b4 r4 f4⟩
        · go_simp
          refine (HA _ _ _ (by assumption) (by assumption)).mono ?_
          rintro e w4 ⟨na, nc, rfl, r4, b4, f4⟩
          have y1 := (b4.cell (p := ⟨cb, 0, none⟩) lc9).trans c3u
          have y2 := (b4.cell (p := ⟨vb, 0, none⟩) lv9).trans c4u
          have z1 := (b4.frozen (p := ⟨cb, 0, none⟩) lc9).trans g3u
          have z2 := (b4.frozen (p := ⟨vb, 0, none⟩) lv9).trans g4u
          try go_simp
          refine hK.out _ _ ?_ (fun hHeld => ?_)
          · exact (b4.cell (p := ⟨fb, 0, none⟩) lf).trans cfu
          clear hK K
          try simp only [Act.put, List.setIfInBounds_toArray, List.set_cons_zero, List.set_cons_succ]
          refine wpAnyH_ready (rs := [0]) (by kernel_rfl) (by simp) ?_
          refine AllReadyH.cons rfl (fun K hK => ?_) AllReadyH.nil
          go_simp
          refine hK.out _ _ ?_ (fun hHeld => ?_)
          · exact hHeld
          clear hK K
          try simp only [Act.put, List.setIfInBounds_toArray, List.set_cons_zero, List.set_cons_succ]
          refine wpAnyH_ready (rs := [7]) (by kernel_rfl) (by simp) ?_
          refine AllReadyH.cons rfl (fun K hK => ?_) AllReadyH.nil
          go_simp
          refine hK.out _ _ ?_ (fun hHeld => ?_)
          · exact (World.cell?_setCell_far _ _ _ _ (Ne.symm m4)).trans hHeld
          clear hK K
          try simp only [Act.put, List.setIfInBounds_toArray, List.set_cons_zero, List.set_cons_succ]
          refine wpAnyH_ready (rs := [8]) (by kernel_rfl) (by simp) ?_
          refine AllReadyH.cons rfl (fun K hK => ?_) AllReadyH.nil
          go_simp
          refine hK.out _ _ ?_ (fun hHeld => ?_)
          · exact (World.cell?_setCell_far _ _ _ _ (Ne.symm m3)).trans hHeld
          clear hK K
          try simp only [Act.put, List.setIfInBounds_toArray, List.set_cons_zero, List.set_cons_succ]
          refine wpAnyH_done (by kernel_rfl) ?_ _
          clear hHeld
          go_end0
          exact ⟨rfl, HFin.out w4 na nc b4 r4 f4⟩
end Go.Proofs.YtddnfhfangfgeaaGreat.Gf

