/- TEXTS JOINED: CtCJ, CtAw. -/
import Derived.Test.YtndlfmofjmieaaaPome23
namespace Go.Proofs.Ytndlfmofjmieaaa.Gf
set_option linter.unusedVariables false
set_option linter.unusedSimpArgs false
open Go.RowKit
open Go.Maps (Keyed)
/-- what All answers -/
def AllC19 (w : World) (L : List ObS) (e : Ending) (w' : World) : Prop := ∃ v M, e = .returned v ∧ OwnOb w' w.heap.size v M ∧ oL M = L ∧ Below w.heap.size w w'
theorem OwnOb.weak19 {w : World} {base base' : Nat} {v : Value} {L : List ObV} (h : OwnOb w base v L) (hb : base' ≤ base) : OwnOb w base' v L :=
  ⟨by
    obtain ⟨h0, h | ⟨g2, cap, cur, hv, hgg, hh, r⟩⟩ := h.row
    · exact ⟨h0, Or.inl h⟩
    · exact ⟨h0, Or.inr ⟨g2, cap, cur, hv, Nat.le_trans hb hgg, hh, r⟩⟩, h.ea, fun c hc x n k e => (h.ap c hc x n k e).imp id fun q => ⟨Nat.le_trans hb q.1, q.2⟩⟩
theorem OwnOb.form19' {w : World} {base : Nat} {v : Value} {M : List ObV} (h : OwnOb w base v M) : ∃ a c, v = .slice a M.length c ∧ (a = none ∨ ∃ b off, a = some ⟨b, off, none⟩) := by
  obtain ⟨_, ⟨h1, h2⟩ | ⟨g, cap, cur, hv, _⟩⟩ := h.row
  · exact ⟨none, 0, by rw [h1, h2], Or.inl rfl⟩
  · exact ⟨_, cap, hv, Or.inr ⟨g, 0, rfl⟩⟩
set_option maxRecDepth 100000 in
set_option maxHeartbeats 4000000 in
theorem call19_any {w : World} {cb mb : Nat} {g : GeoS} {LV : List ObV} {P : Nat → Prop} (h : CatI w cb mb g LV P) : Calls Try.prog 17 #[.pointer (some ⟨cb, 0, none⟩)] w (AllC19 w (oL LV)) := by
  have H := hidK h
  have l4 := h.few.2
  have c6 := h.c6
  have KK := keysC_call (some mb) w
  have KS := sortedC_call h.mp h.inv.rise (by omega)
  clear h
  go_enter Try.func17, Try.ntmps17
  go_wp2_with fail
  refine KK.mono ?_
  clear KK
  rintro _ wq ⟨rfl, eq⟩
  rw [eq]
  clear eq wq
  go_wp2_with fail
  refine KS.mono ?_
  clear KS
  rintro _ w3 ⟨vk, rfl, hrow, b3⟩
  obtain ⟨ka, kc, rfl⟩ : ∃ a c, vk = .slice a LV.length c := by
    obtain ⟨_, ⟨h1, h2⟩ | ⟨g, cap, cur, hv, _⟩⟩ := hrow
    · exact ⟨none, 0, by rw [h1, h2]⟩
    · exact ⟨_, cap, hv⟩
  have KC : Hid (∀ V, Below w3.heap.size w3 V → ∀ r, r < LV.length → ∃ kb, ka = some ⟨kb, 0, none⟩ ∧ V.cell? ⟨kb, r, none⟩ = some (.string ⟨((keysC LV).getD r []).toArray⟩)) := fun V bV r hr => by
    have hrow' := hrow
    obtain ⟨_, ⟨h1, h2⟩ | ⟨g, cap, cur, hv, hg, hh, hc, hm, hs, ht⟩⟩ := hrow
    · omega
    · simp at hv
      obtain ⟨rfl, rfl⟩ := hv
      have hlt := World.ownsRow.lt hrow' g rfl
      refine ⟨g, rfl, (bV.cell (p := ⟨g, r, none⟩) hlt.2).trans ?_⟩
      rw [World.ownsRow.cellAt hrow' r (by omega), List.getElem?_map, List.getElem?_eq_getElem (by rw [keysC_length]; exact hr)]
      simp [encStr, List.getD, show r < (keysC LV).length by rw [keysC_length]; exact hr]
  have B3 := hidK b3
  clear hrow b3 c6
  go_wp2_with fail
  go_loopw [3, 15] (fun l i wr => ∃ (r : Nat) (M : List ObV), r ≤ LV.length ∧ i = .int .i64 (r : Int) ∧ Hid (OwnOb wr w3.heap.size l M) ∧ Hid (oL M = oL (LV.take r)) ∧ Hid (Below w3.heap.size w3 wr)) (fun _ i _ => LV.length - (intOf i).toNat)
  case atStart => exact ⟨0, [], Nat.zero_le _, rfl, OwnOb.nil _ _, rfl, Below.refl _ _⟩
  case round =>
    obtain ⟨r, M, hr, rfl, hO, hM, hB⟩ := hrel
    by_cases hlt : r < LV.length
    · have hlt' : (r : Int) < (LV.length : Int) := by omega
      obtain ⟨kb, rfl, ck⟩ := KC.out wr hB.out r hlt
      have BW := hidK (B3.out.stepL hB.out B3.out.size)
      have C2 := H.out.below BW.out
      have hm : LV[r] ∈ LV := List.getElem_mem hlt
      have ek : (keysC LV).getD r [] = LV[r].o.key := by
        unfold keysC
        simp [List.getD, hlt]
      have NX : Hid (oL (LV.take (r + 1)) = oL (LV.take r) ++ [LV[r].o]) := by
        show _ = _
        rw [List.take_succ_eq_append_getElem hlt]
        unfold oL
        rw [List.map_append]; rfl
      rw [ek] at ck
      have L2 := (C2.looks (C2.ok _ hm).ky).2
      have c6 := C2.c6
      have em : mpF LV LV[r].o.key = some (aggO LV[r]) := by unfold mpF; rw [finV_some H.out.inv.rise hm]; rfl
      rw [em] at L2
      have K2 := cown19_any (C2.ok _ hm) (by have := (C2.sts _ hm).1; omega)
      have HOK := hidK (C2.ok _ hm)
      clear ek em C2
      generalize LV[r] = c at ck NX L2 K2 HOK hm
      clear hm
      obtain ⟨⟨ky, ln, ep, st⟩, vs⟩ := c
      obtain ⟨sa, sc, es⟩ := HOK.out.rs.form
      simp only at es ck NX L2
      subst es
      have L3 : (Instr.lookup 70 (.map (some mb)) (.string ⟨ky.toArray⟩) false).run Try.prog wr = .ok (.agg #[.string ⟨ky.toArray⟩, .int .i64 ln, .int .i64 ep, .slice sa st.length sc]) wr := L2
      obtain ⟨oa, oc, el, _⟩ := hO.out.form19'
      subst el
      clear L2 HOK
      go_wp2_with fail
      refine K2.mono ?_
      clear K2 L3 ck c6
      rintro _ w5 ⟨v', rfl, ok5, nw5, b5⟩
      obtain ⟨pa, pc, ev'⟩ := ok5.rs.form
      simp only at ev'
      subst ev'
      rw [show aggO ⟨⟨ky, ln, ep, st⟩, .slice pa st.length pc⟩ = .agg #[.string ⟨ky.toArray⟩, .int .i64 ln, .int .i64 ep, .slice pa st.length pc] from rfl]
      have B5 := hidK (hB.out.stepL b5 hB.out.size)
      have O5 := hO.out.later b5
      have lit := lit_ob w5 ok5
      have bl : Below w5.heap.size w5 (w5.alloc (.cells #[.string ⟨ky.toArray⟩, .int .i64 ln, .int .i64 ep, .slice pa st.length pc] 52)) := belL _ _
      have O6 := O5.later bl
      have B6 := B5.out.stepL bl B5.out.size
      have hq : ∀ k, (Value.slice oa M.length oc).ownBlock = some k → w3.heap.size ≤ k ∧ k < wr.heap.size := fun k e => World.ownsRow.lt hO.out.row k e
      have nr : ∀ d ∈ [(⟨⟨ky, ln, ep, st⟩, .slice pa st.length pc⟩ : ObV)], NearR w3.heap.size (w5.alloc (.cells #[.string ⟨ky.toArray⟩, .int .i64 ln, .int .i64 ep, .slice pa st.length pc] 52)).heap.size (.slice oa M.length oc) d.vs := fun d hd x n k e => by
        simp only [List.mem_singleton] at hd
        subst hd
        rcases ok5.rs.lays x n k e with q | q
        · exact Or.inl q
        · have h1 := nw5 x n k e
          have h2 := hB.out.size
          have h3 := bl.size
          refine Or.inr ⟨by omega, by omega, fun q2 => ?_⟩
          have := (hq _ q2).2
          omega
      have ml : M.length = r := by
        have := congrArg List.length hM.out
        rw [oL_length, oL_length, List.length_take] at this
        omega
      have ol : M.length + [(⟨⟨ky, ln, ep, st⟩, .slice pa st.length pc⟩ : ObV)].length ≤ 100000 := by simp; omega
      have hbs : w3.heap.size ≤ (w5.alloc (.cells #[.string ⟨ky.toArray⟩, .int .i64 ln, .int .i64 ep, .slice pa st.length pc] 52)).heap.size := B6.size
      clear ml
      go_wp2_with (at_builtin; go_loud (refine wpList_append_obs rfl (.tmp 19) (.tmp 27) rfl rfl rfl O6 lit (CapO.some (Nat.le_refl _)) nr ol hbs ?_); intro v9 w9 h9 g9)
      have B9 : Hid (Below w3.heap.size w3 w9) := B6.grown g9.gr hbs (fun k e => (hq k e).1)
      have O9 := hidK h9
      have M9 : Hid (oL (M ++ [(⟨⟨ky, ln, ep, st⟩, .slice pa st.length pc⟩ : ObV)]) = oL (LV.take (r + 1))) := by
        show _ = _
        rw [NX.out, ← hM.out]
        unfold oL
        rw [List.map_append]; rfl
      clear h9 g9 O6 lit nr ol hbs hq O5 B5 B6 bl ok5 nw5 b5 hO hM hB NX BW
      go_wp2
      go_roundw
      case rel => exact ⟨r + 1, _, by omega, by go_num, O9, M9, B9⟩
      case measure => simp [intOf]; omega
    · obtain rfl : r = LV.length := by omega
      have hge : ¬ (LV.length : Int) < (LV.length : Int) := by omega
      have F : Hid (AllC19 w (oL LV) (.returned u3) wr) := ⟨u3, M, rfl, hO.out.weak19 B3.out.size, by rw [hM.out, List.take_length], B3.out.stepL hB.out B3.out.size⟩
      obtain ⟨oa, oc, el, _⟩ := hO.out.form19'
      subst el
      clear hO hM hB KC B3 H
      go_wp2
      go_ret
      exact F.out
end Go.Proofs.Ytndlfmofjmieaaa.Gf

namespace Go.Proofs.Ytndlfmofjmieaaa.Gf
set_option linter.unusedVariables false
set_option linter.unusedSimpArgs false
open Go.RowKit
def gT : GeoS := ⟨1, 0, 2, 3, 1, 2⟩
theorem gT_wf : gT.Wf := ⟨by decide, by decide, by decide, by decide, by decide, by decide⟩
def oT : ObS := ⟨[97], 3, 7, [0, 1]⟩
theorem aw_new : neCX gT [] = 0 := by
  unfold neCX
  rw [if_neg (by decide), if_neg (by decide), if_neg (by intro h; cases h)]
theorem aw_plan : plX gT [] [97] 3 = 0 ∧ plR gT [] [97] 3 = [0, 1] := by decide
theorem aw_put : apCX gT [] ⟨1, [97], 3, [0, 1]⟩ 7 = 0 ∧ apCS gT [] ⟨1, [97], 3, [0, 1]⟩ 7 = [oT] := by
  have e : apCX gT [] ⟨1, [97], 3, [0, 1]⟩ 7 = 0 := by
    unfold apCX
    rw [if_neg (by decide), if_neg (by decide), if_neg (by decide), if_neg (by decide)]
  refine ⟨e, ?_⟩
  unfold apCS
  rw [e, if_pos rfl, if_neg (by decide)]
  rfl
theorem aw_full : plX gT [oT] [97] 3 = 192 := by decide
theorem aw_key : plX gT [oT] [] 0 = 190 := by decide
theorem aw_del : apCX gT [oT] ⟨2, [99], 0, []⟩ 8 = 193 ∧ apCS gT [oT] ⟨2, [99], 0, []⟩ 8 = [oT] := by
  have e : apCX gT [oT] ⟨2, [99], 0, []⟩ 8 = 193 := by
    unfold apCX
    rw [if_neg (by decide), if_pos rfl, if_pos (by decide)]
  refine ⟨e, ?_⟩
  unfold apCS
  rw [e, if_neg (by decide)]
theorem aw_own : (owK [oT] 1).getD 0 = 7 ∧ (owK [oT] 1).isSome = true := by decide
theorem aw_free : (frC gT [oT] : Int) = 1 := by decide
theorem ctiny_any {w : World} : Calls Try.prog 27 #[] w fun e w' => e = .returned (aggG gT) ∧ Below w.heap.size w w' := by
  have b := belL w (.cells #[.int .i64 1, .int .i64 0, .int .i64 2, .int .i64 3, .int .i64 1, .int .i64 2] 24)
  go_enter Try.func27, Try.ntmps27
  go_wp2
  exact bodyPost_ret (v := aggG gT) (by simp [results, Try.results27, go_sem]; rfl) rfl ⟨rfl, b⟩
set_option maxRecDepth 100000 in
set_option maxHeartbeats 4000000 in
theorem cawake_any {w : World} : Calls Try.prog 9 #[] w fun e w' => e = .returned (.bool true) ∧ Below w.heap.size w w' := by
  have K0 := fun W => @ctiny_any W
  have K1 : ∀ W, Calls Try.prog 12 #[aggG gT, .slice none 0 0] W (NewC19 W gT [] 0) := fun W => cnew19_any (LV := []) gT_wf (Or.inl ⟨none, 0, rfl, rfl⟩) (by decide) aw_new
  rw [show aggG gT = .agg #[.int .i64 1, .int .i64 0, .int .i64 2, .int .i64 3, .int .i64 1, .int .i64 2] from rfl] at K0 K1
  go_enter Try.func9, Try.ntmps9
  go_wp2_with fail
  refine (K0 _).mono ?_
  clear K0
  rintro _ w1 ⟨rfl, b1⟩
  have B1 := hidK b1
  clear b1
  go_wp2_with fail
  refine (K1 _).mono ?_
  clear K1
  rintro _ w2 (⟨_, cb, mb, M, rfl, eM, C2, lc, lm, b2⟩ | ⟨h, _⟩)
  rotate_left
  · exact absurd rfl h
  have e0 : oL M = [] := (Option.some.inj eM).symm
  obtain rfl : M = [] := by
    cases M with
    | nil => rfl
    | cons _ _ => cases e0
  clear eM e0
  have B2 := hidK (B1.out.stepL b2 B1.out.size)
  have LM : Hid (w.heap.size ≤ mb) := Nat.le_trans B1.out.size lm
  have CI2 := hidK C2
  clear B1 b2 lc lm C2
  have K := cplan19_any CI2.out (k := [97]) (by decide) (n := 3) (by decide) aw_plan.1 aw_plan.2
  go_wp2_with fail
  refine K.mono ?_
  clear K
  rintro _ w3 ⟨p, rfl, rd3, nw3, b3⟩
  obtain ⟨pa, pc, rfl⟩ := rd3.form
  have RP := hidK rd3
  have B3 := hidK (B2.out.stepL b3 B2.out.size)
  have CI3 := hidK (CI2.out.below b3)
  clear rd3 nw3 b3 B2 CI2
  have bl : Below w3.heap.size w3 (w3.alloc (.cells #[.int .i64 0, .int .i64 1] 3)) := belL _ _
  have rl : RdI (w3.alloc (.cells #[.int .i64 0, .int .i64 1] 3)) (.slice (some ⟨w3.heap.size, 0, none⟩) 2 2) [0, 1] := rdI_lit2 [0, 1] rfl rfl rfl (by decide)
  have K := capply19_any (CI3.out.below bl) (c := ⟨⟨1, [97], 3, [0, 1]⟩, .slice (some ⟨w3.heap.size, 0, none⟩) 2 2⟩) ⟨by show (Lit.int .i64 1).wf = true; decide, by show (Lit.int .i64 3).wf = true; decide, by show ([97] : List UInt8).length ≤ maxLen; decide, rl, by show ∀ z ∈ ([0, 1] : List Int), (Lit.int .i64 z).wf = true; decide⟩ (ep := 7) (by decide) aw_put.1 aw_put.2
  have B4 := hidK (B3.out.stepL bl B3.out.size)
  have RP4 := hidK (RP.out.below bl)
  have CI4 := hidK (CI3.out.below bl)
  clear rl bl B3 RP CI3
  go_wp2_with fail
  refine K.mono ?_
  clear K
  rintro _ w5 ⟨M5, rfl, C5, e5, t5⟩
  have RP5 := hidK (RP4.out.offG (RP4.out.notMap CI4.out.isMap) t5)
  have B5 := hidK (B4.out.trans (t5.below (fun y hy => by rw [hy]; exact LM.out) B4.out.size))
  have CI5 := hidK C5
  have E5 := hidK e5
  clear t5 C5 e5 B4 RP4 CI4
  have K := cplan19_any CI5.out (k := [97]) (by decide) (n := 3) (by decide) (X := 192) (by rw [E5.out]; exact aw_full) rfl
  go_wp2_with fail
  refine K.mono ?_
  clear K
  rintro _ w6 ⟨p6, rfl, rd6, nw6, b6⟩
  obtain ⟨pa6, pc6, rfl⟩ := rd6.form
  have B6 := hidK (B5.out.stepL b6 B5.out.size)
  have RP6 := hidK (RP5.out.below b6)
  have CI6 := hidK (CI5.out.below b6)
  clear rd6 nw6 b6 B5 RP5 CI5
  have K := cplan19_any CI6.out (k := []) (by decide) (n := 0) (by decide) (X := 190) (by rw [E5.out]; exact aw_key) rfl
  go_wp2_with fail
  refine K.mono ?_
  clear K
  rintro _ w7 ⟨p7, rfl, rd7, nw7, b7⟩
  obtain ⟨pa7, pc7, rfl⟩ := rd7.form
  have B7 := hidK (B6.out.stepL b7 B6.out.size)
  have RP7 := hidK (RP6.out.below b7)
  have CI7 := hidK (CI6.out.below b7)
  clear rd7 nw7 b7 B6 RP6 CI6
  have K := capply19_any CI7.out (c := ⟨⟨2, [99], 0, []⟩, .slice none 0 0⟩) ⟨by show (Lit.int .i64 2).wf = true; decide, by show (Lit.int .i64 0).wf = true; decide, by decide, Or.inl ⟨none, 0, rfl, rfl⟩, by decide⟩ (ep := 8) (by decide) (X := 193) (L := [oT]) (by rw [E5.out]; exact aw_del.1) (by rw [E5.out]; exact aw_del.2)
  go_wp2_with fail
  refine K.mono ?_
  clear K
  rintro _ w8 ⟨M8, rfl, C8, e8, t8⟩
  have RP8 := hidK (RP7.out.offG (RP7.out.notMap CI7.out.isMap) t8)
  have B8 := hidK (B7.out.trans (t8.below (fun y hy => by rw [hy]; exact LM.out) B7.out.size))
  have CI8 := hidK C8
  have E8 := hidK e8
  clear t8 C8 e8 B7 RP7 CI7 E5
  have K := cowner19_any CI8.out 1 (E := 7) (B := true) (by rw [E8.out]; exact aw_own.1) (by rw [E8.out]; exact aw_own.2)
  go_wp2_with fail
  refine K.mono ?_
  clear K
  rintro _ w9 ⟨rfl, b9⟩
  have B9 := hidK (B8.out.stepL b9 B8.out.size)
  have RP9 := hidK (RP8.out.below b9)
  have CI9 := hidK (CI8.out.below b9)
  clear b9 B8 RP8 CI8
  have bl : Below w9.heap.size w9 (w9.alloc (.cells #[.int .i64 0, .int .i64 1] 3)) := belL _ _
  have rl : RdI (w9.alloc (.cells #[.int .i64 0, .int .i64 1] 3)) (.slice (some ⟨w9.heap.size, 0, none⟩) 2 2) [0, 1] := rdI_lit2 [0, 1] rfl rfl rfl (by decide)
  have K := rints_any (RP9.out.below bl) rl (by decide) (by decide)
  rw [decide_eq_true rfl] at K
  have B10 := hidK (B9.out.stepL bl B9.out.size)
  have CI10 := hidK (CI9.out.below bl)
  clear bl rl B9 RP9 CI9
  go_wp2_with fail
  refine K.mono ?_
  clear K
  rintro _ w11 ⟨rfl, b11⟩
  have B11 := hidK (B10.out.stepL b11 B10.out.size)
  have CI11 := hidK (CI10.out.below b11)
  clear b11 B10 CI10
  have K := cfrees19_any CI11.out (X := 1) (by rw [E8.out]; exact aw_free)
  go_wp2_with fail
  refine K.mono ?_
  clear K
  rintro _ w12 ⟨rfl, b12⟩
  have B12 := hidK (B11.out.stepL b12 B11.out.size)
  have CI12 := hidK (CI11.out.below b12)
  clear b12 B11 CI11
  have K := call19_any CI12.out
  go_wp2_with fail
  refine K.mono ?_
  clear K
  rintro _ w13 ⟨v, N, rfl, oN, eN, b13⟩
  have B13 := hidK (B12.out.stepL b13 B12.out.size)
  obtain ⟨oa, oc, ev, _⟩ := oN.form19'
  have l1 : N.length = 1 := by
    have := congrArg List.length eN
    rw [oL_length, E8.out] at this
    exact this
  rw [l1] at ev
  subst ev
  clear oN eN b13 B12 CI12 E8 l1
  go_wp2
  go_ret
  exact ⟨rfl, B13.out⟩
end Go.Proofs.Ytndlfmofjmieaaa.Gf
