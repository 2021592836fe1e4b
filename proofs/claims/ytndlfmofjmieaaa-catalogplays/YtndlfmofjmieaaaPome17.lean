/- TEXTS JOINED: CtRefC, CtDa, CtDb, CtDc. -/
import Derived.Test.YtndlfmofjmieaaaPome16
import Derived.Test.YtndlfmofjmieaaaPome14
import Derived.Test.YtndlfmofjmieaaaPome15
import Derived.Deep.CutRange
namespace Go.Proofs.Ytndlfmofjmieaaa.Gf
set_option linter.unusedVariables false
set_option linter.unusedSimpArgs false
open Go.RowKit
theorem finI_neg (L : List ObS) (k : List UInt8) : finI L k < 0 ↔ finK L k = none := by
  rw [idK_fin]
  unfold finI
  by_cases q : idK L k < L.length
  · rw [if_pos q, if_pos q]
    constructor
    · intro h; omega
    · intro h; cases h
  · rw [if_neg q, if_neg q]
    constructor
    · intro _; rfl
    · intro _; decide
/-- behind the refusals: the free stripes are told -/
theorem pl_rest {p : Prop} (h : p := by
  obtain ⟨x0, x1, x2, x3, x4, x5⟩ := (H.out.below B1.out).ge
  simp only at x0 x1 x2 x3 x4 x5
  have KN1 := KN w1
  clear KN
  go_wp2_with fail
  refine KN1.mono ?_
  clear KN1 x0 x1 x2 x3 x4 x5
  rintro _ w3 ⟨rfl, b3⟩
  have B3 := hidC (B1.out.step16 b3 B1.out.size)
  clear b3 B1
  obtain ⟨i0, hi, hz0, hz1, hz2⟩ := info_int19
  go_wp2_with fail
  go_loopw [9, 10] (fun ov i wr => ∃ r : Nat, r ≤ gs.toNat ∧ i = .int .i64 (r : Int) ∧ Hid (OwnI wr w.heap.size 3 ov (frF (oL LV) r)) ∧ Hid (Below w.heap.size w wr) ∧ Hid (((frF (oL LV) r).length : Int) ≤ nx)) (fun _ i _ => gs.toNat - (intOf i).toNat)
  case atStart => exact ⟨0, Nat.zero_le _, rfl, OwnI.nil _ _ _, B3.out, HNX.out⟩
  case round =>
    clear B3
    obtain ⟨r, hr, rfl, hO, hB, hN⟩ := hrel
    have hc := hidC (H.out.below hB.out)
    have x3 : wr.cell? ⟨rb, 3, none⟩ = some (.int .i64 gs) := hc.out.ge.2.2.2.1
    have FS := hidC (frF_succ (oL LV) r)
    have FL := frF_le (oL LV) r
    have FT := hidC (fun (q : (frF (oL LV) r).length = nx.toNat) => frF_take (g := ⟨gk, gm, gz, gs, gt, o⟩) (L := oL LV) (r := r) hr q)
    have FC := hidC (frF_lec (g := ⟨gk, gm, gz, gs, gt, o⟩) (L := oL LV) (r := r) hr)
    have FE : Hid (r = gs.toNat → frC ⟨gk, gm, gz, gs, gt, o⟩ (oL LV) = (frF (oL LV) r).length) := fun q => by rw [q]; exact frC_F
    have K := KO wr hc.out (r : Int)
    obtain ⟨Z, hZ⟩ : ∃ Z, frF (oL LV) r = Z := ⟨_, rfl⟩
    rw [hZ] at hO FS FL FT FC FE hN
    obtain ⟨oa, oc, rfl⟩ := hO.out.form
    have hN' := hN.out
    clear hZ
    by_cases hlt : r < gs.toNat
    · have hlt' : (r : Int) < gs := by omega
      by_cases hl : (Z.length : Int) < nx
      · obtain ⟨E, hE⟩ : ∃ E, (owK (oL LV) (r : Int)).getD 0 = E := ⟨_, rfl⟩
        obtain ⟨B, hB2⟩ : ∃ B, (owK (oL LV) (r : Int)).isSome = B := ⟨_, rfl⟩
        rw [hE, hB2] at K
        rw [hB2] at FS
        clear hE hB2 FT FC FE hc KO HX0 HX1
        go_wp2_with fail
        refine K.mono ?_
        clear K
        rintro _ w5 ⟨rfl, b5⟩
        have B5 := hidC (hB.out.step16 b5 hB.out.size)
        have O5 : OwnI w5 w.heap.size 3 (.slice oa Z.length oc) Z := row_late18 hO.out b5
        clear b5 hB hO x3
        cases B with
        | true =>
          rw [if_pos rfl, List.append_nil] at FS
          have O6 := hidC O5
          clear O5
          go_wp2
          go_roundw
          case rel => exact ⟨r + 1, by omega, by go_num, (by rw [FS.out]; exact O6.out), B5, (by rw [FS.out]; exact hN.out)⟩
          case measure => simp [intOf]; omega
        | false =>
          rw [if_neg (by decide)] at FS
          have ol : Z.length ≤ 100000 := by omega
          have hsz := B5.out.size
          go_wp2_with (at_builtin; go_loud (refine wpList_append_int rfl (.tmp 72) (.tmp 74) 37 rfl w.heap.size 3 i0 Try.underlying37 hi hz0 hz1 hz2 (.slice oa Z.length oc) Z rfl O5 r _ 1 rfl ol hsz ?_); intro v9 w9 h9 b9)
          have O9 : Hid (OwnI w9 w.heap.size 3 v9 (frF (oL LV) (r + 1))) := by rw [FS.out]; exact h9
          have B9 := hidC (B5.out.trans b9)
          have N9 : Hid (((frF (oL LV) (r + 1)).length : Int) ≤ nx) := by
            show _ ≤ _
            rw [FS.out, List.length_append, List.length_singleton]
            omega
          clear h9 b9 O5 B5 FS hsz ol
          go_wp2
          go_roundw
          case rel => exact ⟨r + 1, by omega, by go_num, O9, B9, N9⟩
          case measure => simp [intOf]; omega
      · have hge : ¬ (Z.length : Int) < nx := hl
        have e1 : (Z.length : Int) = nx := by omega
        have e2 : Z.length = nx.toNat := by omega
        obtain ⟨rfl, e⟩ := HX1.out HPP.out (by have := FC.out; omega)
        have F : Hid (Plan19 w 0 R (.returned (.tuple #[.slice oa Z.length oc, .int .i64 0])) wr) := ⟨_, Z, rfl, hO.out, by rw [e, FT.out e2]; rfl, hB.out⟩
        clear HX0 HX1 FT FC FE hc KO K hO hB FS e hN e1 e2
        go_wp2
        exact bodyPost_ret (v := .tuple #[.slice oa Z.length oc, .int .i64 0]) (by simp [results, Try.results37, go_sem]) rfl F.out
    · obtain e0 : r = gs.toNat := by omega
      have hge : ¬ (r : Int) < gs := by omega
      have fc := FE.out e0
      by_cases hl : (Z.length : Int) < nx
      · obtain ⟨rfl, e⟩ := HX0.out HPP.out (by omega)
        have F : Hid (Plan19 w 192 R (.returned (.tuple #[.slice none 0 0, .int .i64 192])) wr) := by rw [e]; exact plan_nil hB.out
        clear HX0 HX1 FT FC FE hc KO K hO hB FS e hN fc
        go_wp2
        exact bodyPost_ret (v := .tuple #[.slice none 0 0, .int .i64 192]) (by simp [results, Try.results37, go_sem]) rfl F.out
      · have e2 : Z.length = nx.toNat := by omega
        obtain ⟨rfl, e⟩ := HX1.out HPP.out (by omega)
        have F : Hid (Plan19 w 0 R (.returned (.tuple #[.slice oa Z.length oc, .int .i64 0])) wr) := ⟨_, Z, rfl, hO.out, by rw [e, FT.out e2]; rfl, hB.out⟩
        clear HX0 HX1 FT FC FE hc KO K hO hB FS e hN fc e2
        go_wp2
        exact bodyPost_ret (v := .tuple #[.slice oa Z.length oc, .int .i64 0]) (by simp [results, Try.results37, go_sem]) rfl F.out) : p := h
set_option maxRecDepth 100000 in
set_option maxHeartbeats 4000000 in
theorem rplan19_any {w : World} {rb : Nat} {g : GeoS} {v : Value} {LV : List ObV} (h : CatW w rb g v LV) (hgw : g.Wf) (hs : g.s ≤ 100000) {k : List UInt8} (hkl : k.length ≤ 1000000) {n : Int} (hn : (Lit.int .i64 n).wf = true) :
    Calls Try.prog 37 #[.pointer (some ⟨rb, 0, none⟩), .string ⟨k.toArray⟩, .int .i64 n] w (Plan19 w (plX g (oL LV) k n) (plR g (oL LV) k n)) := by
  obtain ⟨va, vc, rfl⟩ := h.ro.form
  have H := hidC h
  have ll := h.few
  clear h
  have KF := fun V (hV : CatW V rb g (.slice va LV.length vc) LV) => rfind19_any hV k
  have KO := fun V (hV : CatW V rb g (.slice va LV.length vc) LV) (s : Int) => rowner19_any hV s rfl rfl
  obtain ⟨nx, hnx⟩ : ∃ x, Hid (neG g n = x) := ⟨_, rfl⟩
  have KN := fun V => @rneeds_any V g hgw n hn nx hnx.out
  have HN0 : 0 ≤ n → 0 ≤ nx := fun q => by rw [← hnx.out]; exact neG_pos q
  obtain ⟨fx, hfx⟩ : ∃ x, Hid (finI (oL LV) k = x) := ⟨_, rfl⟩
  have HFX : Hid (fx < 0 ↔ finK (oL LV) k = none) := by rw [← hfx.out]; exact finI_neg _ _
  rw [hfx.out] at KF
  obtain ⟨X, hX⟩ : ∃ X, Hid (plX g (oL LV) k n = X) := ⟨_, rfl⟩
  obtain ⟨R, hR⟩ : ∃ R, Hid (plR g (oL LV) k n = R) := ⟨_, rfl⟩
  have HXP : Hid (¬ plP g (oL LV) k n = 0 → X = plP g (oL LV) k n ∧ R = []) := fun q => by
    have e : plX g (oL LV) k n = plP g (oL LV) k n := if_pos q
    refine ⟨by rw [← hX.out, e], ?_⟩
    rw [← hR.out]
    exact if_neg (by rw [e]; exact q)
  have HX0 : Hid (plP g (oL LV) k n = 0 → (frC g (oL LV) : Int) < nx → X = 192 ∧ R = []) := fun q q2 => by
    have e : plX g (oL LV) k n = 192 := by unfold plX; rw [if_neg (fun w => w q), hnx.out, if_pos q2]
    refine ⟨by rw [← hX.out, e], ?_⟩
    rw [← hR.out]
    exact if_neg (by rw [e]; decide)
  have HX1 : Hid (plP g (oL LV) k n = 0 → ¬ (frC g (oL LV) : Int) < nx → X = 0 ∧ R = (frL g (oL LV)).take nx.toNat) := fun q q2 => by
    have e : plX g (oL LV) k n = 0 := by unfold plX; rw [if_neg (fun w => w q), hnx.out, if_neg q2]
    refine ⟨by rw [← hX.out, e], ?_⟩
    rw [← hR.out, ← hnx.out]
    exact if_pos e
  rw [hX.out, hR.out]
  have HP : Hid (plP g (oL LV) k n = if k.length = 0 ∨ 64 < k.length then 190 else if n < 0 ∨ 2147483647 < n then 1 else if finK (oL LV) k = none ∧ g.o ≤ (LV.length : Int) then 191 else 0) := by
    show _ = _
    unfold plP
    rw [oL_length]
  clear hX hR hfx hnx
  obtain ⟨pp, hpp⟩ : ∃ p, plP g (oL LV) k n = p := ⟨_, rfl⟩
  rw [hpp] at HXP HX0 HX1 HP
  clear hpp
  obtain ⟨gk, gm, gz, gs, gt, o⟩ := g
  simp only at hs HP
  rw [aggE] at KN
  have HCW := hidC (H.out.below ((Below.refl w.heap.size w).drew))
  have c6 := H.out.c6
  have x5 : w.cell? ⟨rb, 5, none⟩ = some (.int .i64 o) := H.out.ge.2.2.2.2.2
  go_enter Try.func37, Try.ntmps37
  by_cases a1 : k = []
  · subst a1
    have e : pp = 190 := HP.out.trans (if_pos (Or.inl rfl))
    obtain ⟨e1, e2⟩ := HXP.out (by rw [e]; decide)
    rw [e1, e2, e]
    clear e e1 e2
    clear HXP HX0 HX1 HP KF KO KN HFX H HCW
    go_wp2_with fail
    exact bodyPost_ret (v := .tuple #[.slice none 0 0, .int .i64 190]) (by simp [results, Try.results37, go_sem]) rfl (plan_nil (Below.refl _ _))
  have d1 : (k == []) = false := beq_eq_false_iff_ne.2 a1
  have a1' : ¬ k.length = 0 := fun q => a1 (List.length_eq_zero_iff.1 q)
  by_cases a2 : (k.length : Int) > 64
  · have e : pp = 190 := HP.out.trans (if_pos (Or.inr (by omega)))
    obtain ⟨e1, e2⟩ := HXP.out (by rw [e]; decide)
    rw [e1, e2, e]
    clear e e1 e2
    clear HXP HX0 HX1 HP KF KO KN HFX H HCW
    go_wp2_with fail
    exact bodyPost_ret (v := .tuple #[.slice none 0 0, .int .i64 190]) (by simp [results, Try.results37, go_sem]) rfl (plan_nil (Below.refl _ _))
  have a3 : ¬ (k.length = 0 ∨ 64 < k.length) := by omega
  rw [if_neg a3] at HP
  by_cases b1 : n < 0
  · have e : pp = 1 := HP.out.trans (if_pos (Or.inl b1))
    obtain ⟨e1, e2⟩ := HXP.out (by rw [e]; decide)
    rw [e1, e2, e]
    clear e e1 e2
    clear HXP HX0 HX1 HP KF KO KN HFX H HCW
    go_wp2_with fail
    exact bodyPost_ret (v := .tuple #[.slice none 0 0, .int .i64 1]) (by simp [results, Try.results37, go_sem]) rfl (plan_nil (Below.refl _ _))
  by_cases b2 : n > 2147483647
  · have e : pp = 1 := HP.out.trans (if_pos (Or.inr b2))
    obtain ⟨e1, e2⟩ := HXP.out (by rw [e]; decide)
    rw [e1, e2, e]
    clear e e1 e2
    clear HXP HX0 HX1 HP KF KO KN HFX H HCW
    go_wp2_with fail
    exact bodyPost_ret (v := .tuple #[.slice none 0 0, .int .i64 1]) (by simp [results, Try.results37, go_sem]) rfl (plan_nil (Below.refl _ _))
  have b3 : ¬ (n < 0 ∨ 2147483647 < n) := by omega
  rw [if_neg b3] at HP
  have C5 := And.intro c6 x5
  have KF1 := KF w.drew HCW.out
  have SF : Hid (∀ V, Below w.heap.size w V → (fun V => V.cell? ⟨rb, 6, none⟩ = some (.slice va LV.length vc) ∧ V.cell? ⟨rb, 5, none⟩ = some (.int .i64 o)) V) := fun V b => ⟨(H.out.below b).c6, (H.out.below b).ge.2.2.2.2.2⟩
  clear c6 x5 KF HCW a3 b3 a1'
  go_wp2_with fail
  refine wp_region_held_drew (S := fun V => V.cell? ⟨rb, 6, none⟩ = some (.slice va LV.length vc) ∧ V.cell? ⟨rb, 5, none⟩ = some (.int .i64 o)) (by kernel_rfl) C5 (fun hHeld => ?_)
  clear C5
  refine tkH 0 ?_
  refine tkH 1 ?_
  refine rnH 2 (fun K' hK => ?_)
  go_simp
  go_at_call 35
  refine KF1.mono ?_
  clear KF1
  rintro _ w1 ⟨rfl, b1'⟩
  dsimp only
  have B1 := hidC (((Below.refl w.heap.size w).drew).trans b1')
  refine koH hK (SF.out w1 B1.out) fun hHeld => ?_
  clear hK K' SF b1'
  have HNX : Hid (0 ≤ nx) := HN0 (by omega)
  clear HN0
  by_cases f1 : fx < 0
  · have d2 : decide (fx < 0) = true := decide_eq_true f1
    have fk := HFX.out.1 f1
    refine tkH 3 ?_
    refine tkH 4 ?_
    refine tkH 5 ?_
    refine tkH 6 ?_
    refine tkH 7 ?_
    refine tkH 8 ?_
    refine tkH 9 ?_
    refine tkH 10 ?_
    refine tkH 11 ?_
    refine tkH 12 ?_
    refine tkH 13 ?_
    refine tkH 14 ?_
    refine tkH 15 ?_
    refine tkH 16 ?_
    refine wpAnyH_done (by kernel_rfl) ?_ _
    clear hHeld
    by_cases f2 : (LV.length : Int) ≥ o
    · have e : pp = 191 := HP.out.trans (if_pos ⟨fk, f2⟩)
      obtain ⟨e1, e2⟩ := HXP.out (by rw [e]; decide)
      have F : Hid (Plan19 w X R (.returned (.tuple #[.slice none 0 0, .int .i64 191])) w1) := by rw [e1, e2, e]; exact plan_nil B1.out
      clear e e1 e2 HXP HX0 HX1 HP KO KN HFX H
      go_wp2_with fail
      exact bodyPost_ret (v := .tuple #[.slice none 0 0, .int .i64 191]) (by simp [results, Try.results37, go_sem]) rfl F.out
    · have HPP : Hid (pp = 0) := HP.out.trans (if_neg fun q => f2 q.2)
      clear HXP HP HFX fk d2
      exact pl_rest
  · have d2 : decide (fx < 0) = false := decide_eq_false f1
    have fk : ¬ finK (oL LV) k = none := fun q => f1 (HFX.out.2 q)
    refine tkH 3 ?_
    refine tkH 4 ?_
    refine skH 5 ?_
    refine skH 6 ?_
    refine skH 7 ?_
    refine skH 8 ?_
    refine skH 9 ?_
    refine skH 10 ?_
    refine skH 11 ?_
    refine skH 12 ?_
    refine skH 13 ?_
    refine skH 14 ?_
    refine skH 15 ?_
    refine tkH 16 ?_
    refine wpAnyH_done (by kernel_rfl) ?_ _
    clear hHeld
    have HPP : Hid (pp = 0) := HP.out.trans (if_neg fun q => fk q.1)
    clear HXP HP HFX fk d2
    exact pl_rest
end Go.Proofs.Ytndlfmofjmieaaa.Gf

namespace Go.Proofs.Ytndlfmofjmieaaa.Gf
set_option linter.unusedVariables false
set_option linter.unusedSimpArgs false
open Go.RowKit
theorem box6 (w : World) (x0 x1 x2 x3 x4 x5 : Value) (t : TypeId) : ∀ V, Below (w.alloc (.cells #[x0, x1, x2, x3, x4, x5] t)).heap.size (w.alloc (.cells #[x0, x1, x2, x3, x4, x5] t)) V → Below w.heap.size w V ∧ ∀ j, V.cell? ⟨w.heap.size, j, none⟩ = (#[x0, x1, x2, x3, x4, x5] : Array Value)[j]? := fun V b => by
  refine ⟨(belL w _).stepL b (belL w _).size, fun j => ?_⟩
  exact (b.cell (p := ⟨w.heap.size, j, none⟩) (by simp)).trans (World.cell?_alloc_new _ _ _ _)
set_option maxRecDepth 100000 in
set_option maxHeartbeats 2000000 in
theorem cdid4_any {w : World} {cb mb rb : Nat} {g : GeoS} {LV MV : List ObV} {v : Value} {P : Nat → Prop} (hC : CatI w cb mb g LV P) (hR : CatW w rb g v MV) (hm : oL MV = oL LV) {x : CallK} (hk : x.kind = 4) : Calls Try.prog 15 #[.pointer (some ⟨cb, 0, none⟩), .pointer (some ⟨rb, 0, none⟩), aggK x] w fun e w' => e = .returned (.bool true) ∧ Below w.heap.size w w' := by
  obtain ⟨kd, ⟨⟨rk, ky, ln, st⟩, vs⟩, s⟩ := x
  simp only at hk
  subst hk
  obtain ⟨E, hE⟩ : ∃ E, (owK (oL LV) s).getD 0 = E := ⟨_, rfl⟩
  obtain ⟨B, hB⟩ : ∃ B, (owK (oL LV) s).isSome = B := ⟨_, rfl⟩
  have KC : ∀ V, Below w.heap.size w V → _ := fun V b => cowner19_any (hC.below b) s hE hB
  have KR : ∀ V, Below w.heap.size w V → _ := fun V b => rowner19_any (hR.below b) s (E := E) (B := B) (by rw [hm]; exact hE) (by rw [hm]; exact hB)
  obtain ⟨W, hW⟩ : ∃ W, W = w.alloc (.cells #[.int .i64 4, .int .i64 rk, .string ⟨ky.toArray⟩, .int .i64 ln, vs, .int .i64 s] 41) := ⟨_, rfl⟩
  have TA : Hid (∀ V, Below W.heap.size W V → Below w.heap.size w V ∧ ∀ j, V.cell? ⟨w.heap.size, j, none⟩ = (#[Value.int .i64 4, .int .i64 rk, .string ⟨ky.toArray⟩, .int .i64 ln, vs, .int .i64 s] : Array Value)[j]?) := by rw [hW]; exact box6 _ _ _ _ _ _ _ _
  clear hC hR hE hB hm
  obtain ⟨BW, z⟩ := TA.out W (Below.refl _ _)
  have z0 : W.cell? ⟨w.heap.size, 0, none⟩ = some (.int .i64 4) := z 0
  have z5 : W.cell? ⟨w.heap.size, 5, none⟩ = some (.int .i64 s) := z 5
  have K1 := KC W BW
  clear KC BW z
  show Calls Try.prog 15 #[.pointer (some ⟨cb, 0, none⟩), .pointer (some ⟨rb, 0, none⟩), .agg #[.int .i64 4, .int .i64 rk, .string ⟨ky.toArray⟩, .int .i64 ln, vs, .int .i64 s]] w _
  go_enter Try.func15, Try.ntmps15
  go_wp2_with fail
  rw [← hW]
  go_wp2_with fail
  refine K1.mono ?_
  clear K1 z0 z5
  rintro _ w2 ⟨rfl, b2⟩
  obtain ⟨B2, z⟩ := TA.out w2 b2
  have z5 : w2.cell? ⟨w.heap.size, 5, none⟩ = some (.int .i64 s) := z 5
  have K2 := KR w2 B2
  have BH := hidK B2
  clear KR b2 B2 z hW TA
  go_wp2_with fail
  refine K2.mono ?_
  clear K2 z5
  rintro _ w3 ⟨rfl, b3⟩
  have F : Hid (Below w.heap.size w w3) := BH.out.stepL b3 BH.out.size
  clear b3 BH
  cases B
  all_goals
    go_wp2
    go_ret
    exact ⟨rfl, F.out⟩
set_option maxRecDepth 100000 in
set_option maxHeartbeats 2000000 in
theorem cdid1_any {w : World} {cb mb rb : Nat} {g : GeoS} {LV MV : List ObV} {v : Value} {P : Nat → Prop} (hC : CatI w cb mb g LV P) (hR : CatW w rb g v MV) (hm : oL MV = oL LV) (hgw : g.Wf) (hs : g.s ≤ 100000) {x : CallK} (hx : x.r.In w) (hk : x.kind = 1) (hky : x.r.r.key.length ≤ 100) (hl : (plR g (oL LV) x.r.r.key x.r.r.len).length ≤ 1000000) : Calls Try.prog 15 #[.pointer (some ⟨cb, 0, none⟩), .pointer (some ⟨rb, 0, none⟩), aggK x] w fun e w' => e = .returned (.bool true) ∧ Below w.heap.size w w' := by
  obtain ⟨kd, ⟨⟨rk, ky, ln, st⟩, vs⟩, s⟩ := x
  simp only at hk hky hl
  subst hk
  have wln : (Lit.int .i64 ln).wf = true := hx.wl
  obtain ⟨X, hX⟩ : ∃ X, plX g (oL LV) ky ln = X := ⟨_, rfl⟩
  obtain ⟨R, hRR⟩ : ∃ R, plR g (oL LV) ky ln = R := ⟨_, rfl⟩
  rw [hRR] at hl
  have KC : ∀ V, Below w.heap.size w V → _ := fun V b => cplan19_any (hC.below b) (k := ky) (Nat.le_trans hky (by decide)) wln (X := X) (R := R) hX hRR
  have KR : ∀ V, Below w.heap.size w V → Calls Try.prog 37 #[.pointer (some ⟨rb, 0, none⟩), .string ⟨ky.toArray⟩, .int .i64 ln] V (Plan19 V X R) := fun V b => by
    have h := rplan19_any (hR.below b) hgw hs (k := ky) (Nat.le_trans hky (by decide)) wln
    rw [hm, hX, hRR] at h
    exact h
  obtain ⟨W, hW⟩ : ∃ W, W = w.alloc (.cells #[.int .i64 1, .int .i64 rk, .string ⟨ky.toArray⟩, .int .i64 ln, vs, .int .i64 s] 41) := ⟨_, rfl⟩
  have TA : Hid (∀ V, Below W.heap.size W V → Below w.heap.size w V ∧ ∀ j, V.cell? ⟨w.heap.size, j, none⟩ = (#[Value.int .i64 1, .int .i64 rk, .string ⟨ky.toArray⟩, .int .i64 ln, vs, .int .i64 s] : Array Value)[j]?) := by rw [hW]; exact box6 _ _ _ _ _ _ _ _
  clear hC hR hX hRR hm hx
  obtain ⟨BW, z⟩ := TA.out W (Below.refl _ _)
  have z0 : W.cell? ⟨w.heap.size, 0, none⟩ = some (.int .i64 1) := z 0
  have z2 : W.cell? ⟨w.heap.size, 2, none⟩ = some (.string ⟨ky.toArray⟩) := z 2
  have z3 : W.cell? ⟨w.heap.size, 3, none⟩ = some (.int .i64 ln) := z 3
  have K1 := KC W BW
  clear KC BW z
  show Calls Try.prog 15 #[.pointer (some ⟨cb, 0, none⟩), .pointer (some ⟨rb, 0, none⟩), .agg #[.int .i64 1, .int .i64 rk, .string ⟨ky.toArray⟩, .int .i64 ln, vs, .int .i64 s]] w _
  go_enter Try.func15, Try.ntmps15
  go_wp2_with fail
  rw [← hW]
  go_wp2_with fail
  refine K1.mono ?_
  clear K1 z0 z2 z3
  rintro _ w2 ⟨v1, rfl, r1, _, b2⟩
  obtain ⟨B2, z⟩ := TA.out w2 b2
  have z2 : w2.cell? ⟨w.heap.size, 2, none⟩ = some (.string ⟨ky.toArray⟩) := z 2
  have z3 : w2.cell? ⟨w.heap.size, 3, none⟩ = some (.int .i64 ln) := z 3
  have K2 := KR w2 B2
  have BH := hidK B2
  have R1 := hidK r1
  clear KR b2 B2 z hW TA r1
  go_wp2_with fail
  refine K2.mono ?_
  clear K2 z2 z3
  rintro _ w3 ⟨v2, zs, rfl, o2, ez, b3⟩
  have R2 : Hid (RdI w3 v2 R) := by
    have h := o2.rd (by rw [← ez] at hl; simpa [toI] using hl)
    rw [ez] at h
    exact h
  have K3 := rints_any (R1.out.below b3) R2.out hl hl
  have BH3 : Hid (Below w.heap.size w w3) := BH.out.stepL b3 BH.out.size
  clear b3 BH R1 o2 R2
  go_wp2_with fail
  refine K3.mono ?_
  clear K3
  rintro _ w4 ⟨rfl, b4⟩
  have F : Hid (Below w.heap.size w w4) := BH3.out.stepL b4 BH3.out.size
  clear b4 BH3
  go_wp2
  go_ret
  exact ⟨by simp, F.out⟩
end Go.Proofs.Ytndlfmofjmieaaa.Gf

namespace Go.Proofs.Ytndlfmofjmieaaa.Gf
set_option linter.unusedVariables false
set_option linter.unusedSimpArgs false
open Go.RowKit
def nilOb : ObV := ⟨⟨[], 0, 0, []⟩, .slice none 0 0⟩
theorem nilOb_ok (w : World) : ObOk w nilOb := ⟨by decide, by decide, by decide, Or.inl ⟨none, 0, rfl, rfl⟩, fun z h => by cases h⟩
/-- an answer of Get: an object, nil where there is none -/
def GetsK (w : World) (L : List ObS) (k : List UInt8) (e : Ending) (w' : World) : Prop :=
  ∃ c : ObV, ∃ E : Int, e = .returned (.tuple #[.agg #[.string ⟨c.o.key.toArray⟩, .int .i64 c.o.len, .int .i64 c.o.ep, c.vs], .int .i64 E]) ∧ c.o = (finK L k).getD nilOb.o ∧ E = (if finK L k = none then 193 else 0) ∧ ObOk w' c ∧ Below w.heap.size w w'
theorem gets_c {w w' : World} {L : List ObS} {k : List UInt8} {e : Ending} (h : GotC19 w L k e w') : GetsK w L k e w' := by
  obtain ⟨⟨h1, rfl⟩ | ⟨c, h1, h2, _, rfl⟩, b⟩ := h
  · exact ⟨nilOb, 193, rfl, by rw [h1]; rfl, by rw [if_pos h1], nilOb_ok _, b⟩
  · exact ⟨c, 0, rfl, by rw [h1]; rfl, by rw [if_neg (by rw [h1]; simp)], h2, b⟩
theorem gets_r {w w' : World} {LV : List ObV} {k : List UInt8} {e : Ending} (ok : ∀ c ∈ LV, ObOk w c) (h : Got19 w LV k e w') : GetsK w (oL LV) k e w' := by
  obtain ⟨⟨h1, rfl⟩ | ⟨c, hm, h1, rfl⟩, b⟩ := h
  · exact ⟨nilOb, 193, rfl, by rw [h1]; rfl, by rw [if_pos h1], nilOb_ok _, b⟩
  · exact ⟨c, 0, rfl, by rw [h1]; rfl, by rw [if_neg (by rw [h1]; simp)], (ok c hm).bel b, b⟩
end Go.Proofs.Ytndlfmofjmieaaa.Gf

namespace Go.Proofs.Ytndlfmofjmieaaa.Gf
set_option linter.unusedVariables false
set_option linter.unusedSimpArgs false
open Go.RowKit
set_option maxRecDepth 100000 in
set_option maxHeartbeats 2000000 in
theorem cdid3_any {w : World} {cb mb rb : Nat} {g : GeoS} {LV MV : List ObV} {v : Value} {P : Nat → Prop} (hC : CatI w cb mb g LV P) (hR : CatW w rb g v MV) (ok : ∀ c ∈ MV, ObOk w c) (hm : oL MV = oL LV) {x : CallK} (hk : x.kind = 3) (hky : x.r.r.key.length ≤ 100) : Calls Try.prog 15 #[.pointer (some ⟨cb, 0, none⟩), .pointer (some ⟨rb, 0, none⟩), aggK x] w fun e w' => e = .returned (.bool true) ∧ Below w.heap.size w w' := by
  obtain ⟨kd, ⟨⟨rk, ky, ln, st⟩, vs⟩, s⟩ := x
  simp only at hk hky
  subst hk
  obtain ⟨O, hO⟩ : ∃ O, (finK (oL LV) ky).getD nilOb.o = O := ⟨_, rfl⟩
  obtain ⟨E, hE⟩ : ∃ E : Int, Hid ((if finK (oL LV) ky = none then 193 else 0) = E) := ⟨_, rfl⟩
  have HS : Hid (O.st.length ≤ 1000) := by
    show _ ≤ _
    rw [← hO]
    cases h : finK (oL LV) ky with
    | none => decide
    | some o =>
      obtain ⟨hm2, _⟩ := finK_mem h
      obtain ⟨c, hc, rfl⟩ := List.mem_map.1 hm2
      exact Nat.le_trans (hC.sts c hc).1 (by decide)
  have KC : ∀ V, Below w.heap.size w V → _ := fun V b => (cget19_any (hC.below b) (k := ky) (Nat.le_trans hky (by decide))).mono fun e w' h => gets_c h
  have KR : ∀ V, Below w.heap.size w V → Calls Try.prog 39 #[.pointer (some ⟨rb, 0, none⟩), .string ⟨ky.toArray⟩] V (GetsK V (oL LV) ky) := fun V b => (rget19_any (hR.below b) ky).mono fun e w' h => by
    have q := gets_r (fun c hc => (ok c hc).bel b) h
    rw [hm] at q
    exact q
  obtain ⟨W, hW⟩ : ∃ W, W = w.alloc (.cells #[.int .i64 3, .int .i64 rk, .string ⟨ky.toArray⟩, .int .i64 ln, vs, .int .i64 s] 41) := ⟨_, rfl⟩
  have TA : Hid (∀ V, Below W.heap.size W V → Below w.heap.size w V ∧ ∀ j, V.cell? ⟨w.heap.size, j, none⟩ = (#[Value.int .i64 3, .int .i64 rk, .string ⟨ky.toArray⟩, .int .i64 ln, vs, .int .i64 s] : Array Value)[j]?) := by rw [hW]; exact box6 _ _ _ _ _ _ _ _
  clear hC hR ok
  obtain ⟨BW, z⟩ := TA.out W (Below.refl _ _)
  have z0 : W.cell? ⟨w.heap.size, 0, none⟩ = some (.int .i64 3) := z 0
  have z2 : W.cell? ⟨w.heap.size, 2, none⟩ = some (.string ⟨ky.toArray⟩) := z 2
  have K1 := KC W BW
  clear KC BW z
  show Calls Try.prog 15 #[.pointer (some ⟨cb, 0, none⟩), .pointer (some ⟨rb, 0, none⟩), .agg #[.int .i64 3, .int .i64 rk, .string ⟨ky.toArray⟩, .int .i64 ln, vs, .int .i64 s]] w _
  go_enter Try.func15, Try.ntmps15
  go_wp2_with fail
  rw [← hW]
  go_wp2_with fail
  refine K1.mono ?_
  clear K1 z0 z2
  rintro _ w2 ⟨⟨⟨k1, l1, p1, s1⟩, v1⟩, E1, rfl, e1, eE1, ok1, b2⟩
  obtain rfl : E1 = E := eE1.trans hE.out
  clear eE1
  obtain ⟨a1, n1, ev⟩ := ok1.rs.form
  simp only at ev
  subst ev
  obtain ⟨wa, hwa⟩ : ∃ x, x = w2.alloc (.cells #[.string ⟨k1.toArray⟩, .int .i64 l1, .int .i64 p1, .slice a1 s1.length n1] 52) := ⟨_, rfl⟩
  have A4 : Hid (∀ V, Below wa.heap.size wa V → Below w2.heap.size w2 V ∧ V.cell? ⟨w2.heap.size, 0, none⟩ = some (.string ⟨k1.toArray⟩) ∧ V.cell? ⟨w2.heap.size, 1, none⟩ = some (.int .i64 l1) ∧ V.cell? ⟨w2.heap.size, 2, none⟩ = some (.int .i64 p1) ∧ V.cell? ⟨w2.heap.size, 3, none⟩ = some (.slice a1 s1.length n1) ∧ ∀ j, V.frozen? ⟨w2.heap.size, j, none⟩ = false) := by rw [hwa]; exact box4 _ _ _ _ _ _
  have ba : Below w2.heap.size w2 wa := by rw [hwa]; exact belL _ _
  have bA := b2.stepL ba b2.size
  obtain ⟨BA, z⟩ := TA.out wa bA
  have z2 : wa.cell? ⟨w.heap.size, 2, none⟩ = some (.string ⟨ky.toArray⟩) := z 2
  have K2 := KR wa BA
  have OK1 := hidK ok1
  have BH := hidK BA
  have BAh := hidK ba
  clear hW z KR TA ok1 b2 bA BA ba
  go_upto_region 11 with fail
  rw [← hwa]
  clear hwa
  go_wp2_with fail
  refine K2.mono ?_
  clear K2 z2
  rintro _ w3 ⟨⟨⟨k2, l2, p2, s2⟩, v2⟩, E2, rfl, e2, eE2, ok2, b3⟩
  have eo : (⟨k2, l2, p2, s2⟩ : ObS) = ⟨k1, l1, p1, s1⟩ := e2.trans e1.symm
  simp only [ObS.mk.injEq] at eo
  obtain ⟨rfl, rfl, rfl, rfl⟩ := eo
  obtain rfl : E2 = E1 := eE2.trans hE.out
  clear eE2 hE
  obtain ⟨a2, n2, ev⟩ := ok2.rs.form
  simp only at ev
  subst ev
  obtain ⟨wb, hwb⟩ : ∃ x, x = w3.alloc (.cells #[.string ⟨k2.toArray⟩, .int .i64 l2, .int .i64 p2, .slice a2 s2.length n2] 52) := ⟨_, rfl⟩
  have B4 : Hid (∀ V, Below wb.heap.size wb V → Below w3.heap.size w3 V ∧ V.cell? ⟨w3.heap.size, 0, none⟩ = some (.string ⟨k2.toArray⟩) ∧ V.cell? ⟨w3.heap.size, 1, none⟩ = some (.int .i64 l2) ∧ V.cell? ⟨w3.heap.size, 2, none⟩ = some (.int .i64 p2) ∧ V.cell? ⟨w3.heap.size, 3, none⟩ = some (.slice a2 s2.length n2) ∧ ∀ j, V.frozen? ⟨w3.heap.size, j, none⟩ = false) := by rw [hwb]; exact box4 _ _ _ _ _ _
  have bb0 : Below w3.heap.size w3 wb := (B4.out wb (Below.refl _ _)).1
  have bab : Below wa.heap.size wa wb := b3.stepL bb0 b3.size
  have OKa := hidK ((OK1.out.bel BAh.out).bel bab)
  have OKb := hidK (ok2.bel bb0)
  obtain ⟨_, x0, x1, x2, x3, _⟩ := A4.out wb bab
  obtain ⟨wc, hwc⟩ : ∃ x, x = wb.alloc (.cells #[.string ⟨k2.toArray⟩, .int .i64 l2, .int .i64 p2, .slice a1 s2.length n1] 52) := ⟨_, rfl⟩
  have bc : Below wb.heap.size wb wc := by rw [hwc]; exact belR _ _
  obtain ⟨_, y0, y1, y2, y3, _⟩ := B4.out wc bc
  have R1 : RdO wc (.slice (some ⟨wb.heap.size, 0, none⟩) 1 1) [⟨⟨k2, l2, p2, s2⟩, .slice a1 s2.length n1⟩] := by rw [hwc]; exact lit_ob wb OKa.out
  obtain ⟨wd, hwd⟩ : ∃ x, x = wc.alloc (.cells #[.string ⟨k2.toArray⟩, .int .i64 l2, .int .i64 p2, .slice a2 s2.length n2] 52) := ⟨_, rfl⟩
  have bd : Below wc.heap.size wc wd := by rw [hwd]; exact belR _ _
  have hsz : wc.heap.size = wb.heap.size + 1 := by rw [hwc]; simp
  have R2 : RdO wd (.slice (some ⟨wb.heap.size + 1, 0, none⟩) 1 1) [⟨⟨k2, l2, p2, s2⟩, .slice a2 s2.length n2⟩] := by rw [hwd, ← hsz]; exact lit_ob wc (OKb.out.bel bc)
  have hl : s2.length ≤ 1000 := by
    have h := HS.out
    rw [← hO, ← e2] at h
    exact h
  have K3 := robjs16_any (R1.below bd) R2 (by simp) (by
    intro i hi
    obtain rfl : i = 0 := by simpa using hi
    exact Nat.le_trans hl (by decide)) (by
    intro i hi
    obtain rfl : i = 0 := by simpa using hi
    exact Nat.le_trans hl (by decide))
  have KH := hidK K3
  have BW : Hid (Below w.heap.size w wd) := by
    have h1 := BH.out.stepL bab BH.out.size
    have h2 := h1.stepL bc h1.size
    exact h2.stepL bd h2.size
  clear A4 B4 K3 R1 R2 OKa OKb OK1 bb0 bab bc bd b3 BH BAh ok2 hsz e1 e2 hl HS
  subst hwd
  subst hwc
  go_upto_region 12 with fail
  rw [← hwb]
  clear hwb
  go_wp2_with fail
  refine KH.out.mono ?_
  clear KH x0 x1 x2 x3 y0 y1 y2 y3
  rintro _ w4 ⟨bs, rfl, hbs, b4⟩
  obtain rfl : bs = true := hbs.2 rfl
  have F : Hid (Below w.heap.size w w4) := BW.out.stepL b4 BW.out.size
  clear b4 BW hbs
  go_wp2
  go_ret
  exact ⟨by simp, F.out⟩
end Go.Proofs.Ytndlfmofjmieaaa.Gf
