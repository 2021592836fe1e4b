/- TEXTS JOINED: CtDd, CtDe, CtLi, CtLay, CtKeys. -/
import Derived.Test.YtndlfmofjmieaaaPome17
import Derived.Test.YtndlfmofjmieaaaPome22
import Derived.Shelf.SlIter.Nil
import Derived.Shelf.SortM.Plain
import Derived.Shelf.SortM.SortNone
import Derived.Ground.GgzProg
import Derived.Ground.SlgmProg
namespace Go.Proofs.Ytndlfmofjmieaaa.Gf
set_option linter.unusedVariables false
set_option linter.unusedSimpArgs false
open Go.RowKit
/-- the landed catalog and the document's hold the same -/
def BothC (w0 : World) (w : World) (cb mb rb : Nat) (g : GeoS) : Prop :=
  ∃ LV MV v, CatI w cb mb g LV (fun x => x = rb) ∧ CatR w rb g MV v ∧ oL MV = oL LV ∧ Below w0.heap.size w0 w ∧ w0.heap.size ≤ mb ∧ w0.heap.size ≤ rb
theorem BothC.below {w0 w w' : World} {cb mb rb : Nat} {g : GeoS} (h : BothC w0 w cb mb rb g) (b : Below w.heap.size w w') : BothC w0 w' cb mb rb g := by
  obtain ⟨LV, MV, v, h1, h2, h3, h4, h5, h6⟩ := h
  exact ⟨LV, MV, v, h1.below b, h2.below b, h3, h4.stepL b h4.size, h5, h6⟩
theorem RcV.In.offG {w w' : World} {c : RcV} {G : Nat → Prop} (h : c.In w) (ha : ApartG G c.vs) (t : TurnG G w w') : c.In w' := ⟨h.wk, h.wl, h.ky, h.rs.offG ha t, h.wi⟩
set_option maxRecDepth 100000 in
set_option maxHeartbeats 4000000 in
theorem cdid2_any {w0 w : World} {cb mb rb : Nat} {g : GeoS} (hB : BothC w0 w cb mb rb g) {x : CallK} (hx : x.r.In w) (hcp : ∀ n d, x.r.vs = .slice none n d → d = 0) (we : (Lit.int .i64 x.ep).wf = true) (hk : x.kind = 2) : Calls Try.prog 15 #[.pointer (some ⟨cb, 0, none⟩), .pointer (some ⟨rb, 0, none⟩), aggK x] w fun e w' => e = .returned (.bool true) ∧ BothC w0 w' cb mb rb g := by
  obtain ⟨kd, ⟨⟨rk, ky, ln, st⟩, vs⟩, s⟩ := x
  simp only at hk
  subst hk
  obtain ⟨sa, sc, es⟩ := hx.rs.form
  simp only at es
  subst es
  obtain ⟨LV, MV, v, hC, hR, hm, b0, lm, lr⟩ := hB
  have gok := hC.gok
  have gw := hC.gw
  have go64 : g.o ≤ 64 := by
    obtain ⟨_, _, _, _, _, _, _, _, _, _, q⟩ := gok
    omega
  have hll : MV.length ≤ 64 := by
    have h1 := hC.few.2
    have h2 := congrArg List.length hm
    rw [oL_length, oL_length] at h2
    omega
  obtain ⟨X, hX⟩ : ∃ X, apCX g (oL LV) ⟨rk, ky, ln, st⟩ s = X := ⟨_, rfl⟩
  obtain ⟨L, hL⟩ : ∃ L, apCS g (oL LV) ⟨rk, ky, ln, st⟩ s = L := ⟨_, rfl⟩
  obtain ⟨W, hW⟩ : ∃ W, W = w.alloc (.cells #[.int .i64 2, .int .i64 rk, .string ⟨ky.toArray⟩, .int .i64 ln, .slice sa st.length sc, .int .i64 s] 41) := ⟨_, rfl⟩
  have TA : Hid (∀ V, Below W.heap.size W V → Below w.heap.size w V ∧ ∀ j, V.cell? ⟨w.heap.size, j, none⟩ = (#[Value.int .i64 2, .int .i64 rk, .string ⟨ky.toArray⟩, .int .i64 ln, .slice sa st.length sc, .int .i64 s] : Array Value)[j]?) := by rw [hW]; exact box6 _ _ _ _ _ _ _ _
  obtain ⟨BW, z⟩ := TA.out W (Below.refl _ _)
  have bd : Below W.heap.size W W.drew := (Below.refl _ _).drew
  obtain ⟨BD, zd⟩ := TA.out W.drew bd
  have CD := hC.below BD
  have RD := hR.below BD
  have INd := hx.below BD
  have im := CD.isMap
  have K1 := capply19_any CD (c := ⟨⟨rk, ky, ln, st⟩, .slice sa st.length sc⟩) INd we hX hL
  rw [show aggR ⟨⟨rk, ky, ln, st⟩, .slice sa st.length sc⟩ = .agg #[.int .i64 rk, .string ⟨ky.toArray⟩, .int .i64 ln, .slice sa st.length sc] from rfl] at K1
  have KH := hidK K1
  have lbox : w.heap.size < W.drew.heap.size := Nat.lt_of_lt_of_le (by rw [hW]; simp) bd.size
  have lmw : mb < w.heap.size := hC.mp.lt
  have lrw : rb < w.heap.size := hR.lt
  have LB2 : Hid (w.heap.size < W.drew.heap.size ∧ ¬ w.heap.size = rb) := ⟨lbox, by omega⟩
  have CELL : Hid (∀ V, TurnG (fun x => x = mb) W.drew V → (V.cell? ⟨w.heap.size, 1, none⟩ = some (.int .i64 rk) ∧ V.cell? ⟨w.heap.size, 2, none⟩ = some (.string ⟨ky.toArray⟩) ∧ V.cell? ⟨w.heap.size, 3, none⟩ = some (.int .i64 ln) ∧ V.cell? ⟨w.heap.size, 4, none⟩ = some (.slice sa st.length sc) ∧ V.cell? ⟨w.heap.size, 5, none⟩ = some (.int .i64 s))) := fun V t => by
    have q : ∀ j, V.cell? ⟨w.heap.size, j, none⟩ = W.drew.cell? ⟨w.heap.size, j, none⟩ := fun j => t.cell (p := ⟨w.heap.size, j, none⟩) lbox (by show ¬ w.heap.size = mb; omega)
    exact ⟨(q 1).trans (zd 1), (q 2).trans (zd 2), (q 3).trans (zd 3), (q 4).trans (zd 4), (q 5).trans (zd 5)⟩
  have KR : Hid (∀ V, TurnG (fun x => x = mb) W.drew V → Calls Try.prog 38 #[.pointer (some ⟨rb, 0, none⟩), .agg #[.int .i64 rk, .string ⟨ky.toArray⟩, .int .i64 ln, .slice sa st.length sc], .int .i64 s] V (RApp19 V rb g X L)) := fun V t =>
    rapply19_any (RD.mapped im t) gw go64 hll (c := ⟨⟨rk, ky, ln, st⟩, .slice sa st.length sc⟩) (INd.offG (INd.rs.notMap im) t) hcp we (by rw [hm]; exact hX) (by rw [hm]; exact hL)
  have END : Hid (∀ w5 w6 M M2 v2, CatI w5 cb mb g M (fun x => x = rb) → oL M = L → TurnG (fun x => x = mb) W.drew w5 → CatR w6 rb g M2 v2 → oL M2 = L → TurnG (fun x => x = rb) w5 w6 → BothC w0 w6 cb mb rb g) := fun w5 w6 M M2 v2 c5 e5 t5 r6 e6 t6 => by
    have b1 : Below w0.heap.size w0 W.drew := b0.stepL BD b0.size
    have b5 : Below w0.heap.size w0 w5 := b1.trans (t5.below (fun y hy => by rw [hy]; exact lm) b1.size)
    exact ⟨M, M2, v2, c5.keep t6, r6, e6.trans e5.symm, b5.trans (t6.below (fun y hy => by rw [hy]; exact lr) b5.size), lm, lr⟩
  have z0 : W.cell? ⟨w.heap.size, 0, none⟩ = some (.int .i64 2) := z 0
  have C0 := CELL.out _ (TurnG.refl _ _)
  clear hC hR hm gok gw go64 hll hX hL bd BD zd CD RD INd im K1 lbox lmw lrw z BW hx hcp we b0 lm lr TA
  show Calls Try.prog 15 #[.pointer (some ⟨cb, 0, none⟩), .pointer (some ⟨rb, 0, none⟩), .agg #[.int .i64 2, .int .i64 rk, .string ⟨ky.toArray⟩, .int .i64 ln, .slice sa st.length sc, .int .i64 s]] w _
  go_enter Try.func15, Try.ntmps15
  go_wp2_with fail
  rw [← hW]
  clear hW
  go_wp2_with fail
  clear z0
  refine wp_region_held_drew (S := fun V => V.cell? ⟨w.heap.size, 1, none⟩ = some (.int .i64 rk) ∧ V.cell? ⟨w.heap.size, 2, none⟩ = some (.string ⟨ky.toArray⟩) ∧ V.cell? ⟨w.heap.size, 3, none⟩ = some (.int .i64 ln) ∧ V.cell? ⟨w.heap.size, 4, none⟩ = some (.slice sa st.length sc) ∧ V.cell? ⟨w.heap.size, 5, none⟩ = some (.int .i64 s)) (by kernel_rfl) C0 (fun hHeld => ?_)
  clear C0
  refine tkH 0 ?_
  refine tkH 1 ?_
  refine tkH 2 ?_
  refine tkH 3 ?_
  refine tkH 4 ?_
  refine tkH 6 ?_
  refine tkH 7 ?_
  refine tkH 8 ?_
  refine tkH 9 ?_
  refine tkH 10 ?_
  refine rnH 5 (fun K' hK => ?_)
  go_simp
  go_at_call 25
  refine KH.out.mono ?_
  clear KH
  rintro _ w5 ⟨M5, rfl, C5, e5, t5⟩
  dsimp only
  have S5 := CELL.out w5 t5
  have K2 := hidK (KR.out w5 t5)
  have LB5 : Hid (w.heap.size < w5.heap.size ∧ ¬ w.heap.size = rb) := ⟨Nat.lt_of_lt_of_le LB2.out.1 t5.size, LB2.out.2⟩
  have EN5 : Hid (∀ w6 M2 v2, CatR w6 rb g M2 v2 → oL M2 = L → TurnG (fun x => x = rb) w5 w6 → BothC w0 w6 cb mb rb g) := fun w6 M2 v2 r6 e6 t6 => END.out w5 w6 M5 M2 v2 C5 e5 t5 r6 e6 t6
  refine koH hK S5 fun hHeld => ?_
  clear hK K' e5 t5 C5 CELL KR END LB2
  refine rnH 11 (fun K' hK => ?_)
  go_simp
  go_at_call 38
  refine K2.out.mono ?_
  clear K2
  rintro _ w6 ⟨M6, v6, rfl, R6, e6, t6⟩
  dsimp only
  have F := hidK (EN5.out w6 M6 v6 R6 e6 t6)
  have S6 : w6.cell? ⟨w.heap.size, 1, none⟩ = some (.int .i64 rk) ∧ w6.cell? ⟨w.heap.size, 2, none⟩ = some (.string ⟨ky.toArray⟩) ∧ w6.cell? ⟨w.heap.size, 3, none⟩ = some (.int .i64 ln) ∧ w6.cell? ⟨w.heap.size, 4, none⟩ = some (.slice sa st.length sc) ∧ w6.cell? ⟨w.heap.size, 5, none⟩ = some (.int .i64 s) := by
    have q : ∀ j, w6.cell? ⟨w.heap.size, j, none⟩ = w5.cell? ⟨w.heap.size, j, none⟩ := fun j => t6.cell (p := ⟨w.heap.size, j, none⟩) LB5.out.1 LB5.out.2
    obtain ⟨p1, p2, p3, p4, p5⟩ := S5
    exact ⟨(q 1).trans p1, (q 2).trans p2, (q 3).trans p3, (q 4).trans p4, (q 5).trans p5⟩
  refine koH hK S6 fun hHeld => ?_
  clear hK K' e6 t6 R6 EN5 S5 S6
  refine tkH 12 ?_
  refine tkH 13 ?_
  refine wpAnyH_done (by kernel_rfl) ?_ _
  clear hHeld
  go_wp2
  go_ret
  exact ⟨rfl, F.out⟩
end Go.Proofs.Ytndlfmofjmieaaa.Gf

namespace Go.Proofs.Ytndlfmofjmieaaa.Gf
set_option linter.unusedVariables false
set_option linter.unusedSimpArgs false
open Go.RowKit
theorem plR_short (g : GeoS) (L : List ObS) (k : List UInt8) (n : Int) : (plR g L k n).length ≤ g.s.toNat := by
  unfold plR
  by_cases h : plX g L k n = 0
  · rw [if_pos h, List.length_take]
    have h1 : (frL g L).length ≤ g.s.toNat := by
      unfold frL
      refine Nat.le_trans (List.length_filter_le _ _) ?_
      simp
    omega
  · rw [if_neg h]
    exact Nat.zero_le _
set_option maxRecDepth 100000 in
set_option maxHeartbeats 2000000 in
theorem cdid0_any {w : World} {cb rb : Nat} {x : CallK} (h1 : ¬ x.kind = 1) (h2 : ¬ x.kind = 2) (h3 : ¬ x.kind = 3) (h4 : ¬ x.kind = 4) : Calls Try.prog 15 #[.pointer (some ⟨cb, 0, none⟩), .pointer (some ⟨rb, 0, none⟩), aggK x] w fun e w' => e = .returned (.bool true) ∧ Below w.heap.size w w' := by
  obtain ⟨kd, ⟨⟨rk, ky, ln, st⟩, vs⟩, s⟩ := x
  simp only at h1 h2 h3 h4
  have n1 : (kd == 1) = false := beq_eq_false_iff_ne.2 h1
  have n2 : (kd == 2) = false := beq_eq_false_iff_ne.2 h2
  have n3 : (kd == 3) = false := beq_eq_false_iff_ne.2 h3
  have n4 : (kd == 4) = false := beq_eq_false_iff_ne.2 h4
  obtain ⟨W, hW⟩ : ∃ W, W = w.alloc (.cells #[.int .i64 kd, .int .i64 rk, .string ⟨ky.toArray⟩, .int .i64 ln, vs, .int .i64 s] 41) := ⟨_, rfl⟩
  have BW : Hid (Below w.heap.size w W) := by rw [hW]; exact belL _ _
  have z0 : W.cell? ⟨w.heap.size, 0, none⟩ = some (.int .i64 kd) := by rw [hW]; exact World.cell?_alloc_new _ _ _ _
  show Calls Try.prog 15 #[.pointer (some ⟨cb, 0, none⟩), .pointer (some ⟨rb, 0, none⟩), .agg #[.int .i64 kd, .int .i64 rk, .string ⟨ky.toArray⟩, .int .i64 ln, vs, .int .i64 s]] w _
  go_enter Try.func15, Try.ntmps15
  go_upto_region 1 with fail
  rw [← hW]
  clear hW
  go_wp2
  go_ret
  exact ⟨rfl, BW.out⟩
/-- whatever is called, both answer the same and hold the same behind it -/
theorem cdid_any {w0 w : World} {cb mb rb : Nat} {g : GeoS} (hB : BothC w0 w cb mb rb g) (hs : g.s ≤ 40) {x : CallK} (hx : x.r.In w) (hcp : ∀ n d, x.r.vs = .slice none n d → d = 0) (we : (Lit.int .i64 x.ep).wf = true) (hsm : smK x = true) : Calls Try.prog 15 #[.pointer (some ⟨cb, 0, none⟩), .pointer (some ⟨rb, 0, none⟩), aggK x] w fun e w' => e = .returned (.bool true) ∧ BothC w0 w' cb mb rb g := by
  have hky := (of_decide_eq_true hsm).1
  by_cases h2 : x.kind = 2
  · exact cdid2_any hB hx hcp we h2
  have BH := hB
  obtain ⟨LV, MV, v, hC, hR, hm, _⟩ := hB
  have K : Calls Try.prog 15 #[.pointer (some ⟨cb, 0, none⟩), .pointer (some ⟨rb, 0, none⟩), aggK x] w fun e w' => e = .returned (.bool true) ∧ Below w.heap.size w w' := by
    by_cases h1 : x.kind = 1
    · refine cdid1_any hC hR.cat hm hC.gw (by omega) hx h1 hky ?_
      have := plR_short g (oL LV) x.r.r.key x.r.r.len
      omega
    by_cases h3 : x.kind = 3
    · exact cdid3_any hC hR.cat hR.ow.ea hm h3 hky
    by_cases h4 : x.kind = 4
    · exact cdid4_any hC hR.cat hm h4
    exact cdid0_any h1 h2 h3 h4
  exact K.mono fun e w' h => ⟨h.1, BH.below h.2⟩
end Go.Proofs.Ytndlfmofjmieaaa.Gf

namespace Go.Proofs.Ytndlfmofjmieaaa.Gf
set_option linter.unusedVariables false
set_option linter.unusedSimpArgs false
open Go.RowKit
def LitT (L : List ObV) (n : Nat) : Prop := ∀ j, j < n → (L.getD j default).o.key.length ≤ 100 ∧ (L.getD j default).o.st.length ≤ 40
/-- its yes tells that the list is short, its keys and stripes too -/
def Lit19 (w : World) (L : List ObV) (e : Ending) (w' : World) : Prop := ∃ b : Bool, e = .returned (.bool b) ∧ (b = true → L.length ≤ 70 ∧ LitT L L.length) ∧ Below w.heap.size w w'
set_option maxRecDepth 100000 in
set_option maxHeartbeats 2000000 in
theorem clittle19_any {w : World} {va : Option Addr} {vc : Nat} {L : List ObV} (hv : RdO w (.slice va L.length vc) L) : Calls Try.prog 10 #[.slice va L.length vc] w (Lit19 w L) := by
  have HV := hidK hv
  clear hv
  by_cases h70 : (70 : Int) < (L.length : Int)
  · have F : Hid (Lit19 w L (.returned (.bool false)) w) := ⟨false, rfl, (fun h => by cases h), Below.refl _ _⟩
    clear HV
    go_enter Try.func10, Try.ntmps10
    go_wp2
    go_ret
    exact F.out
  have hl70 : L.length ≤ 70 := by omega
  go_enter Try.func10, Try.ntmps10
  go_wp2_with fail
  go_loopw [3] (fun i wr => ∃ r : Nat, r ≤ L.length ∧ i = .int .i64 (r : Int) ∧ Hid (LitT L r) ∧ Hid (Below w.heap.size w wr)) (fun i _ => L.length - (intOf i).toNat)
  case atStart => exact ⟨0, Nat.zero_le _, rfl, (fun j hj => absurd hj (Nat.not_lt_zero _)), Below.refl _ _⟩
  case round =>
    obtain ⟨r, hr, rfl, hT, hB⟩ := hrel
    by_cases hlt : r < L.length
    rotate_left
    · obtain rfl : r = L.length := by omega
      have F : Hid (Lit19 w L (.returned (.bool true)) wr) := ⟨true, rfl, fun _ => ⟨hl70, hT.out⟩, hB.out⟩
      have hge : ¬ (L.length : Int) < (L.length : Int) := by omega
      clear HV hT hB
      go_wp2
      go_ret
      exact F.out
    have hlt' : (r : Int) < (L.length : Int) := by omega
    obtain ⟨b, off, ea, hb, cz⟩ := (HV.out.below hB.out).at hlt
    subst ea
    obtain ⟨c, hc⟩ : ∃ c, c = L.getD r default := ⟨_, rfl⟩
    have NX : Hid (c.o.key.length ≤ 100 → c.o.st.length ≤ 40 → LitT L (r + 1)) := fun h1 h2 j hj => by
      by_cases e : j = r
      · rw [e, ← hc]; exact ⟨h1, h2⟩
      · exact hT.out j (by omega)
    rw [← hc] at cz
    clear hc
    obtain ⟨⟨ky, ln, ep, st⟩, vs⟩ := c
    obtain ⟨c0, c1, c2, c3, _, _, _, rs, _⟩ := cz
    obtain ⟨sa, sc, es⟩ := rs.form
    simp only at es c0 c3
    subst es
    have y0 : wr.cell? ⟨b, off + r * 4, none⟩ = some (.string ⟨ky.toArray⟩) := c0
    have F : Hid (Lit19 w L (.returned (.bool false)) wr) := ⟨false, rfl, (fun h => by cases h), hB.out⟩
    clear c0 c1 c2 rs
    by_cases k1 : (100 : Int) < (ky.length : Int)
    · clear HV hT hB NX
      go_wp2
      go_ret
      exact F.out
    by_cases k2 : (40 : Int) < (st.length : Int)
    · clear HV hT hB NX
      go_wp2
      go_ret
      exact F.out
    have NT := hidK (NX.out (by simp only; omega) (by simp only; omega))
    clear NX F hT
    go_wp2
    go_roundw
    case rel => exact ⟨r + 1, by omega, by go_num, NT, hB⟩
    case measure => simp [intOf]; omega
end Go.Proofs.Ytndlfmofjmieaaa.Gf

namespace Go.Proofs.Ytndlfmofjmieaaa.Gf
open Go.RowKit Go.Maps Go.Sort Go.Shelf
def laykeysC_ren : Go.Shelf.Ren := ⟨fun | 7 => 44 | 10 => 58 | n => n, fun | 23 => 70 | 26 => 9 | 3 => 52 | 28 => 83 | 0 => 0 | 27 => 82 | 33 => 73 | 4 => 4 | n => n, fun | n => n⟩
theorem laykeysC : Go.Proofs.SlLaysZ.n7 Try.prog laykeysC_ren where
  mixed := by kernel_rfl
  f7 := ⟨ "maps.Keys[map[string]aumbry/api.Object,string,aumbry/api.Object]", by decide, Try.func44.trans (congrArg some (by kernel_rfl))⟩
  f10 := ⟨ "maps.Keys[map[string]aumbry/api.Object,string,aumbry/api.Object]$1", by decide, Try.func58.trans (congrArg some (by kernel_rfl))⟩
  t0 := Try.underlying0
  a0 := Try.isAgg0
  z0 := Try.sizeOf0
  v0 := Try.zeroValue0
  t4 := Try.underlying4
  a4 := Try.isAgg4
  z4 := Try.sizeOf4
  v4 := Try.zeroValue4
  t23 := Try.underlying70
  a23 := Try.isAgg70
  z23 := Try.sizeOf70
  v23 := Try.zeroValue70
  t26 := Try.underlying9
  a26 := Try.isAgg9
  z26 := Try.sizeOf9
  v26 := Try.zeroValue9
  t27 := Try.underlying82
  a27 := Try.isAgg82
  z27 := Try.sizeOf82
  v27 := Try.zeroValue82
  t28 := Try.underlying83
  a28 := Try.isAgg83
  z28 := Try.sizeOf83
  v28 := Try.zeroValue83
  t33 := Try.underlying73
  a33 := Try.isAgg73
  z33 := Try.sizeOf73
  v33 := Try.zeroValue73
def laysortedC_ren : Go.Shelf.Ren := ⟨fun | 6 => 43 | 8 => 56 | 9 => 57 | 11 => 64 | 13 => 66 | 12 => 65 | 23 => 77 | 24 => 78 | 14 => 68 | 15 => 69 | 16 => 70 | 17 => 71 | 18 => 72 | 19 => 73 | 20 => 74 | 21 => 75 | 22 => 76 | 25 => 79 | 26 => 80 | 27 => 81 | 28 => 82 | 29 => 83 | 30 => 84 | 31 => 85 | n => n, fun | 26 => 9 | 28 => 83 | 24 => 80 | 0 => 0 | 3 => 3 | 37 => 100 | 48 => 110 | 50 => 112 | 4 => 4 | 40 => 103 | 39 => 102 | 45 => 54 | 5 => 5 | 9 => 9 | 51 => 113 | 55 => 117 | 57 => 119 | 58 => 120 | 33 => 73 | n => n, fun | n => n⟩
theorem laysortedC : Go.Proofs.SlLaysZ.n6 Try.prog laysortedC_ren where
  mixed := by kernel_rfl
  f6 := ⟨ "slices.Sorted[string]", by decide, Try.func43.trans (congrArg some (by kernel_rfl))⟩
  f8 := ⟨ "slices.Collect[string]", by decide, Try.func56.trans (congrArg some (by kernel_rfl))⟩
  f11 := ⟨ "slices.AppendSeq[[]string,string]", by decide, Try.func64.trans (congrArg some (by kernel_rfl))⟩
  t0 := Try.underlying0
  a0 := Try.isAgg0
  z0 := Try.sizeOf0
  v0 := Try.zeroValue0
  t24 := Try.underlying80
  a24 := Try.isAgg80
  z24 := Try.sizeOf80
  v24 := Try.zeroValue80
  t26 := Try.underlying9
  a26 := Try.isAgg9
  z26 := Try.sizeOf9
  v26 := Try.zeroValue9
  t28 := Try.underlying83
  a28 := Try.isAgg83
  z28 := Try.sizeOf83
  v28 := Try.zeroValue83
  i26 := by kernel_rfl
def laysortC_ren : Go.Shelf.Ren := ⟨fun | 6 => 57 | 8 => 66 | 9 => 65 | 19 => 77 | 20 => 78 | 21 => 68 | 22 => 69 | 23 => 70 | 24 => 71 | 25 => 72 | 26 => 73 | 27 => 74 | 28 => 75 | 29 => 76 | 36 => 79 | 31 => 80 | 32 => 81 | 37 => 82 | 38 => 83 | 39 => 84 | 41 => 85 | n => n, fun | 27 => 80 | 29 => 9 | 3 => 3 | 32 => 100 | 26 => 80 | 0 => 0 | 44 => 110 | 46 => 112 | 4 => 4 | 36 => 103 | 35 => 102 | 41 => 54 | 5 => 5 | 9 => 9 | 53 => 113 | 57 => 117 | 63 => 119 | 64 => 120 | n => n, fun | n => n⟩
theorem laysortC : Go.Proofs.SlLaysM.n6 Try.prog laysortC_ren where
  mixed := by kernel_rfl
  f6 := ⟨ "slices.Sort[[]string,string]", by decide, Try.func57.trans (congrArg some (by kernel_rfl))⟩
  f8 := Try.func66.trans (congrArg some (by kernel_rfl))
  f9 := ⟨ "slices.pdqsortOrdered[string]", by decide, Try.func65.trans (congrArg some (by kernel_rfl))⟩
  f19 := Try.func77.trans (congrArg some (by kernel_rfl))
  f20 := Try.func78.trans (congrArg some (by kernel_rfl))
  f21 := ⟨ "slices.insertionSortOrdered[string]", by decide, Try.func68.trans (congrArg some (by kernel_rfl))⟩
  f22 := ⟨ "slices.heapSortOrdered[string]", by decide, Try.func69.trans (congrArg some (by kernel_rfl))⟩
  f23 := ⟨ "slices.breakPatternsOrdered[string]", by decide, Try.func70.trans (congrArg some (by kernel_rfl))⟩
  f24 := ⟨ "slices.choosePivotOrdered[string]", by decide, Try.func71.trans (congrArg some (by kernel_rfl))⟩
  f25 := ⟨ "slices.reverseRangeOrdered[string]", by decide, Try.func72.trans (congrArg some (by kernel_rfl))⟩
  f26 := ⟨ "slices.partialInsertionSortOrdered[string]", by decide, Try.func73.trans (congrArg some (by kernel_rfl))⟩
  f27 := ⟨ "cmp.Less[string]", by decide, Try.func74.trans (congrArg some (by kernel_rfl))⟩
  f28 := ⟨ "slices.partitionEqualOrdered[string]", by decide, Try.func75.trans (congrArg some (by kernel_rfl))⟩
  f29 := ⟨ "slices.partitionOrdered[string]", by decide, Try.func76.trans (congrArg some (by kernel_rfl))⟩
  f31 := Try.func80.trans (congrArg some (by kernel_rfl))
  f32 := Try.func81.trans (congrArg some (by kernel_rfl))
  f36 := ⟨ "slices.siftDownOrdered[string]", by decide, Try.func79.trans (congrArg some (by kernel_rfl))⟩
  f37 := ⟨ "slices.medianAdjacentOrdered[string]", by decide, Try.func82.trans (congrArg some (by kernel_rfl))⟩
  f38 := ⟨ "slices.medianOrdered[string]", by decide, Try.func83.trans (congrArg some (by kernel_rfl))⟩
  f39 := ⟨ "cmp.isNaN[string]", by decide, Try.func84.trans (congrArg some (by kernel_rfl))⟩
  f41 := ⟨ "slices.order2Ordered[string]", by decide, Try.func85.trans (congrArg some (by kernel_rfl))⟩
  t0 := Try.underlying0
  a0 := Try.isAgg0
  z0 := Try.sizeOf0
  v0 := Try.zeroValue0
  t3 := Try.underlying3
  a3 := Try.isAgg3
  z3 := Try.sizeOf3
  v3 := Try.zeroValue3
  t4 := Try.underlying4
  a4 := Try.isAgg4
  z4 := Try.sizeOf4
  v4 := Try.zeroValue4
  t5 := Try.underlying5
  a5 := Try.isAgg5
  z5 := Try.sizeOf5
  v5 := Try.zeroValue5
  t9 := Try.underlying9
  a9 := Try.isAgg9
  z9 := Try.sizeOf9
  v9 := Try.zeroValue9
  t26 := Try.underlying80
  a26 := Try.isAgg80
  z26 := Try.sizeOf80
  v26 := Try.zeroValue80
  t27 := Try.underlying80
  a27 := Try.isAgg80
  z27 := Try.sizeOf80
  v27 := Try.zeroValue80
  t29 := Try.underlying9
  a29 := Try.isAgg9
  z29 := Try.sizeOf9
  v29 := Try.zeroValue9
  t32 := Try.underlying100
  a32 := Try.isAgg100
  z32 := Try.sizeOf100
  v32 := Try.zeroValue100
  t35 := Try.underlying102
  a35 := Try.isAgg102
  z35 := Try.sizeOf102
  v35 := Try.zeroValue102
  t36 := Try.underlying103
  a36 := Try.isAgg103
  z36 := Try.sizeOf103
  v36 := Try.zeroValue103
  t41 := Try.underlying54
  a41 := Try.isAgg54
  z41 := Try.sizeOf54
  v41 := Try.zeroValue54
  t44 := Try.underlying110
  a44 := Try.isAgg110
  z44 := Try.sizeOf110
  v44 := Try.zeroValue110
  t46 := Try.underlying112
  a46 := Try.isAgg112
  z46 := Try.sizeOf112
  v46 := Try.zeroValue112
  t53 := Try.underlying113
  a53 := Try.isAgg113
  z53 := Try.sizeOf113
  v53 := Try.zeroValue113
  t57 := Try.underlying117
  a57 := Try.isAgg117
  z57 := Try.sizeOf117
  v57 := Try.zeroValue117
  t63 := Try.underlying119
  a63 := Try.isAgg119
  z63 := Try.sizeOf119
  v63 := Try.zeroValue119
  t64 := Try.underlying120
  a64 := Try.isAgg120
  z64 := Try.sizeOf120
  v64 := Try.zeroValue120
end Go.Proofs.Ytndlfmofjmieaaa.Gf

namespace Go.Proofs.Ytndlfmofjmieaaa.Gf
set_option linter.unusedVariables false
set_option linter.unusedSimpArgs false
open Go.RowKit Go.Maps Go.Sort Go.Shelf
theorem sortsC (m : Nat) : AnyZ.SortsIn Try.prog laysortedC_ren Fence.wide m :=
  ⟨fun blk off cap ss W hH hblk hsz => callsIn_wide.2 (AnyM.slices_Sort_string laysortC blk off cap ss W hH hblk hsz),
   fun p cap W => callsIn_wide.2 (AnyM.slices_Sort_string_none laysortC p cap W)⟩
theorem keysC_call (mb : Option Nat) (W : World) : Calls Try.prog 44 #[.map mb] W fun e w' => e = .returned (.func (.func 58) #[] #[.pointer (some ⟨W.heap.size, 0, none⟩)]) ∧ w' = W.alloc (.cells #[.map mb] 70) :=
  (callsIn_wide (n := 5)).1 (AnyZ.keys_in laykeysC Fence.wide 5 trivial rfl mb W)
/-- a map's keys as a list -/
theorem strKeys_perm {w : World} {b : Nat} {LV : List ObV} (h : MapS Try.prog 9 w b (mpF LV)) (hr : Rise (oL LV)) : ∃ D, w.ownsMap Try.prog 9 RV b (Maps.size D) D ∧ (strKeys D).Perm (keysC LV) ∧ Maps.size D = LV.length := by
  obtain ⟨D, hown, hk, hf⟩ := h
  refine ⟨D, hown, ?_, ?_⟩
  · obtain ⟨es, hE, hp, hl⟩ := hown.entries keyed_str
    have hkI : ∀ p ∈ es, ∃ x, p.1 = .string x := by
      intro p hp1
      obtain ⟨x, e⟩ := hk p.1 (by
        rw [hE, Maps.has_eq, List.any_eq_true]
        exact ⟨p, hp1, WideAt.sameKey_self (hl p hp1)⟩)
      exact ⟨x, e⟩
    refine List.Perm.symm ?_
    rw [hE]
    refine perm_strKeys hp hkI (keysC_nodup hr) fun x => ?_
    rw [← hE, mpF_keys]
    rcases hf x with ⟨h1, h2⟩ | ⟨v, h1, h2, _⟩
    · rw [h1, h2]; simp
    · rw [h2, h1]; simp
  · rw [mapS_size keyed_str hown hk hf (keysC_nodup hr) mpF_keys, keysC_length]
theorem sortedC_call {w : World} {b : Nat} {LV : List ObV} (h : MapS Try.prog 9 w b (mpF LV)) (hr : Rise (oL LV)) (hl : LV.length ≤ 1000) :
    Calls Try.prog 43 #[.func (.func 58) #[] #[.pointer (some ⟨w.heap.size, 0, none⟩)]] (w.alloc (.cells #[.map (some b)] 70)) fun e w' => ∃ v, e = .returned v ∧ w'.ownsRow w.heap.size 9 1 v LV.length ((keysC LV).map encStr) ∧ Below w.heap.size w w' := by
  have hbl := h.lt
  obtain ⟨D0, hown, hp, hs⟩ := strKeys_perm h hr
  have hseq : SeqGives Fence.wide 2 Try.prog 58 #[.pointer (some ⟨w.heap.size, 0, none⟩)] encStr (fun ss => ss.Perm (strKeys D0)) (Maps.size D0) (w.alloc (.cells #[.map (some b)] 70)) :=
    AnyZ.keys_gives (ρ := laykeysC_ren) { laykeysC with } Fence.wide _ trivial rfl (by omega) w.heap.size b _ D0 _ (by simp) (by simp) (by
      obtain ⟨es, clock, hb, Ft, hs, hD⟩ := hown
      exact ⟨es, clock, (Below.heap_alloc _ _ b hbl).trans hb, Ft, hs, hD⟩)
  have cS := AnyZ.sorted_in laysortedC Fence.wide 5 trivial trivial trivial trivial rfl (by omega) (sortsC _) (enters_of Try.func57 (by kernel_rfl) rfl) 58 #[.pointer (some ⟨w.heap.size, 0, none⟩)] trivial (enters_of Try.func58 (by kernel_rfl) rfl) _ _ (by unfold maxLen; omega) (by omega) _ hseq
  refine (Calls.mono ((callsIn_wide (n := 5)).1 cS) ?_)
  rintro e w' ⟨v, ss, rfl, hS, hrow, hnil, hb⟩
  refine ⟨v, rfl, ?_, ((Below.refl _ w).alloc (Nat.le_refl _) _).trans (hb.mono (by simp))⟩
  have hp2 := hS.trans hp
  have e1 := keysC_sorted hr hp2
  rw [e1, hp2.length_eq, keysC_length] at hrow
  exact ownsRow_base_a hrow (by simp)
end Go.Proofs.Ytndlfmofjmieaaa.Gf
