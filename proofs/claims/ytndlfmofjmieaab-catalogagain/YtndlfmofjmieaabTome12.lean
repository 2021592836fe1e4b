/- TEXTS JOINED: CtSm, CtCI. -/
import Derived.Test.YtndlfmofjmieaabTome11
namespace Go.Proofs.Ytndlfmofjmieaab.Gf
set_option linter.unusedVariables false
set_option linter.unusedSimpArgs false
open Go.RowKit
def smK (x : CallK) : Bool := decide (x.r.r.key.length ≤ 100 ∧ x.r.r.st.length ≤ 40)
def aggK (x : CallK) : Value := .agg #[.int .i64 x.kind, .int .i64 x.r.r.kind, sv x.r.r.key, .int .i64 x.r.r.len, x.r.vs, .int .i64 x.ep]
set_option maxRecDepth 100000 in
set_option maxHeartbeats 1000000 in
theorem csmall19_any {w : World} {x : CallK} (h : x.r.In w) {b : Bool} (hb : smK x = b) : Calls Try.prog 19 #[aggK x] w fun e w' => e = .returned (.bool b) ∧ Below w.heap.size w w' := by
  obtain ⟨kd, ⟨⟨rk, ky, ln, st⟩, vs⟩, ep⟩ := x
  obtain ⟨sa, sc, es⟩ := h.rs.form
  simp only at es
  subst es
  clear h
  obtain ⟨W, hW⟩ : ∃ W, W = w.alloc (.cells #[.int .i64 kd, .int .i64 rk, .string ⟨ky.toArray⟩, .int .i64 ln, .slice sa st.length sc, .int .i64 ep] 54) := ⟨_, rfl⟩
  have B := hidK (show Below w.heap.size w W by rw [hW]; exact belL _ _)
  have z : ∀ j, W.cell? ⟨w.heap.size, j, none⟩ = (#[Value.int .i64 kd, .int .i64 rk, .string ⟨ky.toArray⟩, .int .i64 ln, .slice sa st.length sc, .int .i64 ep] : Array Value)[j]? := fun j => by rw [hW]; exact World.cell?_alloc_new _ _ _ _
  have z2 : W.cell? ⟨w.heap.size, 2, none⟩ = some (.string ⟨ky.toArray⟩) := z 2
  have z4 : W.cell? ⟨w.heap.size, 4, none⟩ = some (.slice sa st.length sc) := z 4
  clear z
  show Calls Try.prog 19 #[.agg #[.int .i64 kd, .int .i64 rk, .string ⟨ky.toArray⟩, .int .i64 ln, .slice sa st.length sc, .int .i64 ep]] w _
  by_cases h1 : (ky.length : Int) ≤ 100
  rotate_left
  · obtain rfl : b = false := hb.symm.trans (decide_eq_false fun q => h1 (by have := q.1; show (ky.length : Int) ≤ 100; simp only at this; omega))
    clear hb
    rw [hW] at z2 z4 B
    clear hW
    go_enter Try.func19, Try.ntmps19
    go_wp2
    go_ret
    exact ⟨rfl, B.out⟩
  have e : b = decide ((st.length : Int) ≤ 40) := by
    rw [← hb]
    unfold smK
    rw [decide_eq_decide]
    simp only
    omega
  subst e
  clear hb
  rw [hW] at z2 z4 B
  clear hW
  go_enter Try.func19, Try.ntmps19
  go_wp2
  go_ret
  exact ⟨rfl, B.out⟩
/-- a catalog behind a script -/
def Done19 (w : World) (g : GeoS) (e : Ending) (w' : World) : Prop := ∃ cb mb M, e = .returned (.pointer (some ⟨cb, 0, none⟩)) ∧ CatI w' cb mb g M NoB ∧ w.heap.size ≤ cb ∧ w.heap.size ≤ mb ∧ Below w.heap.size w w'
set_option maxRecDepth 100000 in
set_option maxHeartbeats 4000000 in
theorem cdone19_any {w : World} {g : GeoS} (hgw : g.Wf) (hg : okG g) {va : Option Addr} {vc : Nat} {L : List CallK} (hv : RdC19 w (.slice va L.length vc) L) : Calls Try.prog 6 #[aggG g, .slice va L.length vc] w (Done19 w g) := by
  have K1 : ∀ W, Calls Try.prog 8 #[aggG g, .slice none 0 0] W (NewC19 W g [] 0) := fun W => cnew19_any (LV := []) hgw (Or.inl ⟨none, 0, rfl, rfl⟩) (by decide) (by
    unfold neCX
    rw [if_neg (fun q => q hg), if_neg (by obtain ⟨_, _, _, _, _, _, _, _, _, q, _⟩ := hg; show ¬ g.o < (0 : Int); omega), if_neg (by intro h; cases h)])
  have T3 : Hid (∀ V, Below (w.alloc (.cells (cellsG g) 23)).heap.size (w.alloc (.cells (cellsG g) 23)) V → GeoAt V w.heap.size g ∧ Below w.heap.size w V) := geo_laid w g 23
  have HV := hidK hv
  clear hv
  obtain ⟨k, m, z, s, t, o⟩ := g
  obtain ⟨W, hW⟩ : ∃ W, W = w.alloc (.cells #[.int .i64 k, .int .i64 m, .int .i64 z, .int .i64 s, .int .i64 t, .int .i64 o] 23) := ⟨_, rfl⟩
  have T4 : Hid (∀ V, Below W.heap.size W V → GeoAt V w.heap.size ⟨k, m, z, s, t, o⟩ ∧ Below w.heap.size w V) := by rw [hW]; exact T3
  rw [aggE] at K1 ⊢
  obtain ⟨⟨y0, y1, y2, y3, y4, y5⟩, BW⟩ := T4.out W (Below.refl _ _)
  simp only at y0 y1 y2 y3 y4 y5
  have B0 := hidK BW
  clear T3 T4 BW
  go_enter Try.func6, Try.ntmps6
  go_wp2_with fail
  rw [← hW]
  clear hW
  refine (K1 _).mono ?_
  clear K1 y0 y1 y2 y3 y4 y5
  rintro _ w2 (⟨_, cb, mb, M0, rfl, eM, C2, lc, lm, b2⟩ | ⟨h, _⟩)
  rotate_left
  · exact absurd rfl h
  have B2 := hidK (B0.out.stepL b2 B0.out.size)
  have LB : Hid (w.heap.size ≤ cb ∧ w.heap.size ≤ mb) := ⟨Nat.le_trans B0.out.size lc, Nat.le_trans B0.out.size lm⟩
  have CI2 := hidK C2
  clear eM C2 lc lm b2 B0
  go_wp2_with fail
  go_loopw [7] (fun i wr => ∃ (r : Nat) (M : List ObV), r ≤ L.length ∧ r ≤ 40 ∧ i = .int .i64 (r : Int) ∧ Hid (CatI wr cb mb ⟨k, m, z, s, t, o⟩ M NoB) ∧ Hid (Below w.heap.size w wr)) (fun i _ => 40 - (intOf i).toNat)
  case atStart => exact ⟨0, M0, Nat.zero_le _, Nat.zero_le _, rfl, CI2.out, B2.out⟩
  case round =>
    clear CI2 B2
    obtain ⟨r, M, hr, hr4, rfl, hC, hB⟩ := hrel
    have FIN : Hid (Done19 w ⟨k, m, z, s, t, o⟩ (.returned (.pointer (some ⟨cb, 0, none⟩))) wr) := ⟨cb, mb, M, rfl, hC.out, LB.out.1, LB.out.2, hB.out⟩
    by_cases hlt : r < L.length
    rotate_left
    · have hge : ¬ (r : Int) < (L.length : Int) := by omega
      clear hC hB
      go_wp2
      go_ret
      exact FIN.out
    have hlt' : (r : Int) < (L.length : Int) := by omega
    by_cases h40 : r < 40
    rotate_left
    · have hge : ¬ (r : Int) < 40 := by omega
      clear hC hB
      go_wp2
      go_ret
      exact FIN.out
    have h40' : (r : Int) < 40 := by omega
    obtain ⟨b, off, ea, hb, cz⟩ := (HV.out.below hB.out).at hlt
    subst ea
    obtain ⟨x, hx⟩ : ∃ x, L.getD r default = x := ⟨_, rfl⟩
    rw [hx] at cz
    clear hx FIN
    have CZ : Hid (∀ V, Below wr.heap.size wr V → CallAtK V b (off + r * 6) x) := fun V bV => cz.below hb bV
    obtain ⟨kd, ⟨⟨rk, ky, ln, st⟩, vs⟩, ep⟩ := x
    obtain ⟨sa, sc, es⟩ := cz.rr.rs.form
    simp only at es
    subst es
    have SF : Hid (∀ V, Below wr.heap.size wr V → V.cell? ⟨b, off + r * 6, none⟩ = some (.int .i64 kd) ∧ V.cell? ⟨b, off + r * 6 + 1, none⟩ = some (.int .i64 rk) ∧ V.cell? ⟨b, off + r * 6 + 2, none⟩ = some (.string ⟨ky.toArray⟩) ∧ V.cell? ⟨b, off + r * 6 + 3, none⟩ = some (.int .i64 ln) ∧ V.cell? ⟨b, off + r * 6 + 4, none⟩ = some (.slice sa st.length sc) ∧ V.cell? ⟨b, off + r * 6 + 5, none⟩ = some (.int .i64 ep)) := fun V bV => by
      have q := CZ.out V bV
      exact ⟨q.s0, q.s1, q.s2, q.s3, q.s4, q.s5⟩
    obtain ⟨sm, hsm⟩ : ∃ y, Hid (smK ⟨kd, ⟨⟨rk, ky, ln, st⟩, .slice sa st.length sc⟩, ep⟩ = y) := ⟨_, rfl⟩
    have K2 := csmall19_any (x := ⟨kd, ⟨⟨rk, ky, ln, st⟩, .slice sa st.length sc⟩, ep⟩) cz.rr hsm.out
    rw [show aggK ⟨kd, ⟨⟨rk, ky, ln, st⟩, .slice sa st.length sc⟩, ep⟩ = .agg #[.int .i64 kd, .int .i64 rk, .string ⟨ky.toArray⟩, .int .i64 ln, .slice sa st.length sc, .int .i64 ep] from rfl] at K2
    obtain ⟨z0, z1, z2, z3, z4, z5⟩ := SF.out wr (Below.refl _ _)
    clear cz
    go_wp2_with fail
    refine K2.mono ?_
    clear K2 z0 z1 z2 z3 z4 z5
    rintro _ w3 ⟨rfl, b3⟩
    have B3 := hidK (hB.out.stepL b3 hB.out.size)
    have C3 := hidK (hC.out.below b3)
    have BB := hidK b3
    clear b3 hB hC
    cases sm with
    | false =>
      clear SF CZ hsm BB
      go_wp2
      go_roundw
      case rel => exact ⟨r + 1, M, by omega, by omega, by go_num, C3, B3⟩
      case measure => simp [intOf]; omega
    | true =>
    by_cases hk : kd = 2
    rotate_left
    · have hk' : (kd == 2) = false := beq_eq_false_iff_ne.2 hk
      obtain ⟨z0, z1, z2, z3, z4, z5⟩ := SF.out w3 BB.out
      clear SF CZ hsm BB z1 z2 z3 z4 z5
      go_wp2
      go_roundw
      case rel => exact ⟨r + 1, M, by omega, by omega, by go_num, C3, B3⟩
      case measure => simp [intOf]; omega
    subst hk
    obtain ⟨z0, z1, z2, z3, z4, z5⟩ := SF.out w3 BB.out
    clear z1 z2 z3 z4 z5
    have BD := hidK (BB.out.stepL (Below.refl _ _).drew BB.out.size)
    have B4 := hidK (B3.out.stepL (Below.refl _ _).drew B3.out.size)
    have C4 := hidK (C3.out.below (Below.refl _ _).drew)
    have CC := CZ.out _ BD.out
    have K3 := capply19_any C4.out (c := ⟨⟨rk, ky, ln, st⟩, .slice sa st.length sc⟩) CC.rr (ep := ep) CC.we rfl rfl
    rw [show aggR ⟨⟨rk, ky, ln, st⟩, .slice sa st.length sc⟩ = .agg #[.int .i64 rk, .string ⟨ky.toArray⟩, .int .i64 ln, .slice sa st.length sc] from rfl] at K3
    have lbw := hb
    have CELL : Hid (∀ V, TurnG (fun k => k = mb) w3.drew V → V.cell? ⟨b, off + r * 6, none⟩ = some (.int .i64 2) ∧ V.cell? ⟨b, off + r * 6 + 1, none⟩ = some (.int .i64 rk) ∧ V.cell? ⟨b, off + r * 6 + 2, none⟩ = some (.string ⟨ky.toArray⟩) ∧ V.cell? ⟨b, off + r * 6 + 3, none⟩ = some (.int .i64 ln) ∧ V.cell? ⟨b, off + r * 6 + 4, none⟩ = some (.slice sa st.length sc) ∧ V.cell? ⟨b, off + r * 6 + 5, none⟩ = some (.int .i64 ep)) := fun V t => by
      have im := C4.out.isMap
      obtain ⟨p0, p1, p2, p3, p4, p5⟩ := SF.out _ BD.out
      have lb : b < w3.drew.heap.size := Nat.lt_of_lt_of_le lbw BD.out.size
      have nb : ¬ b = mb := fun e => by
        rw [im.cell ⟨b, off + r * 6, none⟩ e] at p0
        cases p0
      have q : ∀ j, V.cell? ⟨b, j, none⟩ = w3.drew.cell? ⟨b, j, none⟩ := fun j => t.cell (p := ⟨b, j, none⟩) lb nb
      exact ⟨(q _).trans p0, (q _).trans p1, (q _).trans p2, (q _).trans p3, (q _).trans p4, (q _).trans p5⟩
    clear CC CZ hsm lbw
    go_wp2_with fail
    refine wp_region_held_drew (S := fun V => V.cell? ⟨b, off + r * 6, none⟩ = some (.int .i64 2) ∧ V.cell? ⟨b, off + r * 6 + 1, none⟩ = some (.int .i64 rk) ∧ V.cell? ⟨b, off + r * 6 + 2, none⟩ = some (.string ⟨ky.toArray⟩) ∧ V.cell? ⟨b, off + r * 6 + 3, none⟩ = some (.int .i64 ln) ∧ V.cell? ⟨b, off + r * 6 + 4, none⟩ = some (.slice sa st.length sc) ∧ V.cell? ⟨b, off + r * 6 + 5, none⟩ = some (.int .i64 ep)) (by kernel_rfl) (SF.out _ BD.out) (fun hHeld => ?_)
    clear z0
    refine tkH 0 ?_
    refine tkH 1 ?_
    refine tkH 2 ?_
    refine tkH 3 ?_
    refine tkH 4 ?_
    refine tkH 5 ?_
    refine tkH 6 ?_
    refine tkH 7 ?_
    refine tkH 8 ?_
    refine tkH 9 ?_
    refine tkH 10 ?_
    clear hHeld
    refine rnH 11 (fun K' hK => ?_)
    go_simp
    go_at_call 11
    refine K3.mono ?_
    clear K3
    rintro _ w5 ⟨M5, rfl, C5, e5, t5⟩
    dsimp only
    have B5 := hidK (B4.out.trans (t5.below (fun y hy => by rw [hy]; exact LB.out.2) B4.out.size))
    have S5 := CELL.out w5 t5
    have C6 := hidK C5
    clear e5 t5 C5
    refine koH hK S5 fun hHeld => ?_
    clear hK K' hHeld S5
    refine wpAnyH_done (by kernel_rfl) ?_ _
    clear SF BB BD B4 C4 B3 C3 CELL
    go_wp2
    go_roundw
    case rel => exact ⟨r + 1, M5, by omega, by omega, by go_num, C6, B5⟩
    case measure => simp [intOf]; omega
end Go.Proofs.Ytndlfmofjmieaab.Gf

namespace Go.Proofs.Ytndlfmofjmieaab.Gf
set_option linter.unusedVariables false
set_option linter.unusedSimpArgs false
open Go.RowKit
open Go.Maps (Keyed)
open Go.ChangeMaps Go.MapKept
set_option maxRecDepth 100000 in
set_option maxHeartbeats 1000000 in
theorem cindex19_any {w : World} {v : Value} {st : List Int} (h : RdI w v st) (hl : st.length ≤ 1000) (s : Int) : Calls Try.prog 42 #[v, .int .i64 s] w fun e w' => (∃ r : Int, e = .returned (.int .i64 r) ∧ (0 ≤ r ↔ s ∈ st)) ∧ w' = w := by
  obtain ⟨a, c, rfl⟩ := h.form
  have H := hidK h
  clear h
  go_enter Try.func42, Try.ntmps42
  go_wp2_with fail
  go_loopw [8] (fun i wr => ∃ r : Nat, r ≤ st.length ∧ i = .int .i64 (r : Int) ∧ wr = w ∧ Hid (∀ j, j < r → st.getD j 0 ≠ s)) (fun i _ => st.length - (intOf i).toNat)
  case atStart => exact ⟨0, Nat.zero_le _, rfl, rfl, fun j hj => absurd hj (Nat.not_lt_zero _)⟩
  case round =>
    obtain ⟨r, hr, rfl, hw, hj⟩ := hrel
    rw [hw]
    clear hw wr
    by_cases hlt : r < st.length
    · have hlt' : (r : Int) < (st.length : Int) := by omega
      obtain ⟨b, off, rfl, _, cs⟩ := H.out.at hlt
      have MEM : Hid (st.getD r 0 ∈ st) := by
        show _ ∈ _
        rw [show st.getD r 0 = st[r] by simp [List.getD, hlt]]
        exact List.getElem_mem hlt
      have NX : Hid (st.getD r 0 ≠ s → ∀ j, j < r + 1 → st.getD j 0 ≠ s) := fun e j hj3 => by
        by_cases e2 : j = r
        · rw [e2]; exact e
        · exact hj.out j (by omega)
      generalize st.getD r 0 = y at cs NX MEM
      by_cases e : s = y
      · subst e
        have F : Hid (∃ r' : Int, Ending.returned (.int .i64 (r : Int)) = .returned (.int .i64 r') ∧ (0 ≤ r' ↔ s ∈ st)) := ⟨_, rfl, fun _ => MEM.out, fun _ => Int.natCast_nonneg _⟩
        clear NX MEM hj H
        go_wp2
        exact bodyPost_ret (v := .int .i64 (r : Int)) (by simp [results, Try.results42, go_sem]) rfl ⟨F.out, rfl⟩
      · have e2 : (s == y) = false := beq_eq_false_iff_ne.2 e
        have N2 := hidK (NX.out fun q => e q.symm)
        clear NX MEM hj
        go_wp2
        go_roundw
        case rel => exact ⟨r + 1, by omega, by go_num, (by first | rfl | trivial), N2⟩
        case measure => simp [intOf]; omega
    · obtain rfl : r = st.length := by omega
      have hge : ¬ (st.length : Int) < (st.length : Int) := by omega
      have F : Hid (∃ r' : Int, Ending.returned (.int .i64 (-1)) = .returned (.int .i64 r') ∧ (0 ≤ r' ↔ s ∈ st)) := ⟨_, rfl, fun q => absurd q (by decide), fun hm => by
        obtain ⟨i, hi, e⟩ := List.getElem_of_mem hm
        exact absurd (by rw [← e]; simp [List.getD, hi]) (hj.out i hi)⟩
      clear hj H
      go_wp2
      exact bodyPost_ret (v := .int .i64 (-1)) (by simp [results, Try.results42, go_sem]) rfl ⟨F.out, rfl⟩
set_option maxRecDepth 100000 in
theorem ccontains19_any {w : World} {v : Value} {st : List Int} (h : RdI w v st) (hl : st.length ≤ 1000) (s : Int) {x : Bool} (hx : decide (s ∈ st) = x) : Calls Try.prog 33 #[v, .int .i64 s] w fun e w' => e = .returned (.bool x) ∧ w' = w := by
  have K := cindex19_any h hl s
  obtain ⟨a, c, rfl⟩ := h.form
  have HX := hidK hx
  clear h hx
  go_enter Try.func33, Try.ntmps33
  go_wp2_with fail
  refine K.mono ?_
  clear K
  rintro _ wq ⟨⟨r, rfl, hr⟩, eq⟩
  rw [eq]
  clear eq wq
  have e : x = decide (r ≥ 0) := by
    rw [← HX.out, decide_eq_decide]
    exact hr.symm
  subst e
  clear hr HX
  go_wp2
  go_ret
  exact ⟨rfl, rfl⟩
set_option maxRecDepth 100000 in
set_option maxHeartbeats 4000000 in
theorem cowner19_any {w : World} {cb mb : Nat} {g : GeoS} {LV : List ObV} {P : Nat → Prop} (h : CatI w cb mb g LV P) (s : Int) {E : Int} {B : Bool} (hE : (owK (oL LV) s).getD 0 = E) (hB : (owK (oL LV) s).isSome = B) :
    Calls Try.prog 14 #[.pointer (some ⟨cb, 0, none⟩), .int .i64 s] w fun e w' => e = .returned (.tuple #[.int .i64 E, .bool B]) ∧ Below w.heap.size w w' := by
  have H := hidK h
  have c6 := h.c6
  obtain ⟨D, hown, hk, hf⟩ := h.mp
  have HN : Hid ((∀ c ∈ LV, s ∉ c.o.st) → E = 0 ∧ B = false) := fun q => by
    have e : owK (oL LV) s = none := owK_none.2 fun o ho => by
      obtain ⟨c, hc, rfl⟩ := List.mem_map.1 ho
      exact q c hc
    rw [← hE, ← hB, e]
    exact ⟨rfl, rfl⟩
  have HY : Hid (∀ c ∈ LV, s ∈ c.o.st → E = c.o.ep ∧ B = true) := fun c hc q => by
    have e := owK_of H.out.inv.apart (List.mem_map_of_mem hc) q
    rw [← hE, ← hB, e]
    exact ⟨rfl, rfl⟩
  clear h hE hB
  go_enter Try.func14, Try.ntmps14
  go_wp2_with (first | (at_range; go_loud (refine wpList_range_own _ rfl _ 60 rfl 9 39 keyed_str under_omap RV mb (Maps.size D) D rfl hown ?_); intro w0 hrg0 hg0 hs0) | go_in)
  go_frame
  have B0 : Below w.heap.size w w0 := ⟨hg0.os, hg0.tape, hg0.output, hg0.size, fun k hk => hg0.block k hk (by simp)⟩
  obtain ⟨it, hit⟩ : ∃ it, Hid (it = w.heap.size) := ⟨_, rfl⟩
  have CF : Hid (∀ X, TurnG (fun x => x = it) w0 X → CatI X cb mb g LV P) := fun X t => by
    have q4 := H.out.lt
    have q5 := H.out.mp.lt
    have q1 := hit.out
    refine (H.out.below B0).turn t (by omega) (by omega) fun c hc x m e ev => ?_
    rcases (H.out.ok c hc).rs.lays x m e ev with q | q
    · exact Or.inl q
    · exact Or.inr (by omega)
  have START : Hid (∀ c ∈ LV, Maps.has D (.string c.o.key) = false → s ∉ c.o.st) := fun c hc q => by
    rcases hf c.o.key with ⟨_, q2⟩ | ⟨_, _, q2, _⟩
    · have := (keysC_mem (L := LV) (d := c.o.key)).1 (List.mem_map_of_mem hc)
      rw [← mpF_some, q2] at this
      cases this
    · rw [q2] at q; cases q
  have RISE := hidK H.out.inv.rise
  have HF := hidK hf
  have BW0 := hidK B0
  have ZI : Hid (w.heap.size = it) := hit.out.symm
  have S0 := hs0
  rw [← hit.out] at hrg0
  rw [ZI.out]
  have lw0 : it < w0.heap.size := by rw [S0, hit.out]; omega
  clear hk hf hown B0 hg0 hs0 S0 hit H c6
  go_loopw [16] (fun _ wq => ∃ (left : Lit → Bool) (cn : Nat), wq.ranges Try.prog 9 RV mb it (Maps.size D) D left cn ∧ Hid (∀ c ∈ LV, left (.string c.o.key) = false → s ∉ c.o.st) ∧ Hid (TurnG (fun x => x = it) w0 wq)) (fun _ wq => wq.rangeLeft mb it)
  case atStart => exact ⟨_, _, hrg0, START, TurnG.refl _ _⟩
  case round =>
    clear hrg0 START
    obtain ⟨left, cn, hrg, hNo, hT⟩ := hrel
    go_wp2_with (first | (at_next; go_loud (refine wpList_next_ranges _ rfl _ rfl 9 keyed_str RV (fun d : List UInt8 => Value.string ⟨d.toArray⟩) id (fun key kl h => by obtain ⟨d, e, _⟩ := invKs key kl h; exact ⟨d, e⟩) (fun v y _ => ⟨v, rfl⟩) mb it (Maps.size D) D left cn rfl hrg ?_ ?_)) | go_in)
    · intro hc0 hl0
      obtain ⟨rfl, rfl⟩ := HN.out fun c hc => hNo.out c hc (hl0 _)
      have FIN : Hid (Below w.heap.size w wr) := BW0.out.trans (hT.out.below (fun x hx => by rw [hx, ZI.out]; exact Nat.le_refl _) (by rw [ZI.out]; omega))
      clear hNo hT hrg hl0 hc0 CF BW0 HF RISE HN HY
      go_wp2
      exact bodyPost_ret (v := .tuple #[.int .i64 0, .bool false]) (by simp [results, Try.results14, go_sem]) rfl ⟨rfl, FIN.out⟩
    · intro d v kl yd ys w1 cn1 hkey hlk hv hat hrg1 hlt1 hg1 hs1 hen
      obtain ⟨d', ek, ekl⟩ := invKs _ _ hkey
      have ed : d = d' := by simpa using ek
      subst ed
      subst ekl
      have eyd : yd = .held v := RV_inv hv
      subst eyd
      obtain ⟨o, ho, ek2, ev⟩ := entry19 HF.out (d := d) (v := v) (fun zd => hat zd)
      subst ek2
      subst ev
      obtain ⟨V1, hV1⟩ : ∃ V1, V1 = w1.alloc (.cells #[.string ⟨o.o.key.toArray⟩, .int .i64 o.o.len, .int .i64 o.o.ep, o.vs] 39) := ⟨_, rfl⟩
      have bV1 : Below w1.heap.size w1 V1 := by rw [hV1]; exact belL _ _
      have V3 : V1.cell? ⟨w1.heap.size, 3, none⟩ = some o.vs := by rw [hV1, World.cell?_alloc_new]; rfl
      have V2 : V1.cell? ⟨w1.heap.size, 2, none⟩ = some (.int .i64 o.o.ep) := by rw [hV1, World.cell?_alloc_new]; rfl
      have g1 : TurnG (fun x => x = it) wr w1 := ⟨hg1.os, hg1.tape, hg1.output, hg1.size, fun j hj hne => hg1.block j hj (by intro q; simp at q; exact hne q)⟩
      have hT1 : TurnG (fun x => x = it) w0 V1 := (hT.out.trans g1).trans (Below.turnG bV1 _)
      have C1 := CF.out V1 hT1
      have lit1 : it < w1.heap.size := hrg1.lt
      have rV : Hid (V1.ranges Try.prog 9 RV mb it (Maps.size D) D (fun z => left z && !z.sameKey (.string o.o.key)) cn1) := ranges_blocks19 hrg1 (bV1.block mb hrg1.owns.lt) (bV1.block it lit1)
      have RD := hidK (C1.ok o ho).rs
      have SL := (C1.sts o ho).1
      have HYo := hidK (HY.out o ho)
      have STEP : Hid (s ∉ o.o.st → ∀ c ∈ LV, (left (.string c.o.key) && !(Lit.string c.o.key).sameKey (.string o.o.key)) = false → s ∉ c.o.st) := fun q c hc e => by
        cases q2 : left (.string c.o.key) with
        | false => exact hNo.out c hc q2
        | true =>
          rw [q2] at e
          simp at e
          have e3 := WideAt.sameKey_eq e
          simp at e3
          have f1 := finV_some RISE.out hc
          have f2 := finV_some RISE.out ho
          rw [e3, f2] at f1
          cases f1
          exact q
      have MEAS : Hid (V1.rangeLeft mb it < wr.rangeLeft mb it) := by show _ < _; rw [rV.out.left_eq, hrg.left_eq]; exact hlt1
      have hT2 := hidK hT1
      have FIN : Hid (Below w.heap.size w V1) := BW0.out.trans (hT1.below (fun x hx => by rw [hx, ZI.out]; exact Nat.le_refl _) (by rw [ZI.out]; omega))
      obtain ⟨sa, sc, evs⟩ := RD.out.form
      obtain ⟨⟨ky, ln, ep, st⟩, vs⟩ := o
      simp only at evs V2 V3 hV1 RD STEP rV SL HYo
      subst evs
      obtain ⟨x, hx⟩ : ∃ x, decide (s ∈ st) = x := ⟨_, rfl⟩
      have K := ccontains19_any RD.out (by omega) s hx
      have hen' : (Instr.entry (.pointer (some ⟨it, 0, none⟩))).run Try.prog w1 = .ok (.tuple #[.string ⟨ky.toArray⟩, .agg #[.string ⟨ky.toArray⟩, .int .i64 ln, .int .i64 ep, .slice sa st.length sc]]) w1 := hen
      have HX := hidK hx
      clear hkey hlk hv hat hrg1 hlt1 hg1 hs1 hen hT1 hT bV1 g1 C1 hrg HF ho ek lit1 CF BW0 RISE HN HY hNo RD hx
      go_wp2_with fail
      rw [← hV1]
      clear hen' hV1
      refine K.mono ?_
      clear K
      rintro _ wq ⟨rfl, eq⟩
      rw [eq]
      clear eq wq
      cases x with
      | true =>
        obtain ⟨rfl, rfl⟩ := HYo.out (of_decide_eq_true HX.out)
        clear HYo STEP MEAS hT2 rV HX
        go_wp2
        exact bodyPost_ret (v := .tuple #[.int .i64 E, .bool true]) (by simp [results, Try.results14, go_sem]) rfl ⟨rfl, FIN.out⟩
      | false =>
        have NO := hidK (STEP.out (of_decide_eq_false HX.out))
        clear HYo STEP HX FIN V2 V3
        go_wp2
        go_roundw
        case rel => exact ⟨_, _, rV.out, NO, hT2⟩
        case measure => exact MEAS.out
end Go.Proofs.Ytndlfmofjmieaab.Gf
