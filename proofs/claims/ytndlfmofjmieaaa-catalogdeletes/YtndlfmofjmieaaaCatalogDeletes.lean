/- PROVED: for every geometry g, every script of calls and every text key the call CatalogDeletes(g, script, key) returns true, and its arguments read behind it as before; no conditions. -/
import Derived.ProofKit
import Derived.ShutString
import Derived.ChangeOld
import Derived.Test.YtndlfmofjmieaaaTome12
import Derived.Test.YtndlfmofjmieaaaTome13
import Derived.Test.YtndlfmofjmieaaaTome15
import Derived.Test.YtndlfmofjmieaaaTome14
namespace Go.Proofs.Ytndlfmofjmieaaa.catalogDeletes
open Go.ChangeShapes Go.WideShapes Go.ChangeAt Go.RowKit
open Go.ChangeMaps (open_string shut_string)
set_option linter.unusedVariables false

theorem own : ownKnob Try.prog.godebug = none := by kernel_rfl
theorem laidOut : laidOutB Try.prog = true := by kernel_rfl

/-- WHAT THE WALK IS TOLD OF A SLICE OF INTEGERS THAT CAME IN: it is nil; or it leads to a row of 'cap' cells, the numbers 'zs' (the first 'len' are its elements, the rest its spare room), each fitting its kind. -/
def IsRow (k : IntKind) (w : World) (a : Option Addr) (len cap : Nat) (zs : List Int) : Prop :=
  (a = none ∧ len = 0 ∧ cap = 0 ∧ zs = []) ∨
  ∃ x, a = some x ∧ len ≤ cap ∧ cap ≤ maxLen ∧ zs.length = cap ∧ (∀ i, i < zs.length → w.cell? (x.add i) = some (.int k (zs.getD i 0))) ∧ ∀ n ∈ zs, (Lit.int k n).wf = true

open Gf
set_option linter.unusedSimpArgs false
theorem del_get {L : List ObS} {k : List UInt8} {e : Ending} {w w' : World} (h : GotC19 w L k e w') : ∃ (c : ObV) (x : Int), e = .returned (.tuple #[aggO c, .int .i64 x]) ∧ ((x = 193 ∧ finK L k = none ∧ c.o.st = []) ∨ (x = 0 ∧ finK L k = some c.o)) ∧ ObOk w' c ∧ Below w.heap.size w w' := by
  obtain ⟨⟨h1, rfl⟩ | ⟨c, h1, h2, _, rfl⟩, h3⟩ := h
  · exact ⟨⟨⟨[], 0, 0, []⟩, .slice none 0 0⟩, 193, rfl, Or.inl ⟨rfl, h1, rfl⟩, ⟨by show (Lit.int .i64 0).wf = true; decide, by show (Lit.int .i64 0).wf = true; decide, Nat.zero_le _, Or.inl ⟨none, 0, rfl, rfl⟩, fun z hz => by cases hz⟩, h3⟩
  · exact ⟨c, 0, rfl, Or.inr ⟨rfl, h1⟩, h2, h3⟩
theorem del_math {L : List ObS} {g : GeoS} (h : InvC g L) (hg : okG g) {k : List UInt8} (h1 : 1 ≤ k.length) (h2 : k.length ≤ 64) : apCX g L ⟨2, k, 0, []⟩ 1 = (if finK L k = none then 193 else 0) ∧ apCS g L ⟨2, k, 0, []⟩ 1 = deC L k := by
  have ok : OkR ⟨2, k, 0, []⟩ := ⟨Or.inr rfl, h1, h2, Int.le_refl _, by show (0 : Int) ≤ 2147483647; decide, Nat.zero_le _, fun s hs => (by cases hs), fun _ => ⟨rfl, rfl⟩⟩
  have e : apCX g L ⟨2, k, 0, []⟩ 1 = if finK L k = none then 193 else 0 := by
    unfold apCX
    rw [if_neg (fun q => q ok), if_pos rfl]
  refine ⟨e, ?_⟩
  unfold apCS
  rw [e]
  by_cases q : finK L k = none
  · rw [if_pos q, if_neg (by decide), deC_none q]
  · rw [if_neg q, if_pos rfl, if_pos rfl]
theorem filt_succ {N : List ObV} {r : Nat} (hr : r < N.length) {k : List UInt8} (p : Bool) (hp : p = !decide ((N.getD r default).o.key = k)) : (oL (N.take (r + 1))).filter (fun x => decide (x.key ≠ k)) = (oL (N.take r)).filter (fun x => decide (x.key ≠ k)) ++ if p then [(N.getD r default).o] else [] := by
  rw [List.take_succ_eq_append_getElem hr, oL_app, List.filter_append]
  congr 1
  rw [show N.getD r default = N[r] by simp [List.getD, hr]] at hp ⊢
  show List.filter _ [N[r].o] = _
  subst hp
  by_cases e : N[r].o.key = k
  · simp [e]
  · simp [e]

set_option maxRecDepth 100000 in
set_option maxHeartbeats 4000000 in
theorem walk (c0 : GeoS) (a1 : Option Addr) (len1 cap1 : Nat) (z1 : List CallK) (a2 : ByteArray) (w : World) (w0 : c0.Wf) (w1 : RdC19 w (.slice a1 len1 cap1) z1) (w2 : a2.size ≤ maxLen) :
    Calls Try.prog 7 #[aggG c0, .slice a1 len1 cap1, .string a2] w fun e w' => e = .returned (.bool true) ∧ Below w.heap.size w w' := by
  obtain ⟨k, rfl⟩ : ∃ k : List UInt8, a2 = ⟨k.toArray⟩ := ⟨a2.data.toList, by simp⟩
  have hk : k.length ≤ maxLen := by
    have q : k.toArray.size ≤ maxLen := w2
    simpa using q
  obtain rfl := w1.lenEq
  have HV := hidK w1
  have HG := hidK w0
  obtain ⟨cx, hcx⟩ : ∃ x, Hid (chG c0 = x) := ⟨_, rfl⟩
  have KC := fun V => @lcheck_any V c0 w0 _ hcx.out
  have HOK : Hid (cx = 0 → okG c0) := fun q => by
    by_cases k : okG c0
    · exact k
    · have h : chG c0 = 50 := if_neg k
      rw [hcx.out, q] at h
      cases h
  have T3 : Hid (∀ V, Below (w.alloc (.cells (cellsG c0) 24)).heap.size (w.alloc (.cells (cellsG c0) 24)) V → GeoAt V w.heap.size c0 ∧ Below w.heap.size w V) := geo_laid w c0 24
  clear w0 w1 w2 hcx
  obtain ⟨gk, gm, gz, gs, gt, go⟩ := c0
  obtain ⟨W, hW⟩ : ∃ W, W = w.alloc (.cells #[.int .i64 gk, .int .i64 gm, .int .i64 gz, .int .i64 gs, .int .i64 gt, .int .i64 go] 24) := ⟨_, rfl⟩
  have T4 : Hid (∀ V, Below W.heap.size W V → GeoAt V w.heap.size ⟨gk, gm, gz, gs, gt, go⟩ ∧ Below w.heap.size w V) := by rw [hW]; exact T3
  have LWh := hidK (T4.out W (Below.refl _ _)).2.size
  rw [aggE] at KC ⊢
  clear T3
  go_enter Try.func7, Try.ntmps7
  go_wp2_with fail
  rw [← hW]
  clear hW
  refine cawake_any.mono ?_
  rintro _ u1 ⟨rfl, b1⟩
  have B1 := hidK b1
  obtain ⟨⟨y0, y1, y2, y3, y4, y5⟩, _⟩ := T4.out u1 b1
  simp only at y0 y1 y2 y3 y4 y5
  clear b1
  go_wp2_with fail
  refine (KC _).mono ?_
  clear KC y0 y1 y2 y3 y4 y5
  rintro _ u2 ⟨rfl, b2⟩
  have B2 := hidK (B1.out.stepL b2 B1.out.size)
  clear b2 B1
  have G2 := hidK (T4.out u2 B2.out).2
  obtain ⟨⟨y0, y1, y2, y3, y4, y5⟩, _⟩ := T4.out u2 B2.out
  simp only at y0 y1 y2 y3 y4 y5
  by_cases hx : cx = 0
  rotate_left
  · have n1 : (cx == 0) = false := beq_eq_false_iff_ne.2 hx
    have n2 : (cx != 0) = true := by simp [bne, n1]
    clear HOK T4 HV HG
    go_wp2
    go_ret
    exact ⟨rfl, G2.out⟩
  subst hx
  have OK := hidK (HOK.out rfl)
  clear HOK
  by_cases h40 : gs > 40
  · clear T4 HV HG
    go_wp2
    go_ret
    exact ⟨rfl, G2.out⟩
  by_cases hkl : (k.length : Int) > 64
  · clear T4 HV HG
    go_wp2
    go_ret
    exact ⟨rfl, G2.out⟩
  by_cases hb0 : k = []
  · have d0 : (k == []) = true := by rw [hb0]; rfl
    clear T4 HV HG hb0
    go_wp2
    go_ret
    exact ⟨rfl, G2.out⟩
  have d0 : (k == []) = false := beq_eq_false_iff_ne.2 hb0
  have HK1 : Hid (1 ≤ k.length ∧ k.length ≤ 64) := by
    refine ⟨?_, by omega⟩
    rcases Nat.eq_zero_or_pos k.length with q | q
    · exact absurd (List.length_eq_zero_iff.1 q) hb0
    · exact q
  have KD := cdone19_any HG.out OK.out (HV.out.below G2.out)
  rw [aggE] at KD
  clear HV hb0
  go_wp2_with fail
  refine KD.mono ?_
  clear KD y0 y1 y2 y3 y4 y5 h40
  rintro _ u3 ⟨cb, mb, M, rfl, C3, lc, lm, b3⟩
  have B3 := hidK (G2.out.stepL b3 G2.out.size)
  have CI := hidK C3
  have LB : Hid (w.heap.size ≤ cb ∧ w.heap.size ≤ mb) := ⟨Nat.le_trans G2.out.size lc, Nat.le_trans G2.out.size lm⟩
  clear b3 C3 lc lm B2 G2 T4 LWh
  obtain ⟨L, hL⟩ : ∃ L, Hid (oL M = L) := ⟨_, rfl⟩
  have INV : Hid (InvC ⟨gk, gm, gz, gs, gt, go⟩ L) := by show InvC _ _; rw [← hL.out]; exact CI.out.inv
  have K := call19_any CI.out
  go_wp2_with fail
  refine K.mono ?_
  clear K
  rintro _ u5 ⟨vl, N, rfl, oN, eN, b5⟩
  have B5 := hidK (B3.out.stepL b5 B3.out.size)
  have CI5 := hidK (CI.out.below b5)
  have EN : Hid (oL N = L) := by show _ = _; rw [eN, hL.out]
  have NL : N.length ≤ 64 := by
    have h1 := CI.out.few.2
    have h2 := congrArg List.length eN
    rw [oL_length, oL_length] at h2
    omega
  have RN := hidK (oN.rd (by omega))
  obtain ⟨oa, oc, ev, _⟩ := oN.form19'
  subst ev
  clear b5 B3 CI oN eN
  obtain ⟨fr, hfr⟩ : ∃ z : Nat, Hid (frC ⟨gk, gm, gz, gs, gt, go⟩ L = z) := ⟨_, rfl⟩
  have K := cfrees19_any CI5.out (X := (fr : Int)) (by rw [hL.out, hfr.out])
  go_wp2_with fail
  refine K.mono ?_
  clear K
  rintro _ u6 ⟨rfl, b6⟩
  have B6 := hidK (B5.out.stepL b6 B5.out.size)
  have CI6 := hidK (CI5.out.below b6)
  have RN6 := hidK (RN.out.below b6)
  clear b6 B5 CI5 RN
  have K := cget19_any CI6.out hk
  go_wp2_with fail
  refine K.mono ?_
  clear K
  rintro _ u7 h7
  obtain ⟨c7, x7, rfl, hx7, ok7, b7⟩ := del_get h7
  obtain ⟨⟨ky7, ln7, ep7, st7⟩, vs7⟩ := c7
  obtain ⟨sa7, sc7, es7⟩ := ok7.rs.form
  simp only at es7 hx7
  subst es7
  rw [show aggO ⟨⟨ky7, ln7, ep7, st7⟩, .slice sa7 st7.length sc7⟩ = .agg #[.string ⟨ky7.toArray⟩, .int .i64 ln7, .int .i64 ep7, .slice sa7 st7.length sc7] from rfl]
  obtain ⟨V7, hV7⟩ : ∃ V, V = u7.alloc (.cells #[.string ⟨ky7.toArray⟩, .int .i64 ln7, .int .i64 ep7, .slice sa7 st7.length sc7] 52) := ⟨_, rfl⟩
  obtain ⟨ob, hob⟩ : ∃ z, Hid (z = u7.heap.size) := ⟨_, rfl⟩
  have OB3 : Hid (V7.cell? ⟨ob, 3, none⟩ = some (.slice sa7 st7.length sc7) ∧ ob < V7.heap.size) := by
    rw [hob.out]
    refine ⟨?_, by rw [hV7]; simp⟩
    rw [hV7, World.cell?_alloc_new]; rfl
  have bl : Below u7.heap.size u7 V7 := by rw [hV7]; exact belL _ _
  have bb := b7.stepL bl b7.size
  have B7 := hidK (B6.out.stepL bb B6.out.size)
  have CI7 := hidK (CI6.out.below bb)
  have RN7 := hidK (RN6.out.below bb)
  have HX7 : Hid ((x7 = 193 ∧ finK L k = none ∧ st7 = []) ∨ (x7 = 0 ∧ finK L k = some ⟨ky7, ln7, ep7, st7⟩)) := by
    show _ ∨ _
    rw [← hL.out]
    exact hx7
  have X7 : Hid ((if finK L k = none then (193 : Int) else 0) = x7) := by
    show _ = _
    rcases HX7.out with ⟨q1, q2, _⟩ | ⟨q1, q2⟩
    · rw [if_pos q2, q1]
    · rw [if_neg (by rw [q2]; exact fun z => by cases z), q1]
  clear b7 bl bb B6 CI6 ok7 hx7 h7 RN6
  obtain ⟨dm1, dm2⟩ := del_math INV.out OK.out HK1.out.1 HK1.out.2
  rw [X7.out] at dm1
  have K := capply19_any CI7.out (c := ⟨⟨2, k, 0, []⟩, .slice none 0 0⟩) ⟨(by show (Lit.int .i64 2).wf = true; decide), (by show (Lit.int .i64 0).wf = true; decide), hk, Or.inl ⟨none, 0, rfl, rfl⟩, fun z hz => by cases hz⟩ (ep := 1) (by decide) (X := x7) (L := deC L k) (by rw [hL.out]; exact dm1) (by rw [hL.out]; exact dm2)
  rw [show aggR ⟨⟨2, k, 0, []⟩, .slice none 0 0⟩ = .agg #[.int .i64 2, .string ⟨k.toArray⟩, .int .i64 0, .slice none 0 0] from rfl] at K
  clear dm1 dm2 X7
  have KK := hidK K
  clear K
  go_wp2_with fail
  rw [← hV7, ← hob.out]
  clear hV7
  refine KK.out.mono ?_
  clear KK
  rintro _ u8 ⟨M8, rfl, C8, e8, t8⟩
  have B8 := hidK (B7.out.trans (t8.below (fun y hy => by rw [hy]; exact LB.out.2) B7.out.size))
  have E8 := hidK e8
  have nob : ¬ ob = mb := fun e => by
    have h1 := OB3.out.1
    rw [CI7.out.isMap.cell ⟨ob, 3, none⟩ e] at h1
    cases h1
  have OB8 : Hid (u8.cell? ⟨ob, 3, none⟩ = some (.slice sa7 st7.length sc7) ∧ ob < u8.heap.size) := ⟨(t8.cell (p := ⟨ob, 3, none⟩) OB3.out.2 nob).trans OB3.out.1, Nat.lt_of_lt_of_le OB3.out.2 t8.size⟩
  have RN8 : Hid (RdO u8 (.slice oa N.length oc) N) := by
    rcases RN7.out with h | ⟨b, off, cap, h1, h2, h3, h4, h5⟩
    · exact Or.inl h
    · have hp : 0 < N.length := List.length_pos_iff.2 h1
      have im := CI7.out.isMap
      have nb : ¬ b = mb := fun e => by
        have z := (h5 0 hp).c0
        rw [im.cell ⟨b, off + 0 * 4, none⟩ e] at z
        cases z
      refine Or.inr ⟨b, off, cap, h1, h2, h3, Nat.lt_of_lt_of_le h4 t8.size, fun i hi => ?_⟩
      have z := h5 i hi
      have q : ∀ j, u8.cell? ⟨b, j, none⟩ = V7.cell? ⟨b, j, none⟩ := fun j => t8.cell (p := ⟨b, j, none⟩) h4 nb
      exact ⟨(q _).trans z.c0, (q _).trans z.c1, (q _).trans z.c2, (q _).trans z.c3, z.wl, z.we, z.ky, z.rs.offG (z.rs.notMap im) t8, z.wi⟩
  have CI8 := hidK C8
  clear t8 e8 C8 CI7 RN7 B7 OB3 nob hob
  have K := cget19_any CI8.out hk
  go_wp2_with fail
  refine K.mono ?_
  clear K
  rintro _ v1 h1
  obtain ⟨c9, x9, rfl, hx9, ok9, b9⟩ := del_get h1
  obtain rfl : x9 = 193 := by
    rcases hx9 with ⟨q, _⟩ | ⟨_, q⟩
    · exact q
    · rw [E8.out, deC_fin INV.out.rise, if_pos rfl] at q
      cases q
  obtain ⟨⟨ky9, ln9, ep9, st9⟩, vs9⟩ := c9
  obtain ⟨sa9, sc9, es9⟩ := ok9.rs.form
  simp only at es9
  subst es9
  rw [show aggO ⟨⟨ky9, ln9, ep9, st9⟩, .slice sa9 st9.length sc9⟩ = .agg #[.string ⟨ky9.toArray⟩, .int .i64 ln9, .int .i64 ep9, .slice sa9 st9.length sc9] from rfl]
  obtain ⟨wo, hwo⟩ : ∃ V, V = v1.alloc (.cells #[.string ⟨ky9.toArray⟩, .int .i64 ln9, .int .i64 ep9, .slice sa9 st9.length sc9] 52) := ⟨_, rfl⟩
  have bl : Below v1.heap.size v1 wo := by rw [hwo]; exact belL _ _
  have bb := b9.stepL bl b9.size
  have B9 := hidK (B8.out.stepL bb B8.out.size)
  have CI9 := hidK (CI8.out.below bb)
  have RN9 := hidK (RN8.out.below bb)
  have OB9 : Hid (wo.cell? ⟨ob, 3, none⟩ = some (.slice sa7 st7.length sc7) ∧ ob < wo.heap.size) := ⟨(bb.cell (p := ⟨ob, 3, none⟩) OB8.out.2).trans OB8.out.1, Nat.lt_of_lt_of_le OB8.out.2 bb.size⟩
  clear b9 bl bb B8 CI8 RN8 OB8 ok9 hx9 h1
  go_wp2_with fail
  rw [← hwo]
  clear hwo
  go_loopw [16, 17] (fun l i wr => ∃ (r : Nat) (Z : List ObV), r ≤ N.length ∧ i = .int .i64 (r : Int) ∧ Hid (OwnOb wr 0 l Z) ∧ Hid (∀ q, l.ownBlock = some q → wo.heap.size ≤ q) ∧ Hid (oL Z = (oL (N.take r)).filter fun x => decide (x.key ≠ k)) ∧ Hid (Below wo.heap.size wo wr)) (fun _ i _ => N.length - (intOf i).toNat)
  case atStart => exact ⟨0, [], Nat.zero_le _, rfl, OwnOb.nil _ _, (fun q e => by cases e), rfl, Below.refl _ _⟩
  case round =>
    obtain ⟨r, Z, hr, rfl, hO, hQ, hZ, hB⟩ := hrel
    by_cases hlt : r < N.length
    · have hlt' : (r : Int) < (N.length : Int) := by omega
      obtain ⟨b, off, ea, hb, cz⟩ := (RN9.out.below hB.out).at hlt
      subst ea
      have FS := fun p hp => filt_succ (k := k) hlt p hp
      have HMc : N.getD r default ∈ N := by
        rw [show N.getD r default = N[r] by simp [List.getD, hlt]]
        exact List.getElem_mem hlt
      have OKw := rdO_ok RN9.out _ HMc
      have hZl : Z.length ≤ r := by
        have h1 := congrArg List.length hZ.out
        rw [oL_length] at h1
        have h2 := List.length_filter_le (fun x : ObS => decide (x.key ≠ k)) (oL (N.take r))
        rw [oL_length, List.length_take] at h2
        omega
      generalize N.getD r default = c at cz FS OKw
      clear HMc
      obtain ⟨⟨ky, ln, ep, st⟩, vs⟩ := c
      obtain ⟨sa, sc, es⟩ := cz.rs.form
      simp only at es FS
      subst es
      have z0 : wr.cell? ⟨b, off + r * 4, none⟩ = some (.string ⟨ky.toArray⟩) := cz.c0
      have z1 : wr.cell? ⟨b, off + r * 4 + 1, none⟩ = some (.int .i64 ln) := cz.c1
      have z2 : wr.cell? ⟨b, off + r * 4 + 2, none⟩ = some (.int .i64 ep) := cz.c2
      have z3 : wr.cell? ⟨b, off + r * 4 + 3, none⟩ = some (.slice sa st.length sc) := cz.c3
      obtain ⟨la, lc, el, _⟩ := hO.out.form19'
      subst el
      by_cases hkk : ky = k
      · have n1 : (ky == k) = true := by rw [hkk]; exact beq_self_eq_true k
        have n2 : (ky != k) = false := by simp [bne, n1]
        have Z2 : Hid (oL Z = (oL (N.take (r + 1))).filter fun x => decide (x.key ≠ k)) := by
          show _ = _
          rw [FS false (by simp [hkk]), hZ.out]
          simp
        clear FS hZ OKw cz hkk z1 z2 z3
        go_wp2
        go_roundw
        case rel => exact ⟨r + 1, Z, by omega, by go_num, hO, hQ, Z2, hB⟩
        case measure => simp [intOf]; omega
      · have n1 : (ky == k) = false := beq_eq_false_iff_ne.2 hkk
        have n2 : (ky != k) = true := by simp [bne, n1]
        have Z2 : Hid (oL (Z ++ [(⟨⟨ky, ln, ep, st⟩, .slice sa st.length sc⟩ : ObV)]) = (oL (N.take (r + 1))).filter fun x => decide (x.key ≠ k)) := by
          show _ = _
          rw [FS true (by simp [hkk]), ← hZ.out, oL_app]
          rfl
        have lit := lit_ob wr cz.ok19
        have bl : Below wr.heap.size wr (wr.alloc (.cells #[.string ⟨ky.toArray⟩, .int .i64 ln, .int .i64 ep, .slice sa st.length sc] 52)) := belL _ _
        have O6 := hO.out.later bl
        have B6 := hB.out.stepL bl hB.out.size
        have nr : ∀ d ∈ [(⟨⟨ky, ln, ep, st⟩, .slice sa st.length sc⟩ : ObV)], NearR 0 (wr.alloc (.cells #[.string ⟨ky.toArray⟩, .int .i64 ln, .int .i64 ep, .slice sa st.length sc] 52)).heap.size (.slice la Z.length lc) d.vs := fun d hd => by
          simp only [List.mem_singleton] at hd
          subst hd
          exact near_old19 OKw B6.size hQ.out
        have ol : Z.length + [(⟨⟨ky, ln, ep, st⟩, .slice sa st.length sc⟩ : ObV)].length ≤ 100000 := by simp; omega
        clear FS hZ OKw cz hkk
        go_wp2_with (at_builtin; go_loud (refine wpList_append_obs rfl (.tmp 77) (.tmp 82) rfl rfl rfl O6 lit (CapO.some (Nat.le_refl _)) nr ol (Nat.zero_le _) ?_); intro v9 w9 h9 g9)
        obtain ⟨b9, q9⟩ := ob19_after B6 hQ.out g9
        have O9 := hidK h9
        have B10 := hidK b9
        have Q9 := hidK q9
        clear h9 g9 b9 q9 O6 lit nr ol B6 bl hO hQ hB z0 z1 z2 z3
        go_wp2
        go_roundw
        case rel => exact ⟨r + 1, _, by omega, by go_num, O9, Q9, Z2, B10⟩
        case measure => simp [intOf]; omega
    · obtain rfl : r = N.length := by omega
      have hge : ¬ (N.length : Int) < (N.length : Int) := by omega
      have hZl : Z.length ≤ 64 := by
        have h1 := congrArg List.length hZ.out
        rw [oL_length] at h1
        have h2 := List.length_filter_le (fun x : ObS => decide (x.key ≠ k)) (oL (N.take N.length))
        rw [oL_length, List.length_take] at h2
        omega
      have EZ : Hid (oL Z = deC L k) := by
        show _ = _
        rw [hZ.out, List.take_length, EN.out, deC_filter INV.out.rise]
      have RZ := hidK (hO.out.rd (by omega))
      obtain ⟨la, lc, el, _⟩ := hO.out.form19'
      subst el
      have CIr := hidK (CI9.out.below hB.out)
      have Br := hidK (B9.out.stepL hB.out B9.out.size)
      have OBr : Hid (wr.cell? ⟨ob, 3, none⟩ = some (.slice sa7 st7.length sc7) ∧ ob < wr.heap.size) := ⟨(hB.out.cell (p := ⟨ob, 3, none⟩) OB9.out.2).trans OB9.out.1, Nat.lt_of_lt_of_le OB9.out.2 hB.out.size⟩
      clear hZ hO hQ hB B9 CI9 OB9 RN9 EN
      have K := call19_any CIr.out
      go_wp2_with fail
      refine K.mono ?_
      clear K
      rintro _ x1 ⟨v2, N2, rfl, o2, e2, b2⟩
      obtain ⟨na, nc, en2, _⟩ := o2.form19'
      subst en2
      have R2 := o2.rd (by
        have h1 := congrArg List.length e2
        rw [oL_length, E8.out, ← EZ.out, oL_length] at h1
        omega)
      have R3 := RZ.out.below b2
      have E2 : oL N2 = oL Z := by rw [e2, E8.out, EZ.out]
      have SB : ∀ (P : List ObV), oL P = oL Z → ∀ i, i < P.length → (P.getD i default).o.st.length ≤ 1000000 := fun P hP i hi => by
        have hm : (P.getD i default).o ∈ oL P := by
          rw [show P.getD i default = P[i] by simp [List.getD, hi]]
          exact List.mem_map_of_mem (List.getElem_mem hi)
        rw [hP, EZ.out] at hm
        have := ((INV.out.del k).ok _ hm).1.1.2.2.2.2.2.1
        exact Nat.le_trans this (by decide)
      have N2l : N2.length ≤ 64 := by
        have h1 := congrArg List.length E2
        rw [oL_length, oL_length] at h1
        omega
      have K := robjs16_any R2 R3 (by omega) (SB N2 E2) (SB Z rfl)
      have CIx := hidK (CIr.out.below b2)
      have Bx := hidK (Br.out.stepL b2 Br.out.size)
      have OBx : Hid (x1.cell? ⟨ob, 3, none⟩ = some (.slice sa7 st7.length sc7) ∧ ob < x1.heap.size) := ⟨(b2.cell (p := ⟨ob, 3, none⟩) OBr.out.2).trans OBr.out.1, Nat.lt_of_lt_of_le OBr.out.2 b2.size⟩
      have HE2 := hidK E2
      have KK := hidK K
      clear K R2 R3 SB b2 o2 e2 E2 CIr Br OBr RZ
      go_wp2_with fail
      refine KK.out.mono ?_
      clear KK
      rintro _ x2 h2
      obtain ⟨bs, rfl, hbs, b2⟩ := h2
      obtain rfl : bs = true := hbs.2 HE2.out
      clear hbs HE2 EZ
      have FQ : (frC ⟨gk, gm, gz, gs, gt, go⟩ (oL M8) : Int) = ((fr + st7.length : Nat) : Int) := by
        rw [E8.out, frC_del INV.out OK.out k, hfr.out]
        rcases HX7.out with ⟨_, q2, q3⟩ | ⟨_, q2⟩
        · rw [q2, q3]; rfl
        · rw [q2]
      have FB : fr + st7.length ≤ 1000 := by
        have h1 := frC_eq (INV.out.del k) OK.out
        have h2 := FQ
        rw [E8.out] at h2
        obtain ⟨_, _, _, _, _, _, h3, _⟩ := OK.out
        simp only at h3 h1
        omega
      have W1 : IntKind.i64.wrap ((fr : Int) + (st7.length : Int)) = ((fr + st7.length : Nat) : Int) := by rw [IntKind.wrap_i64]; omega
      have KF := hidK (cfrees19_any ((CIx.out.below b2).below (Below.refl _ _).drew) FQ)
      obtain ⟨nf, hnf⟩ : ∃ z, z = fr + st7.length := ⟨_, rfl⟩
      rw [← hnf] at W1 KF
      clear FQ FB hnf E8 hfr INV CIx HK1
      rcases HX7.out with ⟨rfl, hq1, hq2⟩ | ⟨rfl, hq1⟩
      · clear HX7 hq1 hq2
        go_wp2_with fail
        refine wp_region_held_drew (S := fun V => V.cell? ⟨ob, 3, none⟩ = some (.slice sa7 st7.length sc7)) (by kernel_rfl) ((b2.cell (p := ⟨ob, 3, none⟩) OBx.out.2).trans OBx.out.1) (fun hHeld => ?_)
        refine tkH 0 ?_
        refine tkH 1 ?_
        refine tkH 2 ?_
        refine tkH 3 ?_
        refine tkH 4 ?_
        refine tkH 5 ?_
        refine tkH 6 ?_
        refine tkH 7 ?_
        refine tkH 8 ?_
        refine tkH 9 ?_
        refine tkH 10 ?_
        refine tkH 11 ?_
        refine tkH 12 ?_
        refine tkH 13 ?_
        refine tkH 14 ?_
        refine tkH 15 ?_
        refine tkH 16 ?_
        refine tkH 17 ?_
        refine tkH 18 ?_
        refine tkH 19 ?_
        refine tkH 21 ?_
        refine tkH 22 ?_
        refine tkH 23 ?_
        refine tkH 24 ?_
        refine tkH 25 ?_
        clear hHeld
        refine rnH 20 (fun K' hK => ?_)
        go_simp
        go_at_call 18
        refine KF.out.mono ?_
        clear KF
        rintro _ x3 ⟨rfl, b3⟩
        dsimp only
        have Bz := hidK ((Bx.out.stepL (b2.stepL (Below.refl _ _).drew b2.size) Bx.out.size).stepL b3 (Nat.le_trans Bx.out.size b2.size))
        refine koH hK ((b3.cell (p := ⟨ob, 3, none⟩) (show ob < x2.drew.heap.size from Nat.lt_of_lt_of_le OBx.out.2 b2.size)).trans ((b2.cell (p := ⟨ob, 3, none⟩) OBx.out.2).trans OBx.out.1)) fun hHeld => ?_
        clear hK K'
        refine tkH 26 ?_
        refine tkH 27 ?_
        refine tkH 28 ?_
        refine wpAnyH_done (by kernel_rfl) ?_ _
        clear hHeld OBx b2 b3 Bx HG OK LB
        go_wp2
        go_ret
        exact ⟨rfl, Bz.out⟩
      · clear HX7 hq1
        go_wp2_with fail
        refine wp_region_held_drew (S := fun V => V.cell? ⟨ob, 3, none⟩ = some (.slice sa7 st7.length sc7)) (by kernel_rfl) ((b2.cell (p := ⟨ob, 3, none⟩) OBx.out.2).trans OBx.out.1) (fun hHeld => ?_)
        refine tkH 0 ?_
        refine tkH 1 ?_
        refine tkH 2 ?_
        refine tkH 3 ?_
        refine tkH 4 ?_
        refine tkH 5 ?_
        refine tkH 6 ?_
        refine tkH 7 ?_
        refine tkH 8 ?_
        refine tkH 9 ?_
        refine skH 10 ?_
        refine skH 11 ?_
        refine tkH 12 ?_
        refine tkH 13 ?_
        refine tkH 14 ?_
        refine tkH 15 ?_
        refine tkH 16 ?_
        refine tkH 17 ?_
        refine tkH 18 ?_
        refine tkH 19 ?_
        refine tkH 21 ?_
        refine tkH 22 ?_
        refine tkH 23 ?_
        refine tkH 24 ?_
        refine tkH 25 ?_
        clear hHeld
        refine rnH 20 (fun K' hK => ?_)
        go_simp
        go_at_call 18
        refine KF.out.mono ?_
        clear KF
        rintro _ x3 ⟨rfl, b3⟩
        dsimp only
        have Bz := hidK ((Bx.out.stepL (b2.stepL (Below.refl _ _).drew b2.size) Bx.out.size).stepL b3 (Nat.le_trans Bx.out.size b2.size))
        refine koH hK ((b3.cell (p := ⟨ob, 3, none⟩) (show ob < x2.drew.heap.size from Nat.lt_of_lt_of_le OBx.out.2 b2.size)).trans ((b2.cell (p := ⟨ob, 3, none⟩) OBx.out.2).trans OBx.out.1)) fun hHeld => ?_
        clear hK K'
        refine tkH 26 ?_
        refine tkH 27 ?_
        refine tkH 28 ?_
        refine wpAnyH_done (by kernel_rfl) ?_ _
        clear hHeld OBx b2 b3 Bx HG OK LB
        go_wp2
        go_ret
        exact ⟨rfl, Bz.out⟩

/-! ### THE ROW's STEP: WRITTEN OUT: LEAVE IT -/
set_option maxRecDepth 100000 in
set_option maxHeartbeats 2000000 in
theorem lifted (os : Os) (started : os.Started) (H : Type) (enc : TypeId × Value → H) :
    ReturnsInHanded {} Try.checked os 7 .any (Rows.catalogDeletesSpec.pre6 enc Try.prog Try.f7 Rows.catalogDeletesRow.domain false) (Rows.catalogDeletesSpec.post enc Try.prog Try.f7 false true false false) := by
  refine returnsInHanded_of_change (C := Try.checked) own started (by kernel_rfl) Try.func7
    (ChangeSpec.witness6 (enc := enc) (C := Try.checked) false ⟨#[], #[.agg #[.int .i64 0, .int .i64 0, .int .i64 0, .int .i64 0, .int .i64 0, .int .i64 0], .slice none 0 0, .string ByteArray.empty], []⟩ 8 (by kernel_rfl) (by kernel_rfl) (by kernel_rfl) (by kernel_rfl)) ?_
  intro W base args ds gs before hval0 hW hcnd _
  have hval : ∀ (j : Nat) t v, Try.f7.params[j]? = some t → args[j]? = some v → Value.okWide Try.prog W .any base t v := hval0
  have hW' := hW
  obtain ⟨p, q, hA0, hV, rfl, hfz, hnd⟩ := hW
  have hA : DataW.TrodAll enc Try.prog W 0 (fun _ => true) true Try.f7.params.toList args.toList ds p := hA0
  rw [Try.params7] at hA hval
  obtain ⟨v0, vs0, d0, ds0, p0, q0, hargs, rfl, rfl, h0, r0⟩ := trodAll_cons hA
  obtain ⟨v1, vs1, d1, ds1, p1, q1, rfl, rfl, rfl, h1, r1⟩ := trodAll_cons r0
  obtain ⟨v2, vs2, d2, ds2, p2, q2, rfl, rfl, rfl, h2, r2⟩ := trodAll_cons r1
  obtain ⟨rfl, rfl, rfl⟩ := trodAll_nil r2
  obtain rfl : args = #[v0, v1, v2] := by cases args; simp_all
  obtain ⟨rfl, rfl⟩ := trodVars_none hV
  have k0 := h0
  have lt0 : ∀ x ∈ p0, x.block < W.heap.size := by obtain ⟨m, hm⟩ := k0; exact DataW.trod_lt m _ _ _ hm
  obtain ⟨c0, rfl, w0⟩ := open_geo Try.underlying24 (by kernel_rfl) rfl rfl rfl rfl rfl rfl (by kernel_rfl) (by kernel_rfl) (by kernel_rfl) (by kernel_rfl) (by kernel_rfl) (by kernel_rfl) (by kernel_rfl) (by kernel_rfl) (by kernel_rfl) (by kernel_rfl) (by kernel_rfl) (by kernel_rfl) (hval 0 24 v0 rfl rfl) h0
  obtain ⟨a1, len1, cap1, rfl⟩ := okWide_slice Try.underlying26 (hval 1 26 v1 rfl rfl)
  have k1 := h1
  have lt1 : ∀ x ∈ p1, x.block < W.heap.size := by obtain ⟨m, hm⟩ := k1; exact DataW.trod_lt m _ _ _ hm
  obtain ⟨z1, w1⟩ : ∃ zs, RdC19 W (.slice a1 len1 cap1) zs := by
    obtain ⟨fuel, hf⟩ := h1
    obtain ⟨a9, l9, c9, L9, hcs, _, hR⟩ := open_kcalls (si := 3) Try.underlying26 Try.underlying41 (by kernel_rfl) rfl rfl rfl (by kernel_rfl) (by kernel_rfl) (by kernel_rfl) (by kernel_rfl) (by kernel_rfl) Try.underlying39 rfl rfl rfl rfl (by kernel_rfl) (by kernel_rfl) (by kernel_rfl) (by kernel_rfl) (by kernel_rfl) (by kernel_rfl) (by kernel_rfl) (by kernel_rfl) (by kernel_rfl) (by kernel_rfl) hf
    simp [Value.cells] at hcs
    obtain ⟨rfl, rfl, rfl⟩ := hcs
    exact ⟨L9, hR⟩
  obtain ⟨a2, rfl, rfl, rfl, w2⟩ := open_string Try.underlying9 (hval 2 9 v2 rfl rfl) h2
  clear hA0 hval0
  refine (walk c0 a1 len1 cap1 z1 a2 W w0 w1 w2).mono fun e W' ⟨he, bel⟩ => ?_
  subst he
  exact ⟨_, rfl, _, _, _, [], _, [], hW', trodAll_mk1 (shut_bool Try.underlying4 _), (trodAll_cons_mk (Below.trod laidOut (by kernel_rfl) (of_decide_eq_true (by kernel_rfl)) k0 bel lt0) (trodAll_cons_mk (Below.trod laidOut (by kernel_rfl) (of_decide_eq_true (by kernel_rfl)) k1 bel lt1) (trodAll_cons_mk (shut_string Try.underlying9 w2) trodAll_mk0))), rfl, bel.frame _, fun h => by cases h⟩

theorem over : Rows.catalogDeletesRow.holds Try.pinned (OpenSpec.ofChange Rows.catalogDeletesSpec) :=
  OpenClaim.holds_of_wide 7 Try.f7 rfl rfl rfl rfl rfl rfl rfl ⟨rfl, rfl, rfl, rfl, rfl⟩ rfl rfl rfl rfl rfl (by kernel_rfl) Try.func7 (by kernel_rfl)
    (of_decide_eq_true (by kernel_rfl)) (by unfold Func.isWrapper; first | (rw [if_pos (by decide +kernel)]; kernel_rfl) | (rw [if_neg (by decide +kernel)]; exact ⟨rfl, rfl⟩))
    (fun os started H enc _ => lifted os started H enc)

/-- ████ THE STATEMENT ████ -/
theorem proved : Rows.CatalogDeletesSaid := over
end Go.Proofs.Ytndlfmofjmieaaa.catalogDeletes
namespace Go.Proofs.Ytndlfmofjmieaaa
theorem catalogDeletes_holds : Rows.CatalogDeletesSaid := catalogDeletes.proved
#print axioms catalogDeletes_holds
end Go.Proofs.Ytndlfmofjmieaaa
