/- PROVED: for every geometry g, every script of calls, every text key and all numbers length and epoch the call CatalogPlans(g, script, key, length, epoch) returns true, and its arguments read behind it as before; no conditions. -/
import Derived.ProofKit
import Derived.ShutString
import Derived.ChangeOld
import Derived.Test.YtndlfmofjmieaaaTome12
import Derived.Test.YtndlfmofjmieaaaTome13
namespace Go.Proofs.Ytndlfmofjmieaaa.catalogPlans
open Go.ChangeShapes Go.WideShapes Go.ChangeAt Go.RowKit
open Go.ChangeMaps (open_string shut_string)
set_option linter.unusedVariables false

theorem own : ownKnob Try.prog.godebug = none := by kernel_rfl
theorem laidOut : laidOutB Try.prog = true := by kernel_rfl

/-- WHAT THE WALK IS TOLD OF A SLICE OF INTEGERS THAT CAME IN: it is nil; or it leads to a row of 'cap' cells, the numbers 'zs' (the first 'len' are its elements, the rest its spare room), each fitting its kind. -/
def IsRow (k : IntKind) (w : World) (a : Option Addr) (len cap : Nat) (zs : List Int) : Prop :=
  (a = none ∧ len = 0 ∧ cap = 0 ∧ zs = []) ∨
  ∃ x, a = some x ∧ len ≤ cap ∧ cap ≤ maxLen ∧ zs.length = cap ∧ (∀ i, i < zs.length → w.cell? (x.add i) = some (.int k (zs.getD i 0))) ∧ ∀ n ∈ zs, (Lit.int k n).wf = true

open Gf
set_option linter.unusedSimpArgs false
theorem wf_small19 {z : Int} (h0 : 0 ≤ z) (h1 : z ≤ 1000) : (Lit.int .i64 z).wf = true := by
  simp [Lit.wf, IntKind.min, IntKind.max, IntKind.signed, IntKind.bits]
  omega
theorem plans_get {L : List ObS} {k : List UInt8} {e : Ending} {w w' : World} (h : GotC19 w L k e w') : ∃ (c : ObV) (x : Int), e = .returned (.tuple #[aggO c, .int .i64 x]) ∧ ((x = 193 ∧ finK L k = none) ∨ (x = 0 ∧ finK L k = some c.o)) ∧ ObOk w' c ∧ Below w.heap.size w w' := by
  obtain ⟨⟨h1, rfl⟩ | ⟨c, h1, h2, _, rfl⟩, h3⟩ := h
  · exact ⟨⟨⟨[], 0, 0, []⟩, .slice none 0 0⟩, 193, rfl, Or.inl ⟨rfl, h1⟩, ⟨by show (Lit.int .i64 0).wf = true; decide, by show (Lit.int .i64 0).wf = true; decide, Nat.zero_le _, Or.inl ⟨none, 0, rfl, rfl⟩, fun z hz => by cases hz⟩, h3⟩
  · exact ⟨c, 0, rfl, Or.inr ⟨rfl, h1⟩, h2, h3⟩

set_option maxRecDepth 100000 in
set_option maxHeartbeats 4000000 in
theorem walk (c0 : GeoS) (a1 : Option Addr) (len1 cap1 : Nat) (z1 : List CallK) (a2 : ByteArray) (a3 : Int) (a4 : Int) (w : World) (w0 : c0.Wf) (w1 : RdC19 w (.slice a1 len1 cap1) z1) (w2 : a2.size ≤ maxLen) (w3 : (Lit.int .i64 a3).wf = true) (w4 : (Lit.int .i64 a4).wf = true) :
    Calls Try.prog 6 #[aggG c0, .slice a1 len1 cap1, .string a2, .int .i64 a3, .int .i64 a4] w fun e w' => e = .returned (.bool true) ∧ Below w.heap.size w w' := by
  obtain ⟨k, rfl⟩ : ∃ k : List UInt8, a2 = ⟨k.toArray⟩ := ⟨a2.data.toList, by simp⟩
  have hk : k.length ≤ maxLen := by
    have q : k.toArray.size ≤ maxLen := w2
    simpa using q
  obtain rfl := w1.lenEq
  have HV := hidK w1
  have HG := hidK w0
  obtain ⟨cx, hcx⟩ : ∃ x, Hid (chG c0 = x) := ⟨_, rfl⟩
  have KC := fun V => @lcheck_any V c0 w0 _ hcx.out
  have HOK : Hid (cx = 0 → okG c0) := fun q => by
    by_cases k : okG c0
    · exact k
    · have h : chG c0 = 50 := if_neg k
      rw [hcx.out, q] at h
      cases h
  obtain ⟨nx, hnx⟩ : ∃ z, Hid (neG c0 a3 = z) := ⟨_, rfl⟩
  have KN := fun V => @lneeds_any V c0 w0 _ w3 _ hnx.out
  have T3 : Hid (∀ V, Below (w.alloc (.cells (cellsG c0) 24)).heap.size (w.alloc (.cells (cellsG c0) 24)) V → GeoAt V w.heap.size c0 ∧ Below w.heap.size w V) := geo_laid w c0 24
  clear w0 w1 w2 hcx
  obtain ⟨gk, gm, gz, gs, gt, go⟩ := c0
  obtain ⟨W, hW⟩ : ∃ W, W = w.alloc (.cells #[.int .i64 gk, .int .i64 gm, .int .i64 gz, .int .i64 gs, .int .i64 gt, .int .i64 go] 24) := ⟨_, rfl⟩
  have T4 : Hid (∀ V, Below W.heap.size W V → GeoAt V w.heap.size ⟨gk, gm, gz, gs, gt, go⟩ ∧ Below w.heap.size w V) := by rw [hW]; exact T3
  rw [aggE] at KC KN ⊢
  have LWh : w.heap.size ≤ W.heap.size := (T4.out W (Below.refl _ _)).2.size
  clear T3
  go_enter Try.func6, Try.ntmps6
  go_wp2_with fail
  rw [← hW]
  clear hW
  refine cawake_any.mono ?_
  rintro _ u1 ⟨rfl, b1⟩
  have B1 := hidK b1
  obtain ⟨⟨y0, y1, y2, y3, y4, y5⟩, _⟩ := T4.out u1 b1
  simp only at y0 y1 y2 y3 y4 y5
  clear b1
  go_wp2_with fail
  refine (KC _).mono ?_
  clear KC y0 y1 y2 y3 y4 y5
  rintro _ u2 ⟨rfl, b2⟩
  have B2 := hidK (B1.out.stepL b2 B1.out.size)
  clear b2 B1
  have G2 := hidK (T4.out u2 B2.out).2
  obtain ⟨⟨y0, y1, y2, y3, y4, y5⟩, _⟩ := T4.out u2 B2.out
  simp only at y0 y1 y2 y3 y4 y5
  by_cases hx : cx = 0
  rotate_left
  · have n1 : (cx == 0) = false := beq_eq_false_iff_ne.2 hx
    have n2 : (cx != 0) = true := by simp [bne, n1]
    clear HOK T4 HV HG KN hnx
    go_wp2
    go_ret
    exact ⟨rfl, G2.out⟩
  subst hx
  have OK := hidK (HOK.out rfl)
  clear HOK
  by_cases h40 : gs > 40
  · clear T4 HV HG KN hnx
    go_wp2
    go_ret
    exact ⟨rfl, G2.out⟩
  by_cases h3 : a3 < 0
  · clear T4 HV HG KN hnx
    go_wp2
    go_ret
    exact ⟨rfl, G2.out⟩
  by_cases h3b : a3 > 1000000
  · clear T4 HV HG KN hnx
    go_wp2
    go_ret
    exact ⟨rfl, G2.out⟩
  by_cases hkl : (k.length : Int) > 100
  · clear T4 HV HG KN hnx
    go_wp2
    go_ret
    exact ⟨rfl, G2.out⟩
  by_cases h4 : a4 < 0
  · clear T4 HV HG KN hnx
    go_wp2
    go_ret
    exact ⟨rfl, G2.out⟩
  by_cases h4b : a4 > 1000000
  · clear T4 HV HG KN hnx
    go_wp2
    go_ret
    exact ⟨rfl, G2.out⟩
  have KD := cdone19_any HG.out OK.out (HV.out.below G2.out)
  rw [aggE] at KD
  clear HV
  go_wp2_with fail
  refine KD.mono ?_
  clear KD y0 y1 y2 y3 y4 y5 h40
  rintro _ u3 ⟨cb, mb, M, rfl, C3, lc, lm, b3⟩
  have B3 := hidK (B2.out.stepL b3 B2.out.size)
  have CI := hidK C3
  have LB : Hid (W.heap.size ≤ cb ∧ W.heap.size ≤ mb) := ⟨Nat.le_trans B2.out.size lc, Nat.le_trans B2.out.size lm⟩
  clear b3 C3 lc lm B2 G2
  obtain ⟨L, hL⟩ : ∃ L, Hid (oL M = L) := ⟨_, rfl⟩
  obtain ⟨fr, hfr⟩ : ∃ z : Nat, Hid (frC ⟨gk, gm, gz, gs, gt, go⟩ L = z) := ⟨_, rfl⟩
  have K := cfrees19_any CI.out (X := (fr : Int)) (by rw [hL.out, hfr.out])
  go_wp2_with fail
  refine K.mono ?_
  clear K
  rintro _ u4 ⟨rfl, b4⟩
  have B4 := hidK (B3.out.stepL b4 B3.out.size)
  have CI4 := hidK (CI.out.below b4)
  clear b4 B3 CI
  have K := call19_any CI4.out
  go_wp2_with fail
  refine K.mono ?_
  clear K
  rintro _ u5 ⟨vl, N, rfl, oN, eN, b5⟩
  have B5 := hidK (B4.out.stepL b5 B4.out.size)
  have CI5 := hidK (CI4.out.below b5)
  obtain ⟨oa, oc, ev, _⟩ := oN.form19'
  obtain ⟨nl, hnl⟩ : ∃ z : Nat, z = N.length := ⟨_, rfl⟩
  have HNL : Hid (L.length = nl) := by
    show _ = _
    rw [hnl, ← oL_length, eN, hL.out]
  rw [← hnl] at ev
  subst ev
  clear b5 B4 CI4 oN eN hnl
  have K := cget19_any CI5.out hk
  go_wp2_with fail
  refine K.mono ?_
  clear K
  rintro _ u6 h6
  obtain ⟨c6, x6, rfl, hx6, ok6, b6⟩ := plans_get h6
  obtain ⟨⟨ky6, ln6, ep6, st6⟩, vs6⟩ := c6
  obtain ⟨sa6, sc6, es6⟩ := ok6.rs.form
  simp only at es6
  subst es6
  rw [show aggO ⟨⟨ky6, ln6, ep6, st6⟩, .slice sa6 st6.length sc6⟩ = .agg #[.string ⟨ky6.toArray⟩, .int .i64 ln6, .int .i64 ep6, .slice sa6 st6.length sc6] from rfl]
  have bl : Below u6.heap.size u6 (u6.alloc (.cells #[.string ⟨ky6.toArray⟩, .int .i64 ln6, .int .i64 ep6, .slice sa6 st6.length sc6] 52)) := belL _ _
  have bb := b6.stepL bl b6.size
  have B6 := hidK (B5.out.stepL bb B5.out.size)
  have CI6 := hidK (CI5.out.below bb)
  have HX6 : Hid ((x6 = 193 ∧ finK L k = none) ∨ (x6 = 0 ∧ finK L k ≠ none)) := by
    rcases hx6 with ⟨q1, q2⟩ | ⟨q1, q2⟩
    · exact Or.inl ⟨q1, by rw [← hL.out]; exact q2⟩
    · refine Or.inr ⟨q1, ?_⟩
      rw [← hL.out, q2]
      exact fun q => by cases q
  clear b6 bl bb B5 CI5 ok6 hx6 h6
  obtain ⟨X, hX⟩ : ∃ z, Hid (plX ⟨gk, gm, gz, gs, gt, go⟩ L k a3 = z) := ⟨_, rfl⟩
  obtain ⟨R, hR⟩ : ∃ z, Hid (plR ⟨gk, gm, gz, gs, gt, go⟩ L k a3 = z) := ⟨_, rfl⟩
  have K := cplan19_any CI6.out hk w3 (X := X) (R := R) (by rw [hL.out]; exact hX.out) (by rw [hL.out]; exact hR.out)
  go_wp2_with fail
  refine K.mono ?_
  clear K
  rintro _ u7 ⟨pv, rfl, rp, _, b7⟩
  obtain ⟨pa, pc, rfl⟩ := rp.form
  have B7 := hidK (B6.out.stepL b7 B6.out.size)
  have CI7 := hidK (CI6.out.below b7)
  have RP7 := hidK rp
  clear b7 B6 CI6 rp
  obtain ⟨⟨y0, y1, y2, y3, y4, y5⟩, _⟩ := T4.out u7 B7.out
  simp only at y0 y1 y2 y3 y4 y5
  go_wp2_with fail
  refine (KN _).mono ?_
  clear KN y0 y1 y2 y3 y4 y5
  rintro _ u8 ⟨rfl, b8⟩
  have B8 := hidK (B7.out.stepL b8 B7.out.size)
  have CI8 := hidK (CI7.out.below b8)
  have RP8 := hidK (RP7.out.below b8)
  obtain ⟨⟨_, _, _, _, _, y5⟩, G8⟩ := T4.out u8 B8.out
  simp only at y5
  have F8 := hidK G8
  clear b8 B7 CI7 RP7 G8 T4
  have XN : Hid (¬ X = 0 → R = []) := fun q => by rw [← hR.out]; unfold plR; rw [if_neg (by rw [hX.out]; exact q)]
  have X190 : Hid (k.length = 0 ∨ 64 < k.length → X = 190) := fun q => by
    have e : plP ⟨gk, gm, gz, gs, gt, go⟩ L k a3 = 190 := if_pos q
    rw [← hX.out]
    unfold plX; rw [e, if_pos (by decide)]
  have X191 : Hid (¬ (k.length = 0 ∨ 64 < k.length) → finK L k = none → go ≤ (nl : Int) → X = 191) := fun q q1 q2 => by
    have e : plP ⟨gk, gm, gz, gs, gt, go⟩ L k a3 = 191 := by unfold plP; rw [if_neg q, if_neg (by omega), if_pos ⟨q1, by rw [HNL.out]; exact q2⟩]
    rw [← hX.out]
    unfold plX; rw [e, if_pos (by decide)]
  have X192 : Hid (¬ (k.length = 0 ∨ 64 < k.length) → ¬ (finK L k = none ∧ go ≤ (nl : Int)) → (nx > (fr : Int) → X = 192) ∧ (¬ nx > (fr : Int) → X = 0)) := fun q q1 => by
    have e : plP ⟨gk, gm, gz, gs, gt, go⟩ L k a3 = 0 := by unfold plP; rw [if_neg q, if_neg (by omega), if_neg (by rw [HNL.out]; exact q1)]
    rw [← hX.out]
    unfold plX
    rw [e, if_neg (by decide), hfr.out, hnx.out]
    exact ⟨fun q2 => if_pos q2, fun q2 => if_neg q2⟩
  have XA : Hid (X = 0 → (R.length : Int) = nx ∧ apCX ⟨gk, gm, gz, gs, gt, go⟩ L ⟨1, k, a3, R⟩ a4 = 0 ∧ finK (apCS ⟨gk, gm, gz, gs, gt, go⟩ L ⟨1, k, a3, R⟩ a4) k = some ⟨k, a3, a4, R⟩ ∧ (∀ z ∈ R, (Lit.int .i64 z).wf = true) ∧ R.length ≤ 1000) := fun q => by
    have hi := CI8.out.inv
    rw [hL.out] at hi
    have hp := hX.out.trans q
    have hep : (0 : Int) ≤ a4 ∧ a4 ≤ 2147483647 := ⟨by omega, by omega⟩
    obtain ⟨p1, p2, p3⟩ := plan_apply hi OK.out hep hp
    obtain ⟨q1, q2, _⟩ := plan_fit hi OK.out hep hp
    rw [hR.out] at p1 p2 p3 q1 q2
    refine ⟨q1.trans hnx.out, p1, p3, fun z hz => ?_, Nat.le_trans q2.1.1.2.2.2.2.2.1 (by decide)⟩
    have := q2.1.1.2.2.2.2.2.2.1 z hz
    exact wf_small19 this.1 (by omega)
  clear hX hR hfr hnx HNL
  have go_bad : ∀ p : Prop, (k.length = 0 ∨ 64 < k.length) → (X = 190 ∧ R = []) := fun _ q => by
    have e := X190.out q
    exact ⟨e, XN.out (by rw [e]; decide)⟩
  have GB := hidK (go_bad True)
  clear go_bad
  by_cases hb0 : k = []
  · obtain ⟨rfl, rfl⟩ := GB.out (Or.inl (by rw [hb0]; rfl))
    have d0 : (k == []) = true := by rw [hb0]; rfl
    clear X190 X191 X192 XA XN CI8 LB HG OK RP8 GB hb0
    rcases HX6.out with ⟨rfl, _⟩ | ⟨rfl, _⟩
    · by_cases ho : (nl : Int) ≥ go
      · clear HX6
        go_wp2
        go_ret
        exact ⟨rfl, F8.out⟩
      · have d2 : decide (go ≤ (nl : Int)) = false := decide_eq_false (by omega)
        clear HX6
        go_wp2
        go_ret
        exact ⟨rfl, F8.out⟩
    · clear HX6
      go_wp2
      go_ret
      exact ⟨rfl, F8.out⟩
  have d0 : (k == []) = false := beq_eq_false_iff_ne.2 hb0
  have hk0 : ¬ k.length = 0 := fun q => hb0 (List.length_eq_zero_iff.1 q)
  by_cases hb1 : (k.length : Int) > 64
  · have d1 : decide (64 < (k.length : Int)) = true := decide_eq_true (by omega)
    obtain ⟨rfl, rfl⟩ := GB.out (Or.inr (by omega))
    clear X190 X191 X192 XA XN CI8 LB HG OK RP8 GB hb0 hk0
    rcases HX6.out with ⟨rfl, _⟩ | ⟨rfl, _⟩
    · by_cases ho : (nl : Int) ≥ go
      · clear HX6
        go_wp2
        go_ret
        exact ⟨rfl, F8.out⟩
      · have d2 : decide (go ≤ (nl : Int)) = false := decide_eq_false (by omega)
        clear HX6
        go_wp2
        go_ret
        exact ⟨rfl, F8.out⟩
    · clear HX6
      go_wp2
      go_ret
      exact ⟨rfl, F8.out⟩
  have d1 : decide (64 < (k.length : Int)) = false := decide_eq_false (by omega)
  have hkk : ¬ (k.length = 0 ∨ 64 < k.length) := by omega
  have Y191 := hidK (X191.out hkk)
  have Y192 := hidK (X192.out hkk)
  clear X190 X191 X192 GB hb0 hk0 hkk
  by_cases hmany : finK L k = none ∧ go ≤ (nl : Int)
  · obtain rfl : X = 191 := Y191.out hmany.1 hmany.2
    obtain rfl : R = [] := XN.out (by decide)
    have ho : (nl : Int) ≥ go := hmany.2
    have d2 : decide (go ≤ (nl : Int)) = true := decide_eq_true hmany.2
    obtain rfl : x6 = 193 := by
      rcases HX6.out with ⟨q, _⟩ | ⟨_, q⟩
      · exact q
      · exact absurd hmany.1 q
    clear Y191 Y192 XA XN CI8 LB HG OK RP8 HX6 hmany
    go_wp2
    go_ret
    exact ⟨rfl, F8.out⟩
  have Z192 := hidK (Y192.out hmany)
  have HM : (x6 = 193 ∧ ¬ (nl : Int) ≥ go) ∨ x6 = 0 := by
    rcases HX6.out with ⟨q, q2⟩ | ⟨q, _⟩
    · exact Or.inl ⟨q, fun q3 => hmany ⟨q2, q3⟩⟩
    · exact Or.inr q
  clear Y191 Y192 HX6 hmany
  by_cases hn : nx > (fr : Int)
  · obtain rfl : X = 192 := Z192.out.1 hn
    obtain rfl : R = [] := XN.out (by decide)
    clear Z192 XA XN CI8 LB HG OK RP8
    rcases HM with ⟨rfl, ho⟩ | rfl
    · have d2 : decide (go ≤ (nl : Int)) = false := decide_eq_false (by omega)
      go_wp2
      go_ret
      exact ⟨rfl, F8.out⟩
    · go_wp2
      go_ret
      exact ⟨rfl, F8.out⟩
  obtain rfl : X = 0 := Z192.out.2 hn
  obtain ⟨hRl, hA0, hA1, hAw, RL1⟩ := XA.out rfl
  have HRL := hidK hRl
  have HA1 := hidK hA1
  have K := capply19_any CI8.out (c := ⟨⟨1, k, a3, R⟩, .slice pa R.length pc⟩) ⟨(by show (Lit.int .i64 1).wf = true; decide), w3, hk, RP8.out, hAw⟩ (ep := a4) w4 (X := 0) (L := apCS ⟨gk, gm, gz, gs, gt, go⟩ L ⟨1, k, a3, R⟩ a4) (by rw [hL.out]; exact hA0) (by rw [hL.out])
  rw [show aggR ⟨⟨1, k, a3, R⟩, .slice pa R.length pc⟩ = .agg #[.int .i64 1, .string ⟨k.toArray⟩, .int .i64 a3, .slice pa R.length pc] from rfl] at K
  have KK := hidK K
  clear Z192 XA XN HG OK hRl hA0 hA1 hAw K
  have LW : Hid (w.heap.size ≤ W.heap.size) := LWh
  have RLE : Hid (R.length ≤ 1000) := RL1
  rcases HM with ⟨rfl, ho⟩ | rfl
  · have d2 : decide (go ≤ (nl : Int)) = false := decide_eq_false (by omega)
    have d3 : ¬ go ≤ (nl : Int) := ho
    go_wp2_with fail
    refine KK.out.mono ?_
    clear KK
    rintro _ u9 ⟨M9, rfl, C9, e9, t9⟩
    have F9 := hidK (F8.out.trans (t9.below (fun y hy => by rw [hy]; exact Nat.le_trans LW.out LB.out.2) F8.out.size))
    have RP9 := hidK (RP8.out.offG (RP8.out.notMap CI8.out.isMap) t9)
    have CI9 := hidK C9
    have E9 : Hid (finK (oL M9) k = some ⟨k, a3, a4, R⟩) := by show _ = _; rw [e9]; exact HA1.out
    clear t9 e9 C9 CI8 RP8 F8
    have K := cget19_any CI9.out hk
    go_wp2_with fail
    refine K.mono ?_
    clear K
    rintro _ v1 h1
    obtain ⟨c1, x1, rfl, hx1, ok1, b1⟩ := plans_get h1
    obtain ⟨rfl, ec⟩ : x1 = 0 ∧ c1.o = ⟨k, a3, a4, R⟩ := by
      rcases hx1 with ⟨_, q⟩ | ⟨q, q2⟩
      · rw [E9.out] at q; cases q
      · rw [E9.out] at q2; exact ⟨q, (Option.some.inj q2).symm⟩
    obtain ⟨o1, vs1⟩ := c1
    simp only at ec
    subst ec
    obtain ⟨qa, qc, es1⟩ := ok1.rs.form
    simp only at es1
    subst es1
    rw [show aggO ⟨⟨k, a3, a4, R⟩, .slice qa R.length qc⟩ = .agg #[.string ⟨k.toArray⟩, .int .i64 a3, .int .i64 a4, .slice qa R.length qc] from rfl]
    obtain ⟨V, hV⟩ : ∃ V, V = v1.alloc (.cells #[.string ⟨k.toArray⟩, .int .i64 a3, .int .i64 a4, .slice qa R.length qc] 52) := ⟨_, rfl⟩
    have TB : Hid (∀ X, Below V.heap.size V X → Below v1.heap.size v1 X ∧ X.cell? ⟨v1.heap.size, 0, none⟩ = some (.string ⟨k.toArray⟩) ∧ X.cell? ⟨v1.heap.size, 1, none⟩ = some (.int .i64 a3) ∧ X.cell? ⟨v1.heap.size, 2, none⟩ = some (.int .i64 a4) ∧ X.cell? ⟨v1.heap.size, 3, none⟩ = some (.slice qa R.length qc) ∧ ∀ j, X.frozen? ⟨v1.heap.size, j, none⟩ = false) := by rw [hV]; exact box4 _ _ _ _ _ _
    obtain ⟨BV, _, _, _, z3, _⟩ := TB.out V (Below.refl _ _)
    have RQ := ok1.rs.below BV
    have RPV := (RP9.out.below b1).below BV
    have FV := hidK ((F9.out.stepL b1 F9.out.size).stepL BV (Nat.le_trans F9.out.size b1.size))
    have K := rints_any RQ RPV (by show R.length ≤ 1000000; exact Nat.le_trans RLE.out (by decide)) (Nat.le_trans RLE.out (by decide))
    rw [decide_eq_true rfl] at K
    have KI := hidK K
    clear K RQ RPV BV b1 ok1 h1 hx1 E9 CI9 RP9 F9
    go_wp2_with fail
    rw [← hV]
    clear hV
    go_wp2_with fail
    refine KI.out.mono ?_
    clear KI z3
    rintro _ v2 ⟨rfl, b2⟩
    obtain ⟨_, z0, z1, z2, z3, _⟩ := TB.out v2 b2
    have FZ := hidK (FV.out.stepL b2 FV.out.size)
    have e1 : ((R.length : Int) == nx) = true := by rw [HRL.out]; exact beq_self_eq_true nx
    clear b2 FV TB z0 z3 HRL HA1
    go_wp2
    go_ret
    exact ⟨rfl, FZ.out⟩
  · skip
    go_wp2_with fail
    refine KK.out.mono ?_
    clear KK
    rintro _ u9 ⟨M9, rfl, C9, e9, t9⟩
    have F9 := hidK (F8.out.trans (t9.below (fun y hy => by rw [hy]; exact Nat.le_trans LW.out LB.out.2) F8.out.size))
    have RP9 := hidK (RP8.out.offG (RP8.out.notMap CI8.out.isMap) t9)
    have CI9 := hidK C9
    have E9 : Hid (finK (oL M9) k = some ⟨k, a3, a4, R⟩) := by show _ = _; rw [e9]; exact HA1.out
    clear t9 e9 C9 CI8 RP8 F8
    have K := cget19_any CI9.out hk
    go_wp2_with fail
    refine K.mono ?_
    clear K
    rintro _ v1 h1
    obtain ⟨c1, x1, rfl, hx1, ok1, b1⟩ := plans_get h1
    obtain ⟨rfl, ec⟩ : x1 = 0 ∧ c1.o = ⟨k, a3, a4, R⟩ := by
      rcases hx1 with ⟨_, q⟩ | ⟨q, q2⟩
      · rw [E9.out] at q; cases q
      · rw [E9.out] at q2; exact ⟨q, (Option.some.inj q2).symm⟩
    obtain ⟨o1, vs1⟩ := c1
    simp only at ec
    subst ec
    obtain ⟨qa, qc, es1⟩ := ok1.rs.form
    simp only at es1
    subst es1
    rw [show aggO ⟨⟨k, a3, a4, R⟩, .slice qa R.length qc⟩ = .agg #[.string ⟨k.toArray⟩, .int .i64 a3, .int .i64 a4, .slice qa R.length qc] from rfl]
    obtain ⟨V, hV⟩ : ∃ V, V = v1.alloc (.cells #[.string ⟨k.toArray⟩, .int .i64 a3, .int .i64 a4, .slice qa R.length qc] 52) := ⟨_, rfl⟩
    have TB : Hid (∀ X, Below V.heap.size V X → Below v1.heap.size v1 X ∧ X.cell? ⟨v1.heap.size, 0, none⟩ = some (.string ⟨k.toArray⟩) ∧ X.cell? ⟨v1.heap.size, 1, none⟩ = some (.int .i64 a3) ∧ X.cell? ⟨v1.heap.size, 2, none⟩ = some (.int .i64 a4) ∧ X.cell? ⟨v1.heap.size, 3, none⟩ = some (.slice qa R.length qc) ∧ ∀ j, X.frozen? ⟨v1.heap.size, j, none⟩ = false) := by rw [hV]; exact box4 _ _ _ _ _ _
    obtain ⟨BV, _, _, _, z3, _⟩ := TB.out V (Below.refl _ _)
    have RQ := ok1.rs.below BV
    have RPV := (RP9.out.below b1).below BV
    have FV := hidK ((F9.out.stepL b1 F9.out.size).stepL BV (Nat.le_trans F9.out.size b1.size))
    have K := rints_any RQ RPV (by show R.length ≤ 1000000; exact Nat.le_trans RLE.out (by decide)) (Nat.le_trans RLE.out (by decide))
    rw [decide_eq_true rfl] at K
    have KI := hidK K
    clear K RQ RPV BV b1 ok1 h1 hx1 E9 CI9 RP9 F9
    go_wp2_with fail
    rw [← hV]
    clear hV
    go_wp2_with fail
    refine KI.out.mono ?_
    clear KI z3
    rintro _ v2 ⟨rfl, b2⟩
    obtain ⟨_, z0, z1, z2, z3, _⟩ := TB.out v2 b2
    have FZ := hidK (FV.out.stepL b2 FV.out.size)
    have e1 : ((R.length : Int) == nx) = true := by rw [HRL.out]; exact beq_self_eq_true nx
    clear b2 FV TB z0 z3 HRL HA1
    go_wp2
    go_ret
    exact ⟨rfl, FZ.out⟩

/-! ### THE ROW's STEP: WRITTEN OUT: LEAVE IT -/
set_option maxRecDepth 100000 in
set_option maxHeartbeats 2000000 in
theorem lifted (os : Os) (started : os.Started) (H : Type) (enc : TypeId × Value → H) :
    ReturnsInHanded {} Try.checked os 6 .any (Rows.catalogPlansSpec.pre6 enc Try.prog Try.f6 Rows.catalogPlansRow.domain false) (Rows.catalogPlansSpec.post enc Try.prog Try.f6 false true false false) := by
  refine returnsInHanded_of_change (C := Try.checked) own started (by kernel_rfl) Try.func6
    (ChangeSpec.witness6 (enc := enc) (C := Try.checked) false ⟨#[], #[.agg #[.int .i64 0, .int .i64 0, .int .i64 0, .int .i64 0, .int .i64 0, .int .i64 0], .slice none 0 0, .string ByteArray.empty, .int .i64 0, .int .i64 0], []⟩ 8 (by kernel_rfl) (by kernel_rfl) (by kernel_rfl) (by kernel_rfl)) ?_
  intro W base args ds gs before hval0 hW hcnd _
  have hval : ∀ (j : Nat) t v, Try.f6.params[j]? = some t → args[j]? = some v → Value.okWide Try.prog W .any base t v := hval0
  have hW' := hW
  obtain ⟨p, q, hA0, hV, rfl, hfz, hnd⟩ := hW
  have hA : DataW.TrodAll enc Try.prog W 0 (fun _ => true) true Try.f6.params.toList args.toList ds p := hA0
  rw [Try.params6] at hA hval
  obtain ⟨v0, vs0, d0, ds0, p0, q0, hargs, rfl, rfl, h0, r0⟩ := trodAll_cons hA
  obtain ⟨v1, vs1, d1, ds1, p1, q1, rfl, rfl, rfl, h1, r1⟩ := trodAll_cons r0
  obtain ⟨v2, vs2, d2, ds2, p2, q2, rfl, rfl, rfl, h2, r2⟩ := trodAll_cons r1
  obtain ⟨v3, vs3, d3, ds3, p3, q3, rfl, rfl, rfl, h3, r3⟩ := trodAll_cons r2
  obtain ⟨v4, vs4, d4, ds4, p4, q4, rfl, rfl, rfl, h4, r4⟩ := trodAll_cons r3
  obtain ⟨rfl, rfl, rfl⟩ := trodAll_nil r4
  obtain rfl : args = #[v0, v1, v2, v3, v4] := by cases args; simp_all
  obtain ⟨rfl, rfl⟩ := trodVars_none hV
  have k0 := h0
  have lt0 : ∀ x ∈ p0, x.block < W.heap.size := by obtain ⟨m, hm⟩ := k0; exact DataW.trod_lt m _ _ _ hm
  obtain ⟨c0, rfl, w0⟩ := open_geo Try.underlying24 (by kernel_rfl) rfl rfl rfl rfl rfl rfl (by kernel_rfl) (by kernel_rfl) (by kernel_rfl) (by kernel_rfl) (by kernel_rfl) (by kernel_rfl) (by kernel_rfl) (by kernel_rfl) (by kernel_rfl) (by kernel_rfl) (by kernel_rfl) (by kernel_rfl) (hval 0 24 v0 rfl rfl) h0
  obtain ⟨a1, len1, cap1, rfl⟩ := okWide_slice Try.underlying26 (hval 1 26 v1 rfl rfl)
  have k1 := h1
  have lt1 : ∀ x ∈ p1, x.block < W.heap.size := by obtain ⟨m, hm⟩ := k1; exact DataW.trod_lt m _ _ _ hm
  obtain ⟨z1, w1⟩ : ∃ zs, RdC19 W (.slice a1 len1 cap1) zs := by
    obtain ⟨fuel, hf⟩ := h1
    obtain ⟨a9, l9, c9, L9, hcs, _, hR⟩ := open_kcalls (si := 3) Try.underlying26 Try.underlying41 (by kernel_rfl) rfl rfl rfl (by kernel_rfl) (by kernel_rfl) (by kernel_rfl) (by kernel_rfl) (by kernel_rfl) Try.underlying39 rfl rfl rfl rfl (by kernel_rfl) (by kernel_rfl) (by kernel_rfl) (by kernel_rfl) (by kernel_rfl) (by kernel_rfl) (by kernel_rfl) (by kernel_rfl) (by kernel_rfl) (by kernel_rfl) hf
    simp [Value.cells] at hcs
    obtain ⟨rfl, rfl, rfl⟩ := hcs
    exact ⟨L9, hR⟩
  obtain ⟨a2, rfl, rfl, rfl, w2⟩ := open_string Try.underlying9 (hval 2 9 v2 rfl rfl) h2
  obtain ⟨a3, rfl, rfl, rfl, w3⟩ := open_int Try.underlying3 (hval 3 3 v3 rfl rfl) h3
  obtain ⟨a4, rfl, rfl, rfl, w4⟩ := open_int Try.underlying3 (hval 4 3 v4 rfl rfl) h4
  clear hA0 hval0
  refine (walk c0 a1 len1 cap1 z1 a2 a3 a4 W w0 w1 w2 w3 w4).mono fun e W' ⟨he, bel⟩ => ?_
  subst he
  exact ⟨_, rfl, _, _, _, [], _, [], hW', trodAll_mk1 (shut_bool Try.underlying4 _), (trodAll_cons_mk (Below.trod laidOut (by kernel_rfl) (of_decide_eq_true (by kernel_rfl)) k0 bel lt0) (trodAll_cons_mk (Below.trod laidOut (by kernel_rfl) (of_decide_eq_true (by kernel_rfl)) k1 bel lt1) (trodAll_cons_mk (shut_string Try.underlying9 w2) (trodAll_cons_mk (shut_int Try.underlying3 w3) (trodAll_cons_mk (shut_int Try.underlying3 w4) trodAll_mk0))))), rfl, bel.frame _, fun h => by cases h⟩

theorem over : Rows.catalogPlansRow.holds Try.pinned (OpenSpec.ofChange Rows.catalogPlansSpec) :=
  OpenClaim.holds_of_wide 6 Try.f6 rfl rfl rfl rfl rfl rfl rfl ⟨rfl, rfl, rfl, rfl, rfl⟩ rfl rfl rfl rfl rfl (by kernel_rfl) Try.func6 (by kernel_rfl)
    (of_decide_eq_true (by kernel_rfl)) (by unfold Func.isWrapper; first | (rw [if_pos (by decide +kernel)]; kernel_rfl) | (rw [if_neg (by decide +kernel)]; exact ⟨rfl, rfl⟩))
    (fun os started H enc _ => lifted os started H enc)

/-- ████ THE STATEMENT ████ -/
theorem proved : Rows.CatalogPlansSaid := over
end Go.Proofs.Ytndlfmofjmieaaa.catalogPlans
namespace Go.Proofs.Ytndlfmofjmieaaa
theorem catalogPlans_holds : Rows.CatalogPlansSaid := catalogPlans.proved
#print axioms catalogPlans_holds
end Go.Proofs.Ytndlfmofjmieaaa
