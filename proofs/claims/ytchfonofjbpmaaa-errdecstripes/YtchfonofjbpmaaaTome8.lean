/- TEXTS JOINED: GfPow, GfDiv, WdCB, ErCB, ErRefA, WdRefA, WdRefN, WdCC, KeMakes, KeEuc. -/
import Derived.Test.YtchfonofjbpmaaaTome7
import Derived.Test.YtchfonofjbpmaaaTome6
import Derived.Deep.RegionHeld3
import Derived.Test.YtchfonofjbpmaaaTome4
import Derived.WalkMore
import Derived.BigQuiet
import Derived.Deep.QuietTactic
import Derived.Lib.SliceRun
/-
  THE FIELD's POWERS AND INVERSES BY CONTRACT, on a field that stands in memory; the world stands, but for draws.
-/

namespace Go.Proofs.Ytchfonofjbpmaaa.Gf
set_option linter.unusedVariables false
open Go.RowKit

set_option maxRecDepth 100000 in
theorem turns_any (n : Int) (w : World) (h1 : -9223372036854775808 ≤ n) (h2 : n ≤ 9223372036854775807) :
    Calls Try.prog 123 #[.int .i64 n] w fun e w' => e = .returned (.int .i64 (tn n : Nat)) ∧ w' = w := by
  have hb : -255 < n.tmod 255 ∧ n.tmod 255 < 255 := ⟨Int.lt_tmod_of_pos n (by omega), Int.tmod_lt_of_pos n (by omega)⟩
  have hq := Int.mul_tdiv_add_tmod n 255
  have E : Hid ((n.tmod 255 + 255) % 255 = (tn n : Nat)) := by rw [tn_cast]; show _ = _; omega
  clear hq
  obtain ⟨b1, b2⟩ := hb
  go_enter Try.func123, Try.ntmps123
  go_wp2
  go_ret
  exact ⟨ret_int E.out, rfl⟩

set_option maxRecDepth 100000 in
set_option maxHeartbeats 1000000 in
theorem pow_main (b a : Nat) (n : Int) (w : World) (hF : FieldAt w b) (ha0 : a ≠ 0) (hn0 : n ≠ 0) (ha : a < 256) (h1 : -9223372036854775808 ≤ n) (h2 : n ≤ 9223372036854775807) :
    Calls Try.prog 108 #[.pointer (some ⟨b, 0, none⟩), .int .u8 a, .int .i64 n] w fun e w' => e = .returned (.tuple #[.int .u8 (pw ((lg a * tn n) % 255) : Nat), .int .i64 0]) ∧ ∃ n, w' = w.drewN n := by
  have ka : ((a : Int) == 0) = false := by simpa using ha0
  have kn : (n == 0) = false := by simpa using hn0
  have p1 := hF.places a ha
  have l1 := lg_lt ha
  have l2 := tn_lt n
  have l3 : (lg a : Int) * (tn n : Int) ≤ 64516 := by
    have : lg a * tn n ≤ 254 * 254 := Nat.mul_le_mul (by omega) (by omega)
    have e : ((lg a * tn n : Nat) : Int) = (lg a : Int) * (tn n : Int) := by simp
    omega
  have l4 : 0 ≤ (lg a : Int) * (tn n : Int) := Int.mul_nonneg (by omega) (by omega)
  have p3 := hF.powers ((lg a * tn n) % 255) (Nat.mod_lt _ (by decide))
  go_enter Try.func108, Try.ntmps108
  go_wp2_with (go_at_call 69; go_must (refine (filled_any b _ hF).mono ?_); rintro e w' ⟨rfl, rfl⟩)
  go_quiet ((go_at_call 123; exact Calls.quiet_of_same (turns_any n _ h1 h2)))
  go_wp2
  go_ret2
  exact ⟨rfl, _, rfl⟩

set_option maxRecDepth 100000 in
theorem pow_nought (b a : Nat) (w : World) :
    Calls Try.prog 108 #[.pointer (some ⟨b, 0, none⟩), .int .u8 a, .int .i64 0] w fun e w' => e = .returned (.tuple #[.int .u8 1, .int .i64 0]) ∧ w' = w := by
  go_enter Try.func108, Try.ntmps108
  go_wp2
  go_ret2
  exact ⟨rfl, rfl⟩

set_option maxRecDepth 100000 in
theorem pow_zero_neg (b : Nat) (n : Int) (w : World) (hn : n < 0) :
    Calls Try.prog 108 #[.pointer (some ⟨b, 0, none⟩), .int .u8 0, .int .i64 n] w fun e w' => e = .returned (.tuple #[.int .u8 0, .int .i64 10]) ∧ w' = w := by
  have kn : (n == 0) = false := by simp; omega
  go_enter Try.func108, Try.ntmps108
  go_wp2
  go_ret2
  exact ⟨rfl, rfl⟩

set_option maxRecDepth 100000 in
theorem pow_zero_pos (b : Nat) (n : Int) (w : World) (hn : 0 < n) :
    Calls Try.prog 108 #[.pointer (some ⟨b, 0, none⟩), .int .u8 0, .int .i64 n] w fun e w' => e = .returned (.tuple #[.int .u8 0, .int .i64 0]) ∧ w' = w := by
  have kn : (n == 0) = false := by simp; omega
  go_enter Try.func108, Try.ntmps108
  go_wp2
  go_ret2
  exact ⟨rfl, rfl⟩

theorem pow_any (b a : Nat) (n : Int) (w : World) (hF : FieldAt w b) (ha : a < 256) (h1 : -9223372036854775808 ≤ n) (h2 : n ≤ 9223372036854775807) :
    Calls Try.prog 108 #[.pointer (some ⟨b, 0, none⟩), .int .u8 a, .int .i64 n] w fun e w' => e = .returned (.tuple #[.int .u8 (powV a n : Nat), .int .i64 (powE a n : Nat)]) ∧ ∃ n, w' = w.drewN n := by
  by_cases hn0 : n = 0
  · subst hn0
    exact (pow_nought b a w).mono fun e w' ⟨he, hw⟩ => ⟨by rw [he]; simp [powV, powE], 0, hw⟩
  · by_cases ha0 : a = 0
    · subst ha0
      by_cases hneg : n < 0
      · exact (pow_zero_neg b n w hneg).mono fun e w' ⟨he, hw⟩ => ⟨by rw [he]; simp [powV, powE, hn0, hneg], 0, hw⟩
      · exact (pow_zero_pos b n w (by omega)).mono fun e w' ⟨he, hw⟩ => ⟨by rw [he]; simp [powV, powE, hn0, hneg], 0, hw⟩
    · exact (pow_main b a n w hF ha0 hn0 ha h1 h2).mono fun e w' ⟨he, hw⟩ => ⟨by rw [he]; simp [powV, powE, hn0, ha0], hw⟩

set_option maxRecDepth 100000 in
theorem inv_any (b a : Nat) (w : World) (hF : FieldAt w b) (ha : a < 256) :
    Calls Try.prog 79 #[.pointer (some ⟨b, 0, none⟩), .int .u8 a] w fun e w' => e = .returned (.tuple #[.int .u8 (powV a (-1) : Nat), .int .i64 (powE a (-1) : Nat)]) ∧ ∃ n, w' = w.drewN n := by
  go_enter Try.func79, Try.ntmps79
  go_wp2_with (go_at_call 108; go_must (refine (pow_any b a (-1) _ hF ha (by omega) (by omega)).mono ?_); rintro e w' ⟨rfl, nd, rfl⟩)
  go_ret2
  exact ⟨rfl, _, rfl⟩

theorem pow_at {b : Nat} {x : Int} {w : World} (hF : FieldAt w b) (a : Nat) (n : Int) (hx : x = a) (ha : a < 256) (h1 : -9223372036854775808 ≤ n) (h2 : n ≤ 9223372036854775807) :
    Calls Try.prog 108 #[.pointer (some ⟨b, 0, none⟩), .int .u8 x, .int .i64 n] w fun e w' => e = .returned (.tuple #[.int .u8 (powV a n : Nat), .int .i64 (powE a n : Nat)]) ∧ ∃ n, w' = w.drewN n := by
  subst hx; exact pow_any b a n w hF ha h1 h2

theorem inv_at {b : Nat} {x : Int} {w : World} (hF : FieldAt w b) (a : Nat) (hx : x = a) (ha : a < 256) :
    Calls Try.prog 79 #[.pointer (some ⟨b, 0, none⟩), .int .u8 x] w fun e w' => e = .returned (.tuple #[.int .u8 (powV a (-1) : Nat), .int .i64 (powE a (-1) : Nat)]) ∧ ∃ n, w' = w.drewN n := by
  subst hx; exact inv_any b a w hF ha

theorem inv_all {b : Nat} {x : Int} {w : World} (hF : FieldAt w b) (a : Nat) (hx : x = a) (ha : a < 256) :
    Calls Try.prog 79 #[.pointer (some ⟨b, 0, none⟩), .int .u8 x] w fun e w' => e = .returned (.tuple #[.int .u8 (invS a : Nat), .int .i64 (zE a : Nat)]) ∧ ∃ n, w' = w.drewN n := by
  rw [← powV_m1, ← powE_m1]
  exact inv_at hF a hx ha

end Go.Proofs.Ytchfonofjbpmaaa.Gf

/-
  THE FIELD's QUOTIENTS BY CONTRACT, on a field that stands in memory; the world stands, but for draws.
-/

namespace Go.Proofs.Ytchfonofjbpmaaa.Gf
set_option linter.unusedVariables false
open Go.RowKit

set_option maxRecDepth 100000 in
theorem div_zero (b a : Nat) (w : World) (hF : FieldAt w b) :
    Calls Try.prog 87 #[.pointer (some ⟨b, 0, none⟩), .int .u8 a, .int .u8 0] w fun e w' => e = .returned (.tuple #[.int .u8 0, .int .i64 10]) ∧ ∃ n, w' = w.drewN n := by
  have e1 : powV 0 (-1) = 0 := rfl
  have e2 : powE 0 (-1) = 10 := rfl
  go_enter Try.func87, Try.ntmps87
  go_wp2_with (go_at_call 79; go_must (refine (inv_any b 0 _ hF (by omega)).mono ?_); rintro e w' ⟨rfl, nd, rfl⟩)
  go_ret2
  exact ⟨rfl, _, rfl⟩

set_option maxRecDepth 100000 in
theorem div_main (b a c : Nat) (w : World) (hF : FieldAt w b) (ha : a < 256) (hc : c < 256) (hc0 : c ≠ 0) :
    Calls Try.prog 87 #[.pointer (some ⟨b, 0, none⟩), .int .u8 a, .int .u8 c] w fun e w' => e = .returned (.tuple #[.int .u8 (mulS a (powV c (-1)) : Nat), .int .i64 0]) ∧ ∃ n, w' = w.drewN n := by
  have e2 : powE c (-1) = 0 := by simp [powE, hc0]
  have l : powV c (-1) < 256 := by unfold powV; rw [if_neg (by omega), if_neg hc0]; exact pw_lt _
  go_enter Try.func87, Try.ntmps87
  go_wp2_with (go_at_call 79; go_must (refine (inv_any b c _ hF hc).mono ?_); rintro e w' ⟨rfl, nd, rfl⟩)
  go_wp2_with (go_at_call 45; go_must (refine (mul_any b a _ _ (hF.drewN nd) ha l).mono ?_); rintro e w' ⟨rfl, nd2, rfl⟩)
  go_ret2
  exact ⟨rfl, _, rfl⟩

theorem div_at {b : Nat} {x y : Int} {w : World} (hF : FieldAt w b) (a c : Nat) (hx : x = a) (hy : y = c) (ha : a < 256) (hc : c < 256) (hc0 : c ≠ 0) :
    Calls Try.prog 87 #[.pointer (some ⟨b, 0, none⟩), .int .u8 x, .int .u8 y] w fun e w' => e = .returned (.tuple #[.int .u8 (mulS a (powV c (-1)) : Nat), .int .i64 0]) ∧ ∃ n, w' = w.drewN n := by
  subst hx hy; exact div_main b a c w hF ha hc hc0

theorem div_all {b : Nat} {x y : Int} {w : World} (hF : FieldAt w b) (a c : Nat) (hx : x = a) (hy : y = c) (ha : a < 256) (hc : c < 256) :
    Calls Try.prog 87 #[.pointer (some ⟨b, 0, none⟩), .int .u8 x, .int .u8 y] w fun e w' => e = .returned (.tuple #[.int .u8 (mulS a (invS c) : Nat), .int .i64 (zE c : Nat)]) ∧ ∃ n, w' = w.drewN n := by
  by_cases hc0 : c = 0
  · subst hc0 hx hy
    have e1 : mulS a (invS 0) = 0 := mulS_zero a
    rw [e1, zE_zero]
    exact div_zero b a w hF
  · rw [← powV_m1 c, zE_pos hc0]
    exact div_at hF a c hx hy ha hc hc0

end Go.Proofs.Ytchfonofjbpmaaa.Gf

/-
  THE PROGRAM's 'roots', 'differing' (package errdec) BY CONTRACT.
-/




namespace Go.Proofs.Ytchfonofjbpmaaa.Gf
set_option linter.unusedVariables false
set_option linter.unusedSimpArgs false
open Go.RowKit

set_option maxRecDepth 100000 in
set_option maxHeartbeats 2000000 in
theorem ert_any {b : Nat} {vp vm : Value} {p : List UInt8} {ms : List Bool} {w : World} (hF : FieldAt w b) (hp : Rd w vp p) (hm : RdB w vm ms) (hl : ms.length ≤ 256) (hl2 : p.length ≤ 1000) :
    Calls Try.prog 56 #[.pointer (some ⟨b, 0, none⟩), vp, vm] w fun e w' => ∃ v, e = .returned v ∧ OwnI w' w.heap.size 3 v (plc (rtF p (hb ms)) ms.length) ∧ Below w.heap.size w w' := by
  obtain ⟨i0, hi, hz0, hz1, hz2⟩ := info_parts info_int10
  obtain ⟨a, c, rfl⟩ := hm.form
  obtain ⟨a2, c2, rfl⟩ := hp.form
  go_enter Try.func56, Try.ntmps56
  go_wp2
  go_loopw [7, 12] (fun o i wr => ∃ r : Nat, r ≤ ms.length ∧ i = .int .i64 r ∧ OwnI wr w.heap.size 3 o (plc (rtF p (hb ms)) r) ∧ Below w.heap.size w wr) (fun _ i _ => ms.length - (intOf i).toNat)
  case atStart => exact ⟨0, by omega, rfl, OwnI.nil _ _ _, Below.refl _ _⟩
  case round =>
    obtain ⟨r, hr, rfl, hO, hB⟩ := hrel
    have hsz := hB.size
    have hn : Hid ((plc (rtF p (hb ms)) r).length ≤ 300) := by show _ ≤ _; rw [plc_length]; have := cnt_le (rtF p (hb ms)) r; omega
    by_cases hlt : r < ms.length
    · obtain ⟨bb, off, rfl, _, c1⟩ := (hm.below hB).at hlt
      have hlt' : (r : Int) < (ms.length : Int) := by omega
      obtain ⟨av, cv, rfl⟩ := hO.form
      have E := plc_succ (rtF p (hb ms)) r
      cases e : hb ms r with
      | true =>
        rw [e] at c1
        have E' : Hid (plc (rtF p (hb ms)) (r + 1) = plc (rtF p (hb ms)) r) := by show _ = _; rw [E]; simp [rtF, e]
        clear hm hp e E
        go_wp2
        go_roundw
        case rel => exact ⟨r + 1, by omega, by go_num, by rw [E'.out]; exact hO, hB⟩
        case measure => simp [intOf]; omega
      | false =>
        rw [e] at c1
        have hr2 : r < 256 := by omega
        have m1 : Hid ((r : Int) = (((pt r).toNat : Nat) : Int)) := by show _ = _; rw [pt_toNat hr2]
        have hpr := hp.below hB
        have hFr := hF.below hB
        by_cases hv : evP p (pt r) = 0
        · have E' : Hid (plc (rtF p (hb ms)) (r + 1) = plc (rtF p (hb ms)) r ++ [r]) := by show _ = _; rw [E]; simp [rtF, e, hv]
          have hq : ((((evP p (pt r)).toNat : Nat) : Int) == 0) = true := by rw [eq_u8_zero]; exact decide_eq_true hv
          clear hm hp e E hF hv
          go_wp2_with fail
          refine (peval_quiet hFr hpr (pt r) m1.out (by omega)).mono ?_
          rintro e w2 ⟨rfl, n2, hw2⟩
          have hO2 : OwnI w2 w.heap.size 3 (.slice av (plc (rtF p (hb ms)) r).length cv) (plc (rtF p (hb ms)) r) := by rw [hw2]; exact hO
          have hB2 : Below w.heap.size w w2 := by rw [hw2]; exact hB.drewN _
          have hsz2 := hB2.size
          clear hw2 hO hB hFr hpr c1
          go_wp2_with (at_builtin; go_loud (refine wpList_append_int rfl (.tmp 27) (.tmp 29) 28 rfl w.heap.size 3 i0 Try.underlying28 hi hz0 hz1 hz2 (.slice av (plc (rtF p (hb ms)) r).length cv) (plc (rtF p (hb ms)) r) rfl hO2 r _ 1 rfl (by have := hn.out; omega) hsz2 ?_); intro v' w3 hv2 hb2)
          have HO : Hid (OwnI w3 w.heap.size 3 v' (plc (rtF p (hb ms)) (r + 1))) := by show OwnI _ _ _ _ _; rw [E'.out]; exact hv2
          have HB : Hid (Below w.heap.size w w3) := hB2.trans hb2
          clear hO2 hv2 hb2 hB2 hq
          go_wp2
          go_roundw
          case rel => exact ⟨r + 1, by omega, by go_num, HO.out, HB.out⟩
          case measure => simp [intOf]; omega
        · have E' : Hid (plc (rtF p (hb ms)) (r + 1) = plc (rtF p (hb ms)) r) := by show _ = _; rw [E]; simp [rtF, e, hv]
          have hq : ((((evP p (pt r)).toNat : Nat) : Int) == 0) = false := by rw [eq_u8_zero]; exact decide_eq_false hv
          clear hm hp e E hF hv
          go_wp2_with fail
          refine (peval_quiet hFr hpr (pt r) m1.out (by omega)).mono ?_
          rintro e w2 ⟨rfl, n2, hw2⟩
          have hO2 : Hid (OwnI w2 w.heap.size 3 (.slice av (plc (rtF p (hb ms)) r).length cv) (plc (rtF p (hb ms)) (r + 1))) := by show OwnI _ _ _ _ _; rw [hw2, E'.out]; exact hO
          have hB2 : Hid (Below w.heap.size w w2) := by show Below _ _ _; rw [hw2]; exact hB.drewN _
          clear hw2 hO hB hFr hpr c1
          go_wp2
          go_roundw
          case rel => exact ⟨r + 1, by omega, by go_num, hO2.out, hB2.out⟩
          case measure => simp [intOf]; omega
    · have e : r = ms.length := by omega
      subst e
      have hge : ¬ (ms.length : Int) < (ms.length : Int) := by omega
      clear hm hp
      go_wp2
      try rw [Exit.noGoto_ret]
      go_ret
      exact ⟨_, rfl, hO, hB⟩

/-- what 'differing' lays: its four variables -/
structure Df10 (w : World) (b fb sb wb eb : Nat) (vs vw ve : Value) : Prop where
  cf : w.cell? ⟨fb, 0, none⟩ = some (.pointer (some ⟨b, 0, none⟩))
  cs : w.cell? ⟨sb, 0, none⟩ = some vs
  cw : w.cell? ⟨wb, 0, none⟩ = some vw
  ce : w.cell? ⟨eb, 0, none⟩ = some ve
  lf : fb < w.heap.size
  ls : sb < w.heap.size
  lw : wb < w.heap.size
  le : eb < w.heap.size

set_option maxRecDepth 100000 in
set_option maxHeartbeats 1000000 in
theorem edif_any {b n1 n2 n3 c1 c2 c3 : Nat} {a1 a2 a3 : Option Addr} (w : World) : Calls Try.prog 57 #[.pointer (some ⟨b, 0, none⟩), .slice a1 n1 c1, .slice a2 n2 c2, .slice a3 n3 c3] w fun e w' =>
    ∃ fb sb wb eb, e = .returned (.func (.func 86) #[] #[.pointer (some ⟨fb, 0, none⟩), .pointer (some ⟨sb, 0, none⟩), .pointer (some ⟨wb, 0, none⟩), .pointer (some ⟨eb, 0, none⟩)]) ∧ Df10 w' b fb sb wb eb (.slice a3 n3 c3) (.slice a1 n1 c1) (.slice a2 n2 c2) ∧ Below w.heap.size w w' := by
  go_enter Try.func57, Try.ntmps57
  go_wp2
  go_ret
  refine ⟨w.heap.size, w.heap.size + 1 + 1 + 1, w.heap.size + 1, w.heap.size + 1 + 1, rfl, ⟨by go_simp, by go_simp, by go_simp, by go_simp, by simp <;> omega, by simp <;> omega, by simp <;> omega, by simp <;> omega⟩, by repeat (first | exact Below.refl _ _ | apply below_lit)⟩

set_option maxRecDepth 100000 in
set_option maxHeartbeats 4000000 in
/-- by how much a byte differs -/
theorem edif1_any {w : World} {b fb sb wb eb k m i : Nat} {vs vw ve : Value} {D O : List UInt8} (hF : FieldAt w b) (hD : Df10 w b fb sb wb eb vs vw ve) (hs : Rd w vs D) (hw : Rd w vw (upto (wtF k m) (k + m))) (he : Rd w ve O) (hi : i < k + m) (h2 : k + m ≤ 256) (hl : D.length ≤ 1000) (hl2 : O.length ≤ 1000) {x : Int} (hx : x = (i : Int)) :
    Calls Try.prog 86 #[.int .i64 x, .pointer (some ⟨fb, 0, none⟩), .pointer (some ⟨sb, 0, none⟩), .pointer (some ⟨wb, 0, none⟩), .pointer (some ⟨eb, 0, none⟩)] w fun e w' => e = .returned (.int .u8 (((dfF k m O D i).toNat : Nat) : Int)) ∧ ∃ n, w' = w.drewN n := by
  subst hx
  have hr2 : i < 256 := by omega
  have m1 : Hid ((i : Int) = (((pt i).toNat : Nat) : Int)) := by show _ = _; rw [pt_toNat hr2]
  obtain ⟨sa, sc, rfl⟩ := hs.form
  obtain ⟨ea, ec, rfl⟩ := he.form
  obtain ⟨wa, wc, rfl⟩ := hw.form
  rw [upto_length] at hw hD
  obtain ⟨wbb, wo, rfl, hwb, cw1⟩ := hw.byte (i := i) (by rw [upto_length]; exact hi)
  rw [co_upto_in hi] at cw1
  obtain ⟨N, hN⟩ : ∃ N, Hid (N = k + m) := ⟨_, rfl⟩
  rw [← hN.out] at hw hD hi
  have hi' : (i : Int) < (N : Int) := by omega
  obtain ⟨cf, cs, cw, ce, _, _, _, _⟩ := hD
  obtain ⟨W, hW⟩ : ∃ W, Hid (W = wtF k m i) := ⟨_, rfl⟩
  rw [← hW.out] at cw1
  clear hw
  go_enter Try.func86, Try.ntmps86
  go_wp2_with fail
  go_quiet (first
    | (go_at_call 85; go_loud (exact Calls.quiet_of (peval_quiet (hF.drewN _) (Rd.drewN hs _) (pt i) m1.out (by omega))))
    | (go_at_call 45; go_loud (exact Calls.quiet_of (fmu_quiet (hF.drewN _) (evP D (pt i)) W rfl rfl))))
  obtain ⟨n1, hn1⟩ : ∃ n1, n1 = nq := ⟨_, rfl⟩
  subst hn1
  obtain ⟨u, hu⟩ : ∃ u, u = w.drewN n1 := ⟨_, rfl⟩
  have hFu : FieldAt u b := by rw [hu]; exact hF.drewN _
  have heu : Rd u (.slice ea O.length ec) O := by rw [hu]; exact Rd.drewN he _
  have cfu : u.cell? ⟨fb, 0, none⟩ = some (.pointer (some ⟨b, 0, none⟩)) := by rw [hu]; exact cf
  have ceu : u.cell? ⟨eb, 0, none⟩ = some (.slice ea O.length ec) := by rw [hu]; exact ce
  have HU : Hid _ := hu
  rw [← hu]
  obtain ⟨d, hd⟩ : ∃ d, Hid (d = mu (evP D (pt i)) W) := ⟨_, rfl⟩
  have HE : Hid (mulS (evP O (pt i)).toNat (invS d.toNat) = (dfF k m O D i).toNat) := by
    show _ = _
    unfold dfF
    rw [← hW.out, ← hd.out, mu_toNat, iv_toNat]
  rw [← hd.out]
  clear hF hs he cf cs cw ce cw1 hu
  go_wp2_with fail
  go_quiet (first
    | (go_at_call 85; go_loud (exact Calls.quiet_of (peval_quiet (hFu.drewN _) (Rd.drewN heu _) (pt i) m1.out (by omega))))
    | (go_at_call 87; go_loud (exact Calls.quiet_of (div_all (hFu.drewN _) (evP O (pt i)).toNat d.toNat rfl rfl (u8_lt _) (u8_lt _)))))
  rw [HE.out]
  go_wp2
  go_ret
  exact ⟨rfl, n1 + nq, by rw [HU.out, World.drewN_drewN]⟩

end Go.Proofs.Ytchfonofjbpmaaa.Gf

/-
  THE PROGRAM's 'firstThere' BY CONTRACT.
-/

namespace Go.Proofs.Ytchfonofjbpmaaa.Gf
set_option linter.unusedVariables false
set_option linter.unusedSimpArgs false
open Go.RowKit

theorem info_int : (Try.prog.info? 3).map (fun i => (i.zero, i.size, i.bytes)) = some (some (.int .i64 0), 1, 8) := by kernel_rfl
/-- the places of the first k that are there -/
def pls7 (h : List Bool) (k : Nat) : List Nat := (thr h h.length).take k
theorem pls7_of {h : List Bool} {k r : Nat} (hr : r ≤ h.length) (e : (thr h r).length = k) : pls7 h k = thr h r := by
  obtain ⟨t, ht⟩ := thr_pre h hr
  unfold pls7
  rw [ht, ← e]; exact List.take_left
theorem pls7_all {h : List Bool} {k : Nat} (e : (thr h h.length).length ≤ k) : pls7 h k = thr h h.length := List.take_of_length_le e
theorem pls7_getD {h : List Bool} {k i : Nat} (hi : i < k) : (pls7 h k).getD i 0 = pl7 h i := by
  unfold pls7 pl7
  simp [List.getD, List.getElem?_take_of_lt hi]

set_option maxRecDepth 100000 in
set_option maxHeartbeats 2000000 in
theorem efirst_any {va : Value} {h : List Bool} {k : Nat} {w : World} (hH : RdB w va h) (hk : k ≤ 256) {x : Int} (hx : x = (k : Int)) : Calls Try.prog 48 #[va, .int .i64 x] w fun e w' => ∃ v, e = .returned v ∧ OwnI w' w.heap.size 3 v (pls7 h k) ∧ Below w.heap.size w w' := by
  subst hx
  obtain ⟨i0, hi, hz0, hz1, hz2⟩ := info_parts info_int
  obtain ⟨a, c, rfl⟩ := hH.form
  have hl := hH.len
  unfold maxLen at hl
  go_enter Try.func48, Try.ntmps48
  go_wp2_with fail
  go_step3
  go_wp2_with (at_make; go_loud (refine wpList_make_own _ rfl _ (.tmp 8) 28 rfl w.heap.size 3 i0 (.int .i64 0) 1 Try.underlying28 hi hz0 hz1 _ _ _ k rfl rfl rfl (by rw [hz2]; omega) (by unfold maxLen; omega) (Nat.le_refl _) ?_); intro w1 hown1 hgrow1)
  have HO1 : Hid (OwnI w1 w.heap.size 3 (.slice (some ⟨w.heap.size, 0, none⟩) 0 k) []) := hown1
  have HB1 : Hid (Below w.heap.size w w1) := (Below.refl _ _).grown hgrow1 (Nat.le_refl _) (fun q hq => by cases hq)
  clear hown1 hgrow1
  go_step3
  go_wp2
  go_loopw [5, 12] (fun o i wr => ∃ r : Nat, r ≤ h.length ∧ i = .int .i64 r ∧ OwnI wr w.heap.size 3 o (thr h r) ∧ Hid ((thr h r).length ≤ k) ∧ Below w.heap.size w wr) (fun _ i _ => h.length - (intOf i).toNat)
  case atStart => exact ⟨0, by omega, rfl, HO1.out, Nat.zero_le _, HB1.out⟩
  case round =>
    obtain ⟨r, hr, rfl, hO, hT, hB⟩ := hrel
    have hsz := hB.size
    clear HO1 HB1
    by_cases hlt : r < h.length
    · obtain ⟨b, off, rfl, _, c1⟩ := (hH.below hB).at hlt
      have hlt' : (r : Int) < (h.length : Int) := by omega
      obtain ⟨av, cv, rfl⟩ := hO.form
      by_cases ek : (thr h r).length = k
      · have hd : (((thr h r).length : Int) == (k : Int)) = true := by simp [ek]
        have E : Hid (pls7 h k = thr h r) := pls7_of hr ek
        clear hH ek
        go_wp2
        try rw [Exit.noGoto_ret]
        go_ret
        exact ⟨_, rfl, by rw [E.out]; exact hO, hB⟩
      · have hd : (((thr h r).length : Int) == (k : Int)) = false := by simp; omega
        have hTk : (thr h r).length < k := by have := hT.out; omega
        cases e : hb h r with
        | false =>
          rw [e] at c1
          have E : Hid (thr h (r + 1) = thr h r) := thr_no e
          clear hH ek e
          go_wp2
          go_roundw
          case rel => exact ⟨r + 1, by omega, by go_num, by rw [E.out]; exact hO, by show _ ≤ _; rw [E.out]; omega, hB⟩
          case measure => simp [intOf]; omega
        | true =>
          rw [e] at c1
          have E : Hid (thr h (r + 1) = thr h r ++ [r]) := thr_yes e
          clear hH ek e
          go_wp2_with (at_builtin; go_loud (refine wpList_append_int rfl (.tmp 24) (.tmp 26) 28 rfl w.heap.size 3 i0 Try.underlying28 hi hz0 hz1 hz2 (.slice av (thr h r).length cv) (thr h r) rfl hO r _ 1 rfl (by omega) hsz ?_); intro v' w2 hv2 hb2)
          have HO : Hid (OwnI w2 w.heap.size 3 v' (thr h (r + 1))) := by show OwnI _ _ _ _ _; rw [E.out]; exact hv2
          have HB : Hid (Below w.heap.size w w2) := hB.trans hb2
          clear hO hv2 hb2 hB c1
          go_wp2
          go_roundw
          case rel => exact ⟨r + 1, by omega, by go_num, HO.out, by show _ ≤ _; rw [E.out, List.length_append]; exact hTk, HB.out⟩
          case measure => simp [intOf]; omega
    · have e : r = h.length := by omega
      subst e
      have E : Hid (pls7 h k = thr h h.length) := pls7_all hT.out
      have hge : ¬ (h.length : Int) < (h.length : Int) := by omega
      clear hH
      go_wp2
      try rw [Exit.noGoto_ret]
      go_ret
      exact ⟨_, rfl, by rw [E.out]; exact hO, hB⟩

end Go.Proofs.Ytchfonofjbpmaaa.Gf

/-
  THE DOCUMENT's ANSWER FOR LAYER 7 (package aumbryref07) BY CONTRACT: 'there'.
-/


namespace Go.Proofs.Ytchfonofjbpmaaa.Gf
set_option linter.unusedVariables false
set_option linter.unusedSimpArgs false
open Go.RowKit

theorem OwnI.drewN {w : World} {base e : Nat} {v : Value} {zs : List Nat} (h : OwnI w base e v zs) (n : Nat) : OwnI (w.drewN n) base e v zs := h
/-- of the first r those that are there are of one length -/
def EvenR (h : List Bool) (L : List (List UInt8)) (r : Nat) : Prop := ∀ i j, i < r → j < r → hb h i = true → hb h j = true → (ro L i).length = (ro L j).length
theorem EvenR.all {h : List Bool} {L : List (List UInt8)} (e : EvenR h L h.length) : EvenH h L := fun i j hi hj => e i j (pl7_at hi).1 (pl7_at hj).1 hi hj
theorem EvenR.no {h : List Bool} {L : List (List UInt8)} {r : Nat} (e : EvenR h L r) (hr : hb h r = false) : EvenR h L (r + 1) := fun i j hi hj h1 h2 => by
  refine e i j ?_ ?_ h1 h2
  · rcases Nat.lt_or_ge i r with q | q
    · exact q
    · rw [show i = r by omega, hr] at h1; cases h1
  · rcases Nat.lt_or_ge j r with q | q
    · exact q
    · rw [show j = r by omega, hr] at h2; cases h2
theorem thr_first {h : List Bool} {r : Nat} (h0 : 0 < (thr h r).length) : (thr h r).getD 0 0 < r ∧ hb h ((thr h r).getD 0 0) = true := by
  have : (thr h r).getD 0 0 = (thr h r)[0] := by simp [List.getD, h0]
  rw [this]; exact thr_mem (List.getElem_mem _)
theorem EvenR.yes {h : List Bool} {L : List (List UInt8)} {r : Nat} (e : EvenR h L r) (h0 : 0 < (thr h r).length) (hl : (ro L ((thr h r).getD 0 0)).length = (ro L r).length) : EvenR h L (r + 1) := by
  have key : ∀ i, i < r + 1 → hb h i = true → (ro L i).length = (ro L r).length := fun i hi h1 => by
    rcases Nat.lt_or_ge i r with q | q
    · rw [← hl]; exact e i _ q (thr_first h0).1 h1 (thr_first h0).2
    · rw [show i = r by omega]
  exact fun i j hi hj h1 h2 => (key i hi h1).trans (key j hj h2).symm
theorem EvenR.one {h : List Bool} {L : List (List UInt8)} {r : Nat} (h0 : (thr h r).length = 0) : EvenR h L (r + 1) := by
  have key : ∀ i, i < r + 1 → hb h i = true → i = r := fun i hi h1 => by
    rcases Nat.lt_or_ge i r with q | q
    · have h2 := thr_mono (h := h) (show i + 1 ≤ r by omega)
      rw [thr_yes h1, List.length_append] at h2
      simp at h2
      omega
    · omega
  exact fun i j hi hj h1 h2 => by rw [key i hi h1, key j hj h2]

set_option maxRecDepth 100000 in
set_option maxHeartbeats 2000000 in
theorem rthere_any {va vb : Value} {h : List Bool} {L : List (List UInt8)} {w : World} (hH : RdB w va h) (hL : Rs w vb L) (hlen : h.length = L.length) (hl3 : h.length ≤ 300) :
    Calls Try.prog 93 #[va, vb] w fun e w' => (EvenH h L ∧ ∃ v, e = .returned (.tuple #[v, .bool true]) ∧ OwnI w' w.heap.size 3 v (thr h h.length) ∧ Below w.heap.size w w') ∨ (¬ EvenH h L ∧ e = .returned (.tuple #[.slice none 0 0, .bool false]) ∧ Below w.heap.size w w') := by
  obtain ⟨i0, hi, hz0, hz1, hz2⟩ := info_parts info_int
  obtain ⟨a, c, rfl⟩ := hH.form
  obtain ⟨a', c', rfl⟩ := hL.form
  have hlen' : Hid (h.length = L.length) := hlen
  clear hlen
  go_enter Try.func93, Try.ntmps93
  go_wp2
  go_loopw [6, 7] (fun o i wr => ∃ r : Nat, r ≤ h.length ∧ i = .int .i64 (r : Int) ∧ OwnI wr w.heap.size 3 o (thr h r) ∧ Hid (EvenR h L r) ∧ Below w.heap.size w wr) (fun _ i _ => h.length - (intOf i).toNat)
  case atStart => exact ⟨0, by omega, rfl, OwnI.nil _ _ _, fun i j hi => by omega, Below.refl _ _⟩
  case round =>
    obtain ⟨r, hr, rfl, hO, hE, hB⟩ := hrel
    have hsz := hB.size
    have hq := thr_len h r
    by_cases hlt : r < h.length
    · have hltL : r < L.length := by have := hlen'.out; omega
      obtain ⟨b, off, rfl, _, c1⟩ := (hH.below hB).at hlt
      obtain ⟨b', off', xa, xc, rfl, _, c2, _⟩ := (hL.below hB).at hltL
      have hlt' : (r : Int) < (h.length : Int) := by omega
      have hltL' : (r : Int) < (L.length : Int) := by omega
      obtain ⟨av, cv, rfl⟩ := hO.form
      cases e : hb h r with
      | false =>
        rw [e] at c1
        have E : Hid (thr h (r + 1) = thr h r) := thr_no e
        have E2 : Hid (EvenR h L (r + 1)) := hE.out.no e
        clear hH hL e hE
        go_wp2
        go_roundw
        case rel => exact ⟨r + 1, by omega, by go_num, by rw [E.out]; exact hO, E2, hB⟩
        case measure => simp [intOf]; omega
      | true =>
        rw [e] at c1
        have E : Hid (thr h (r + 1) = thr h r ++ [r]) := thr_yes e
        by_cases h0 : (thr h r).length = 0
        · have E2 : Hid (EvenR h L (r + 1)) := EvenR.one h0
          have hz : Hid (thr h r = []) := List.length_eq_zero_iff.1 h0
          rw [hz.out] at hO ⊢
          clear hH hL e hE h0 hq
          go_wp2_with fail
          go_quiet (fail)
          go_wp2_with (at_builtin; go_loud (refine wpList_append_int rfl (.tmp 36) (.tmp 38) 28 rfl w.heap.size 3 i0 Try.underlying28 hi hz0 hz1 hz2 (.slice av 0 cv) [] rfl (hO.drewN _) r _ 1 rfl (by simp) hsz ?_); intro v' w2 hv2 hb2)
          have HO : Hid (OwnI w2 w.heap.size 3 v' (thr h (r + 1))) := by show OwnI _ _ _ _ _; rw [E.out, hz.out]; exact hv2
          have HB : Hid (Below w.heap.size w w2) := (hB.drewN _).trans hb2
          clear hO hv2 hb2 hB c1
          go_wp2
          go_roundw
          case rel => exact ⟨r + 1, by omega, by go_num, HO.out, E2, HB.out⟩
          case measure => simp [intOf]; omega
        · have hpos : 0 < (thr h r).length := by omega
          have hpos' : (((thr h r).length : Nat) : Int) > 0 := by omega
          have hpos2 : (0 : Int) < (((thr h r).length : Nat) : Int) := by omega
          obtain ⟨g, rfl, hg, _, cg⟩ := hO.cell hpos
          have ht := thr_first hpos
          obtain ⟨t0, ht0⟩ : ∃ t0, Hid (t0 = (thr h r).getD 0 0) := ⟨_, rfl⟩
          have hY := hE.out.yes hpos
          rw [← ht0.out] at cg ht hY
          have htL : t0 < L.length := by omega
          have htL' : (t0 : Int) < (L.length : Int) := by omega
          obtain ⟨ya, yc, c3, _⟩ := (hL.below hB).get htL
          by_cases hl : (ro L t0).length = (ro L r).length
          · have hn : (((ro L t0).length : Int) != ((ro L r).length : Int)) = false := by simp [hl]
            have E2 : Hid (EvenR h L (r + 1)) := hY hl
            clear hH hL e hE h0 hl hY
            go_wp2_with fail
            go_quiet (fail)
            go_wp2_with (at_builtin; go_loud (refine wpList_append_int rfl (.tmp 36) (.tmp 38) 28 rfl w.heap.size 3 i0 Try.underlying28 hi hz0 hz1 hz2 (.slice (some ⟨g, 0, none⟩) (thr h r).length cv) (thr h r) rfl (hO.drewN _) r _ 1 rfl (by omega) hsz ?_); intro v' w2 hv2 hb2)
            have HO : Hid (OwnI w2 w.heap.size 3 v' (thr h (r + 1))) := by show OwnI _ _ _ _ _; rw [E.out]; exact hv2
            have HB : Hid (Below w.heap.size w w2) := (hB.drewN _).trans hb2
            clear hO hv2 hb2 hB c1 c2 c3 cg hn
            go_wp2
            go_roundw
            case rel => exact ⟨r + 1, by omega, by go_num, HO.out, E2, HB.out⟩
            case measure => simp [intOf]; omega
          · have hn : (((ro L t0).length : Int) != ((ro L r).length : Int)) = true := by simp; omega
            have E2 : Hid (¬ EvenH h L) := fun q => hl (q t0 r ht.2 e)
            clear hH hL e hE h0 hl hY
            go_wp2_with fail
            go_quiet (fail)
            go_wp2
            exact bodyPost_ret (v := .tuple #[.slice none 0 0, .bool false]) (by simp [results, Try.results93, go_sem]) rfl (Or.inr ⟨E2.out, rfl, hB.drewN _⟩)
    · have e : r = h.length := by omega
      subst e
      have hge : ¬ (h.length : Int) < (h.length : Int) := by omega
      have E2 : Hid (EvenH h L) := hE.out.all
      obtain ⟨av, cv, rfl⟩ := hO.form
      clear hH hL hE
      go_wp2
      exact bodyPost_ret (v := .tuple #[.slice av (thr h h.length).length cv, .bool true]) (by simp [results, Try.results93, go_sem]) rfl (Or.inl ⟨E2.out, _, rfl, hO, hB⟩)

end Go.Proofs.Ytchfonofjbpmaaa.Gf

/-
  THE DOCUMENT's ANSWER FOR LAYER 10 (package aumbryref10) BY CONTRACT: 'count', 'differs'.
-/

namespace Go.Proofs.Ytchfonofjbpmaaa.Gf
set_option linter.unusedVariables false
set_option linter.unusedSimpArgs false
open Go.RowKit

set_option maxRecDepth 100000 in
set_option maxHeartbeats 1000000 in
theorem rcnt_any {va : Value} {h : List Bool} {w : World} (hH : RdB w va h) : Calls Try.prog 32 #[va] w fun e w' => e = .returned (.int .i64 ((cnt (hb h) h.length : Nat) : Int)) ∧ w' = w := by
  obtain ⟨a, c, rfl⟩ := hH.form
  have hl := hH.len
  unfold maxLen at hl
  go_enter Try.func32, Try.ntmps32
  go_wp2
  go_loop [3, 4] (fun x i => ∃ k : Nat, k ≤ h.length ∧ i = .int .i64 k ∧ x = .int .i64 ((cnt (hb h) k : Nat) : Int)) (fun _ i => h.length - (intOf i).toNat)
  case atStart => exact ⟨0, by omega, rfl, rfl⟩
  case round =>
    obtain ⟨k, hk, rfl, rfl⟩ := hrel
    have hq := cnt_le (hb h) k
    by_cases hlt : k < h.length
    · obtain ⟨b, off, rfl, _, c1⟩ := hH.at hlt
      have hlt' : (k : Int) < (h.length : Int) := by omega
      cases e : hb h k with
      | false =>
        rw [e] at c1
        have E : Hid (cnt (hb h) (k + 1) = cnt (hb h) k) := by show _ = _; rw [cnt, e]; rfl
        clear hH e
        go_wp2
        go_round
        case rel => exact ⟨k + 1, by omega, by go_num, by rw [E.out]⟩
        case measure => simp [intOf]; omega
      | true =>
        rw [e] at c1
        have E : Hid (cnt (hb h) (k + 1) = cnt (hb h) k + 1) := by show _ = _; rw [cnt, e]; rfl
        have gw : IntKind.i64.wrap (((cnt (hb h) k : Nat) : Int) + 1) = ((cnt (hb h) k : Nat) : Int) + 1 := by rw [IntKind.wrap_i64]; omega
        clear hH e
        go_wp2
        go_round
        case rel => exact ⟨k + 1, by omega, by go_num, by rw [E.out]; go_num⟩
        case measure => simp [intOf]; omega
    · have e : k = h.length := by omega
      subst e
      have hge : ¬ (h.length : Int) < (h.length : Int) := by omega
      clear hH
      go_wp2
      go_ret
      exact ⟨rfl, rfl⟩

set_option maxRecDepth 100000 in
set_option maxHeartbeats 2000000 in
theorem rdif_any {va vb vm : Value} {p q : List UInt8} {ms : List Bool} {w : World} (hp : Rd w va p) (hq : Rd w vb q) (hm : RdB w vm ms) (hl : q.length = p.length) (hl2 : ms.length = p.length) (hl3 : p.length ≤ 300) :
    Calls Try.prog 64 #[va, vb, vm] w fun e w' => ∃ v, e = .returned v ∧ OwnI w' w.heap.size 3 v (plc (wrg (co q) (co p) (hb ms)) p.length) ∧ Below w.heap.size w w' := by
  obtain ⟨i0, hi, hz0, hz1, hz2⟩ := info_parts info_int
  obtain ⟨a1, c1, rfl⟩ := hp.form
  obtain ⟨a2, c2, rfl⟩ := hq.form
  obtain ⟨a3, c3, rfl⟩ := hm.form
  have hl' : Hid _ := hl
  have hl2' : Hid _ := hl2
  clear hl hl2
  go_enter Try.func64, Try.ntmps64
  go_wp2
  go_loopw [7, 8] (fun o i wr => ∃ r : Nat, r ≤ p.length ∧ i = .int .i64 (r : Int) ∧ OwnI wr w.heap.size 3 o (plc (wrg (co q) (co p) (hb ms)) r) ∧ Below w.heap.size w wr) (fun _ i _ => p.length - (intOf i).toNat)
  case atStart => exact ⟨0, by omega, rfl, OwnI.nil _ _ _, Below.refl _ _⟩
  case round =>
    obtain ⟨r, hr, rfl, hO, hB⟩ := hrel
    have hsz := hB.size
    have hn := cnt_le (wrg (co q) (co p) (hb ms)) r
    rw [← plc_length] at hn
    obtain ⟨av, cv, rfl⟩ := hO.form
    by_cases hlt : r < p.length
    · obtain ⟨b1, o1, rfl, _, k1⟩ := (hp.below hB).byte hlt
      obtain ⟨b2, o2, rfl, _, k2⟩ := (hq.below hB).byte (show r < q.length by have := hl'.out; omega)
      obtain ⟨b3, o3, rfl, _, k3⟩ := (hm.below hB).at (show r < ms.length by have := hl2'.out; omega)
      have hlt' : (r : Int) < (p.length : Int) := by omega
      have hlt2 : (r : Int) < (q.length : Int) := by have := hl'.out; omega
      have hlt3 : (r : Int) < (ms.length : Int) := by have := hl2'.out; omega
      have E := plc_succ (wrg (co q) (co p) (hb ms)) r
      cases e : wrg (co q) (co p) (hb ms) r with
      | false =>
        rw [e] at E
        have E' : Hid (plc (wrg (co q) (co p) (hb ms)) (r + 1) = plc (wrg (co q) (co p) (hb ms)) r) := by show _ = _; rw [E]; simp
        have hw : hb ms r = true ∨ (hb ms r = false ∧ co p r = co q r) := by
          unfold wrg at e
          cases hm2 : hb ms r
          · rw [hm2] at e; simp at e; exact Or.inr ⟨rfl, e⟩
          · exact Or.inl rfl
        clear hp hq hm E e
        rcases hw with hw | ⟨hw, hw2⟩
        · rw [hw] at k3
          clear hw
          go_wp2_with fail
          go_quiet (fail)
          go_wp2
          go_roundw
          case rel => exact ⟨r + 1, by omega, by go_num, by rw [E'.out]; exact hO.drewN _, hB.drewN _⟩
          case measure => simp [intOf]; omega
        · rw [hw] at k3
          rw [hw2] at k1
          clear hw hw2
          go_wp2_with fail
          go_quiet (fail)
          go_wp2
          go_roundw
          case rel => exact ⟨r + 1, by omega, by go_num, by rw [E'.out]; exact hO.drewN _, hB.drewN _⟩
          case measure => simp [intOf]; omega
      | true =>
        rw [e] at E
        have E' : Hid (plc (wrg (co q) (co p) (hb ms)) (r + 1) = plc (wrg (co q) (co p) (hb ms)) r ++ [r]) := E
        have hw : hb ms r = false ∧ co p r ≠ co q r := by
          unfold wrg at e
          simpa using e
        have hne : ((((co p r).toNat : Nat) : Int) != (((co q r).toNat : Nat) : Int)) = true := by rw [ne_u8]; simp [hw.2]
        rw [hw.1] at k3
        clear hp hq hm E e hw
        go_wp2_with fail
        go_quiet (fail)
        go_wp2_with (at_builtin; go_loud (refine wpList_append_int rfl (.tmp 31) (.tmp 33) 28 rfl w.heap.size 3 i0 Try.underlying28 hi hz0 hz1 hz2 (.slice av (plc (wrg (co q) (co p) (hb ms)) r).length cv) (plc (wrg (co q) (co p) (hb ms)) r) rfl (hO.drewN _) r _ 1 rfl (by omega) hsz ?_); intro v' w2 hv2 hb2)
        have HO : Hid (OwnI w2 w.heap.size 3 v' (plc (wrg (co q) (co p) (hb ms)) (r + 1))) := by show OwnI _ _ _ _ _; rw [E'.out]; exact hv2
        have HB : Hid (Below w.heap.size w w2) := (hB.drewN _).trans hb2
        clear hO hv2 hb2 hB k1 k2 k3 hne
        go_wp2
        go_roundw
        case rel => exact ⟨r + 1, by omega, by go_num, HO.out, HB.out⟩
        case measure => simp [intOf]; omega
    · have e : r = p.length := by omega
      subst e
      have hge : ¬ (p.length : Int) < (p.length : Int) := by omega
      clear hp hq hm
      go_wp2
      go_ret
      exact ⟨_, rfl, hO, hB⟩

end Go.Proofs.Ytchfonofjbpmaaa.Gf

/-
  THE DOCUMENT's ANSWER FOR LAYER 10 (package aumbryref10) BY CONTRACT: 'next'.
-/

namespace Go.Proofs.Ytchfonofjbpmaaa.Gf
set_option linter.unusedVariables false
set_option linter.unusedSimpArgs false
open Go.RowKit

/-- 'append(s, p...)', both places of a call's own -/
theorem wpList_append_ints {P : Program} (w : World) {ops : Array Oper} {rest : List Oper} {o : Oper} {a : Act} {Q : Exit → Act → World → Prop} (hgd : o.guard = none) (s x : Operand) (t : TypeId)
    (ho : o.op = .call { callee := .builtin .append, args := #[s, x], argTypes := #[t, t] })
    (base e : Nat) (i : TypeInfo) (ht : P.underlying t = some (.slice e)) (hi : P.info? e = some i) (hz : i.zero = some (.int .i64 0)) (hsize : i.size = 1) (hby : i.bytes = 8)
    (v : Value) (zs : List Nat) (hs : a.eval s = v) (hown : OwnI w base e v zs) (va : Value) (ys : List Nat) (b' e' : Nat) (hx : a.eval x = va) (hr : OwnI w b' e' va ys) (hl : zs.length + ys.length ≤ 100000) (hbase : base ≤ w.heap.size)
    (h : ∀ v' w', OwnI w' base e v' (zs ++ ys) → w.grownBy w' v.ownBlock → wpList P ops Q rest (a.put o.dst v') w') : wpList P ops Q (o :: rest) a w := by
  have hr' := hr
  obtain ⟨hlen, ⟨rfl, hn⟩ | ⟨g, cap, cur, rfl, hg, hh, hc, hm, hsz, ht2⟩⟩ := hr
  · refine wpList_append_own_none hgd s x t ho base e i 1 ht hi v zs.length (zs.map vi) hs hown hx ?_
    have : ys = [] := List.length_eq_zero_iff.1 hn
    subst this
    exact h v w (by simpa using hown) (World.grownBy.refl _ _)
  · refine wpList_append_own w hgd s x t ho base e i (.int .i64 0) 1 8 ht hi hz hsize hby rfl (by decide) v zs.length (zs.map vi) hs hown ⟨g, 0, none⟩ ys.length cap (ys.map vi) hx (by simp) (fun j u hj => ?_) (by intro u hu; obtain ⟨z, _, rfl⟩ := List.mem_map.1 hu; rfl) (by unfold maxLen; omega) (by omega) hbase ?_
    · rw [add_at, Nat.zero_add]
      have hj2 : j < ys.length := by
        rw [List.getElem?_map] at hj
        by_cases q : j < ys.length
        · exact q
        · rw [List.getElem?_eq_none (by omega)] at hj; cases hj
      rw [World.ownsRow.cellAt hr' j (by omega), hj]
    · intro v' w' ho' hg' _
      refine h v' w' ?_ hg'
      unfold OwnI
      rw [List.length_append, List.map_append]
      exact ho'

set_option maxRecDepth 100000 in
set_option maxHeartbeats 2000000 in
theorem rnext_any {vs : Value} {g : Nat → Nat} {t n B E : Nat} {w : World} (hs : OwnI w B E vs (stL g t)) (hI : Inc n t g) (hn : n ≤ 300) (ht : t ≤ 300) {x : Int} (hx : x = (n : Int)) :
    Calls Try.prog 34 #[vs, .int .i64 x] w fun e w' => Below w.heap.size w w' ∧
      ((∃ i, i < t ∧ g i + t < n + i ∧ (∀ j, i < j → j < t → g j + t = n + j) ∧ ∃ v, e = .returned (.tuple #[v, .bool true]) ∧ OwnI w' w.heap.size 3 v (stL (nxF g i) t)) ∨
       ((∀ j, j < t → g j + t = n + j) ∧ e = .returned (.tuple #[.slice none 0 0, .bool false]))) := by
  obtain ⟨i0, hi, hz0, hz1, hz2⟩ := info_parts info_int
  subst hx
  have hlt : Hid _ := stL_length g t
  obtain ⟨a1, c1, e1⟩ := hs.form
  rw [hlt.out] at e1
  subst e1
  go_enter Try.func34, Try.ntmps34
  have hE : OwnI (w.alloc (.cells #[] 3)) w.heap.size 3 (.slice (some ⟨w.heap.size, 0, none⟩) 0 0) [] := World.ownsRow_lit w #[] 0 (Nat.le_refl _) (by unfold maxLen; omega) rfl
  have hs1 : OwnI (w.alloc (.cells #[] 3)) B E (.slice a1 t c1) (stL g t) := hs.later ((Below.refl _ _).alloc (Nat.le_refl _) _)
  go_wp2_with (at_builtin; go_loud (refine wpList_append_ints _ rfl (.tmp 9) (.tmp 10) 28 rfl w.heap.size 3 i0 Try.underlying28 hi hz0 hz1 hz2 (.slice (some ⟨w.heap.size, 0, none⟩) 0 0) [] rfl hE (.slice a1 t c1) (stL g t) B E rfl hs1 (by rw [hlt.out]; simp; omega) (by simp) ?_); intro v1 w1 hO hg; rw [List.nil_append] at hO; obtain ⟨a2, c2, e2⟩ := hO.form; rw [hlt.out] at e2; subst e2)
  have hB : Below w.heap.size w w1 := ((Below.refl _ _).alloc (Nat.le_refl _) _).grown hg (by simp) (fun q hq => by cases hq; exact Nat.le_refl _)
  clear hE hs1 hs hg
  have hI' : Hid _ := hI
  clear hI
  go_loop [7] (fun i => ∃ r : Nat, r ≤ t ∧ i = .int .i64 ((r : Int) - 1) ∧ Hid (∀ j, r ≤ j → j < t → g j + t = n + j)) (fun i => (intOf i + 1).toNat)
  case atStart => exact ⟨t, Nat.le_refl _, rfl, fun j h1 h2 => by omega⟩
  case round =>
    obtain ⟨r, hr, rfl, hT⟩ := hrel
    by_cases h0 : r = 0
    · subst h0
      have H : Hid (∀ j, j < t → g j + t = n + j) := fun j hj => hT.out j (Nat.zero_le _) hj
      clear hT hO
      go_wp2
      exact bodyPost_ret (v := .tuple #[.slice none 0 0, .bool false]) (by simp [results, Try.results34, go_sem]) rfl ⟨hB, Or.inr ⟨H.out, rfl⟩⟩
    · obtain ⟨i, rfl⟩ : ∃ i, r = i + 1 := ⟨r - 1, by omega⟩
      have ei : ((i + 1 : Nat) : Int) - 1 = (i : Int) := by omega
      rw [ei]
      have hit : i < t := by omega
      obtain ⟨G, rfl, G1, G2, k1⟩ := hO.cell (i := i) (by rw [hlt.out]; exact hit)
      rw [stL_getD hit] at k1
      have hmx := hI'.out.max hit
      have hlt2 : (i : Int) < (t : Int) := by omega
      by_cases hc : g i + t < n + i
      · have hc' : ((g i : Nat) : Int) < (n : Int) - (t : Int) + (i : Int) := by omega
        have hfr := hO.free i
        obtain ⟨wq, hwq⟩ : ∃ wq, wq = w1.setCell ⟨G, i, none⟩ (.int .i64 ((g i : Int) + 1)) := ⟨_, rfl⟩
        have HO : Hid (OwnI wq w.heap.size 3 (.slice (some ⟨G, 0, none⟩) t c2) (stL (fun j => if j < i + 1 then nxF g i j else g j) t)) := by
          show OwnI _ _ _ _ _
          have := hO.store i (g i + 1)
          rw [stL_set (g' := fun j => if j < i + 1 then nxF g i j else g j) hit (fun j hj => ?_)] at this
          · rw [hwq]; exact_mod_cast this
          · unfold nxF
            by_cases q : j = i
            · subst q; simp
            · by_cases q2 : j < i
              · rw [if_pos (by omega), if_pos q2, if_neg q]
              · rw [if_neg (by omega), if_neg q]
        have HB : Hid (Below w.heap.size w wq) := by show Below _ _ _; rw [hwq]; exact hB.setCell (p := ⟨G, i, none⟩) G2 _
        have hgi : g i ≤ 300 := by omega
        have HN : Hid (∀ j, i < j → j < t → g j + t = n + j) := fun j h1 h2 => hT.out j (by omega) h2
        have hcc : Hid _ := hc
        clear hT hO hB hc
        go_wp2_with fail
        rw [← hwq]
        clear hwq k1 hfr
        go_loopw [8] (fun kk wz => ∃ q : Nat, i + 1 ≤ q ∧ q ≤ t ∧ kk = .int .i64 (q : Int) ∧ OwnI wz w.heap.size 3 (.slice (some ⟨G, 0, none⟩) t c2) (stL (fun j => if j < q then nxF g i j else g j) t) ∧ Below w.heap.size w wz) (fun kk _ => t - (intOf kk).toNat)
        case atStart => exact ⟨i + 1, Nat.le_refl _, by omega, by go_num, HO.out, HB.out⟩
        case round =>
          obtain ⟨q, hq1, hq2, rfl, hO, hB⟩ := hrel
          clear HO HB
          by_cases hqt : q < t
          · have hqt' : (q : Int) < (t : Int) := by omega
            obtain ⟨p, rfl⟩ : ∃ p, q = p + 1 := ⟨q - 1, by omega⟩
            obtain ⟨_, e3, _, _, k1⟩ := hO.cell (i := p) (by rw [stL_length]; omega)
            obtain ⟨_, e4, _, _, k2⟩ := hO.cell (i := p + 1) (by rw [stL_length]; omega)
            simp at e3 e4
            subst e3 e4
            rw [stL_getD (by omega), if_pos (by omega)] at k1
            have hfr := hO.free (p + 1)
            have hv : nxF g i (p + 1) = nxF g i p + 1 := by unfold nxF; rw [if_neg (by omega)]; split <;> omega
            have hb1 : nxF g i p ≤ 1000 := by unfold nxF; rw [if_neg (by omega)]; omega
            obtain ⟨wz2, hwz⟩ : ∃ wz2, wz2 = wr.setCell ⟨G, p + 1, none⟩ (.int .i64 ((nxF g i p : Int) + 1)) := ⟨_, rfl⟩
            have HO : Hid (OwnI wz2 w.heap.size 3 (.slice (some ⟨G, 0, none⟩) t c2) (stL (fun j => if j < p + 1 + 1 then nxF g i j else g j) t)) := by
              show OwnI _ _ _ _ _
              have := hO.store (p + 1) (nxF g i p + 1)
              rw [stL_set (g' := fun j => if j < p + 1 + 1 then nxF g i j else g j) hqt (fun j hj => ?_)] at this
              · rw [hwz]; exact_mod_cast this
              · by_cases q3 : j = p + 1
                · subst q3; rw [if_pos (by omega), if_pos rfl, hv]
                · by_cases q4 : j < p + 1
                  · rw [if_pos (by omega), if_neg q3, if_pos q4]
                  · rw [if_neg (by omega), if_neg q3, if_neg q4]
            have HB : Hid (Below w.heap.size w wz2) := by show Below _ _ _; rw [hwz]; exact hB.setCell (p := ⟨G, p + 1, none⟩) G2 _
            generalize nxF g i p = y at *
            generalize (stL (fun j => if j < p + 1 then nxF g i j else g j) t).getD (p + 1) 0 = y2 at k2
            have e5 : ((p + 1 : Nat) : Int) - 1 = (p : Int) := by omega
            have e6 : (p : Int) < (t : Int) := by omega
            clear hO hB hv
            go_wp2_with fail
            rw [← hwz]
            go_roundw
            case rel => exact ⟨p + 1 + 1, by omega, by omega, by go_num, HO.out, HB.out⟩
            case measure => simp [intOf]; omega
          · have e : q = t := by omega
            subst e
            have hge : ¬ (q : Int) < (q : Int) := by omega
            have HE : Hid (OwnI wr w.heap.size 3 (.slice (some ⟨G, 0, none⟩) q c2) (stL (nxF g i) q)) := by
              show OwnI _ _ _ _ _
              rw [← stL_eqs (g := fun j => if j < q then nxF g i j else g j) (fun j hj => if_pos hj)]
              exact hO
            clear hO
            go_wp2
            exact bodyPost_ret (v := .tuple #[.slice (some ⟨G, 0, none⟩) q c2, .bool true]) (by simp [results, Try.results34, go_sem]) rfl ⟨hB, Or.inl ⟨i, hit, hcc.out, HN.out, _, rfl, HE.out⟩⟩
      · have hc' : ¬ ((g i : Nat) : Int) < (n : Int) - (t : Int) + (i : Int) := by omega
        have H : Hid (∀ j, i ≤ j → j < t → g j + t = n + j) := fun j h1 h2 => by
          by_cases q : j = i
          · rw [q]; omega
          · exact hT.out j (by omega) h2
        clear hT hO
        go_wp2
        go_round
        case rel => exact ⟨i, by omega, by go_num, H⟩
        case measure => simp [intOf]

end Go.Proofs.Ytchfonofjbpmaaa.Gf

/-
  'slices.Grow', 'slices.Concat' (of places) AND 'bytes.Clone' BY CONTRACT.
-/


namespace Go.Proofs.Ytchfonofjbpmaaa.Gf
set_option linter.unusedVariables false
set_option linter.unusedSimpArgs false
open Go.RowKit

theorem zeroCells_int (k : Nat) : Builtin.zeroCells #[Value.int .i64 0] k = (List.replicate k (Value.int .i64 0)).toArray := by
  apply Array.ext'
  unfold Builtin.zeroCells
  simp only [Array.toList_map, Array.toList_range]
  refine List.ext_getElem (by simp) fun i h1 h2 => ?_
  simp [Nat.mod_one]

set_option maxRecDepth 100000 in
set_option maxHeartbeats 2000000 in
theorem grow_any {n : Nat} {w : World} (hl : n ≤ 1000) {x : Int} (hx : x = (n : Int)) : Calls Try.prog 91 #[.slice none 0 0, .int .i64 x] w fun e w' => ∃ v, e = .returned v ∧ OwnI w' w.heap.size 3 v [] ∧ Below w.heap.size w w' := by
  subst hx
  have hb8 : Try.t3.bytes = 8 := by kernel_rfl
  have h1 : ¬ (281474976710656 : Int) < (n : Int) * (Try.t3.bytes : Int) := by
    have : ∀ q : Nat, q = 8 → ¬ (281474976710656 : Int) < (n : Int) * (q : Int) := fun q hq => by subst hq; omega
    exact this _ hb8
  have hnn : ¬ (n : Int) < 0 := by omega
  by_cases h0 : n = 0
  · subst h0
    clear hb8
    go_enter Try.func91, Try.ntmps91
    go_wp2
    go_ret
    exact ⟨_, rfl, OwnI.nil _ _ _, Below.refl _ _⟩
  · have hpos : 0 < n := by omega
    have h2 : ¬ (281474976710656 : Nat) < Builtin.nextslicecap n 0 * Try.t3.bytes := by
      have h3 := growslice_fits (need := n) (old := 0) (bytes := 8) (by omega) (by omega)
      have : ∀ q : Nat, q = 8 → ¬ (281474976710656 : Nat) < Builtin.nextslicecap n 0 * q := fun q hq => by subst hq; omega
      exact this _ hb8
    clear hb8
    have hge := grownCap_ge w n 0 3
    have hle := grownCap_le_maxLen w n 0 3 (by unfold maxLen; omega)
    unfold grownCap at hge hle
    go_enter Try.func91, Try.ntmps91
    go_wp2
    all_goals try omega
    go_ret
    refine ⟨_, rfl, ⟨rfl, .inr ⟨w.heap.size, _, _, rfl, Nat.le_refl _, heap_alloc_new w _, Nat.zero_le _, hle, ?_, rfl⟩⟩, ?_⟩
    · rw [zeroCells_int, zeroCells_int]
      simp
      omega
    · exact ((Below.refl _ _).alloc (Nat.le_refl _) _).drew

def catF (zs ys : List Nat) (r : Nat) : List Nat := if r = 0 then [] else if r = 1 then zs else zs ++ ys
def szF (a N r : Nat) : Nat := if r = 0 then 0 else if r = 1 then a else N

set_option maxRecDepth 100000 in
set_option maxHeartbeats 2000000 in
theorem ccat_any {w : World} {b b1 b2 e1 e2 : Nat} {v1 v2 : Value} {zs ys : List Nat} (k1 : w.cell? ⟨b, 0, none⟩ = some v1) (k2 : w.cell? ⟨b, 1, none⟩ = some v2) (hb : b < w.heap.size) (h1 : OwnI w b1 e1 v1 zs) (h2 : OwnI w b2 e2 v2 ys) (hl : zs.length ≤ 300) (hl2 : ys.length ≤ 300) :
    Calls Try.prog 61 #[.slice (some ⟨b, 0, none⟩) 2 2] w fun e w' => ∃ v, e = .returned v ∧ OwnI w' w.heap.size 3 v (zs ++ ys) ∧ Below w.heap.size w w' := by
  obtain ⟨i0, hi, hz0, hz1, hz2⟩ := info_parts info_int10
  obtain ⟨a1, c1, rfl⟩ := h1.form
  obtain ⟨a2, c2, rfl⟩ := h2.form
  have w1 : IntKind.i64.wrap ((zs.length : Int)) = (zs.length : Int) := by rw [IntKind.wrap_i64]; omega
  obtain ⟨N, hN⟩ : ∃ N, Hid (N = zs.length + ys.length) := ⟨_, rfl⟩
  have g0 : (zs.length : Int) + (ys.length : Int) = (N : Int) := by have := hN.out; omega
  have hN6 : N ≤ 600 := by have := hN.out; omega
  have w2 : IntKind.i64.wrap (N : Int) = (N : Int) := by rw [IntKind.wrap_i64]; omega
  have n1 : ¬ (zs.length : Int) < 0 := by omega
  have n2 : ¬ (N : Int) < 0 := by omega
  go_enter Try.func61, Try.ntmps61
  go_wp2_with fail
  go_loopw [3, 11] (fun s i wr => ∃ r : Nat, r ≤ 2 ∧ i = .int .i64 (r : Int) ∧ s = .int .i64 ((szF zs.length N r : Nat) : Int) ∧ wr = w) (fun _ i _ => 2 - (intOf i).toNat)
  case atStart => exact ⟨0, by omega, rfl, rfl, rfl⟩
  case round =>
    obtain ⟨r, hr, rfl, rfl, rfl⟩ := hrel
    by_cases r0 : r = 0
    · subst r0
      have E : szF zs.length N 0 = 0 := rfl
      rw [E]
      clear E h1 h2
      go_wp2
      go_roundw
      case rel => exact ⟨1, by omega, by go_num, by show _ = Value.int .i64 ((zs.length : Nat) : Int); go_num, by first | rfl | trivial⟩
      case measure => simp [intOf]
    by_cases r1 : r = 1
    · subst r1
      have E : szF zs.length N 1 = zs.length := rfl
      rw [E]
      clear E h1 h2
      go_wp2
      go_roundw
      case rel => exact ⟨2, by omega, by go_num, by show _ = Value.int .i64 ((N : Nat) : Int); go_num, by first | rfl | trivial⟩
      case measure => simp [intOf]
    · have r2 : r = 2 := by omega
      subst r2
      obtain ⟨wo, hwo⟩ : ∃ wo, wo = wr := ⟨_, rfl⟩
      subst hwo
      have E : szF zs.length N 2 = N := rfl
      rw [E]
      clear E r0 r1
      go_wp2_with fail
      refine (grow_any (n := N) (by omega) rfl).mono ?_
      rintro e u1 ⟨v, rfl, O1, B1⟩
      have k1' := (B1.cell (p := ⟨b, 0, none⟩) hb).trans k1
      have k2' := (B1.cell (p := ⟨b, 1, none⟩) hb).trans k2
      have h1' := owns_later h1 B1
      have h2' := owns_later h2 B1
      have hsz := B1.size
      obtain ⟨av, cv, rfl⟩ := O1.form
      have HB0 : Hid (Below wo.heap.size wo u1) := B1
      clear B1 h1' h2' k1' k2'
      go_wp2_with fail
      go_loopw [6, 27] (fun o i wz => ∃ r : Nat, r ≤ 2 ∧ i = .int .i64 (r : Int) ∧ OwnI wz wo.heap.size 3 o (catF zs ys r) ∧ Below wo.heap.size wo wz) (fun _ i _ => 2 - (intOf i).toNat)
      case atStart => exact ⟨0, by omega, rfl, O1, HB0.out⟩
      case round =>
        obtain ⟨r, hr, rfl, hO, hB⟩ := hrel
        clear HB0 O1
        have hsz := hB.size
        have q1 := (hB.cell (p := ⟨b, 0, none⟩) hb).trans k1
        have q2 := (hB.cell (p := ⟨b, 1, none⟩) hb).trans k2
        have p1 : OwnI wr b1 e1 (.slice a1 zs.length c1) zs := owns_later h1 hB
        have p2 : OwnI wr b2 e2 (.slice a2 ys.length c2) ys := owns_later h2 hB
        by_cases r0 : r = 0
        · subst r0
          have E : catF zs ys 0 = [] := rfl
          rw [E] at hO
          obtain ⟨av, cv, rfl⟩ := hO.form
          clear E h1 h2 k1 k2
          go_wp2_with (at_builtin; go_loud (refine wpList_append_ints _ rfl (.tmp 31) (.tmp 32) 28 rfl wo.heap.size 3 i0 Try.underlying28 hi hz0 hz1 hz2 (.slice av 0 cv) [] rfl hO (.slice a1 zs.length c1) zs b1 e1 rfl p1 (by simp; omega) hsz ?_); intro v' w9 hv9 hg9)
          have HB : Hid (Below wo.heap.size wo w9) := hB.grown hg9 hsz (fun q hq => (World.ownsRow.lt hO q hq).1)
          have HO : Hid (OwnI w9 wo.heap.size 3 v' zs) := hv9
          clear hO hv9 hB hg9 p1 p2 q1 q2
          go_wp2
          go_roundw
          case rel => exact ⟨1, by omega, by go_num, HO.out, HB.out⟩
          case measure => simp [intOf]
        by_cases r1 : r = 1
        · subst r1
          have E : catF zs ys 1 = zs := rfl
          rw [E] at hO
          obtain ⟨av, cv, rfl⟩ := hO.form
          clear E h1 h2 k1 k2
          go_wp2_with (at_builtin; go_loud (refine wpList_append_ints _ rfl (.tmp 31) (.tmp 32) 28 rfl wo.heap.size 3 i0 Try.underlying28 hi hz0 hz1 hz2 (.slice av zs.length cv) zs rfl hO (.slice a2 ys.length c2) ys b2 e2 rfl p2 (by omega) hsz ?_); intro v' w9 hv9 hg9)
          have HB : Hid (Below wo.heap.size wo w9) := hB.grown hg9 hsz (fun q hq => (World.ownsRow.lt hO q hq).1)
          have HO : Hid (OwnI w9 wo.heap.size 3 v' (zs ++ ys)) := hv9
          clear hO hv9 hB hg9 p1 p2 q1 q2
          go_wp2
          go_roundw
          case rel => exact ⟨2, by omega, by go_num, HO.out, HB.out⟩
          case measure => simp [intOf]
        · have r2 : r = 2 := by omega
          subst r2
          have E : catF zs ys 2 = zs ++ ys := rfl
          rw [E] at hO
          clear E r0 r1 h1 h2 k1 k2 p1 p2 q1 q2
          go_wp2
          try rw [Exit.noGoto_ret]
          go_ret
          exact ⟨_, rfl, hO, hB⟩

set_option maxRecDepth 100000 in
set_option maxHeartbeats 2000000 in
theorem clone_any {v : Value} {p : List UInt8} {w : World} (hp : Rd w v p) (hl : p.length ≤ 1000) (h0 : 0 < p.length) : Calls Try.prog 60 #[v] w fun e w' => ∃ g c, e = .returned (.slice (some ⟨g, 0, none⟩) p.length c) ∧ RowF w' w.heap.size 5 g p.length c (co p) ∧ Below w.heap.size w w' := by
  obtain ⟨i0, hi, hz0, hz1, hz2⟩ := info_parts info_u8
  obtain ⟨a, c, rfl⟩ := hp.form
  obtain ⟨bb, off, rfl, _, _⟩ := hp.byte h0
  have qT : ∀ (w : World) (a : Option Addr) (n c n' c' : Nat), (binOp .eql 22 (.slice a n c) (.slice none n' c')).run Try.prog w = .ok (.bool a.isNone) w := fun w a n c n' c' => Lib.run_eql_slice_nil w _ _ a n c n' c' Try.underlying22
  have B1 : Below w.heap.size w (w.alloc (.cells #[] 5)) := (Below.refl _ _).alloc (Nat.le_refl _) _
  have O1 : (w.alloc (.cells #[] 5)).ownsRow w.heap.size 5 1 (.slice (some ⟨w.heap.size, 0, none⟩) 0 0) 0 [] := ⟨rfl, .inr ⟨w.heap.size, 0, #[], rfl, Nat.le_refl _, heap_alloc_new w _, Nat.le_refl _, Nat.zero_le _, rfl, rfl⟩⟩
  have hp1 := hp.below B1
  have hsz : w.heap.size ≤ (w.alloc (.cells #[] 5)).heap.size := B1.size
  go_enter Try.func60, Try.ntmps60
  go_wp2_with (at_builtin; go_loud (refine wpList_append_rd _ rfl (.tmp 5) (.tmp 6) 22 rfl w.heap.size 5 i0 Try.underlying22 hi hz0 hz1 hz2 (.slice (some ⟨w.heap.size, 0, none⟩) 0 0) 0 [] rfl O1 (.slice (some ⟨bb, off, none⟩) p.length c) p rfl hp1 (by omega) hsz ?_); intro v' w9 hv9 hg9)
  have HB : Hid (Below w.heap.size w w9) := B1.grown hg9 hsz (fun q hq => by cases hq; exact Nat.le_refl _)
  have HO : Hid (OwnP w9 w.heap.size 5 v' p) := by
    show OwnP _ _ _ _ _
    unfold OwnP
    rw [Nat.zero_add] at hv9
    exact hv9
  clear hv9 hg9 B1 O1 hp1 hp qT
  obtain ⟨g, c9, rfl, hR⟩ := RowF.of HO.out h0
  go_wp2
  go_ret
  exact ⟨g, c9, rfl, hR, HB.out⟩

end Go.Proofs.Ytchfonofjbpmaaa.Gf

/-
  WHAT A CALL THAT TELLS A LOCATOR LEAVES. No program's function is named here.
-/

namespace Go.Proofs.Ytchfonofjbpmaaa.Gf
set_option linter.unusedVariables false
set_option linter.unusedSimpArgs false
open Go.RowKit

/-- the locator, the evaluator, the error -/
def MakesK (w : World) (s known : List UInt8) (e : Ending) (w' : World) : Prop :=
  ∃ X A O va vo, KeyAns s known X A O ∧ e = .returned (.tuple #[va, vo, .int .i64 X]) ∧ Rd w' va A ∧ Rd w' vo O ∧ Below w.heap.size w w'
theorem MakesK.mk {w w' : World} {s known A O : List UInt8} {X : Int} {va vo : Value} (h : KeyAns s known X A O) (h1 : Rd w' va A) (h2 : Rd w' vo O) (h3 : Below w.heap.size w w') : MakesK w s known (.returned (.tuple #[va, vo, .int .i64 X])) w' := ⟨X, A, O, va, vo, h, rfl, h1, h2, h3⟩
theorem rd9_nil (w : World) : Rd w (.slice none 0 0) [] := Or.inl ⟨none, 0, rfl, rfl, Nat.zero_le _, fun _ => rfl⟩
/-- What a call that answers bytes leaves. -/
def MakesV (w : World) (p : List UInt8) (e : Ending) (w' : World) : Prop := ∃ v, e = .returned v ∧ Rd w' v p ∧ Below w.heap.size w w'

/-- the first numbers, from the end on -/
def revF (s : List UInt8) (i : Nat) : UInt8 := co s (s.length - 1 - i)
theorem rev_upto (s : List UInt8) : upto (revF s) s.length = s.reverse := by
  refine co_ext (by rw [upto_length, List.length_reverse]) fun i hi => ?_
  rw [upto_length] at hi
  rw [upto, co_map_range _ hi, co_rev hi]; rfl
/-- turned number by number: the first i are laid, at the end -/
def tnF (s : List UInt8) (i j : Nat) : UInt8 := if s.length - i ≤ j then revF s j else 0
theorem tnF_zero (s : List UInt8) {j : Nat} (h : j < s.length) : tnF s 0 j = 0 := if_neg (by omega)
theorem tnF_step (s : List UInt8) {i : Nat} (h : i < s.length) (j : Nat) : tnF s (i + 1) j = if j = s.length - 1 - i then co s i else tnF s i j := by
  unfold tnF
  by_cases e : j = s.length - 1 - i
  · rw [if_pos e, if_pos (by omega)]
    unfold revF
    rw [e, show s.length - 1 - (s.length - 1 - i) = i by omega]
  · rw [if_neg e]
    by_cases h2 : s.length - i ≤ j
    · rw [if_pos h2, if_pos (by omega)]
    · rw [if_neg h2, if_neg (by omega)]
theorem tnF_all (s : List UInt8) : upto (tnF s s.length) s.length = s.reverse := by
  rw [← rev_upto]
  exact upto_congr fun j hj => if_pos (by omega)
/-- what lies behind the first m bytes -/
theorem Rd.behind {w : World} {b off n c m k : Nat} {p : List UInt8} (h : Rd w (.slice (some ⟨b, off, none⟩) n c) p) (hm : m < p.length) (hk : k = p.length - m) : Rd w (.slice (some ⟨b, off + m, none⟩) k (c - m)) (p.drop m) := by
  rcases h with ⟨a, c', e, _⟩ | ⟨b', off', c', h1, h2, h3, h4, h5, h6⟩
  · subst e; simp at hm
  · simp at h2
    obtain ⟨⟨rfl, rfl⟩, rfl, rfl⟩ := h2
    subst hk
    have hl : (p.drop m).length = p.length - m := List.length_drop
    refine Or.inr ⟨b, off + m, c - m, fun e => by rw [e] at hl; simp at hl; omega, by rw [hl], by rw [hl]; omega, by omega, h5, fun i hi => ?_⟩
    rw [hl] at hi
    have e1 : co (p.drop m) i = co p (m + i) := by unfold co; rw [List.getElem?_drop]
    rw [e1, Nat.add_assoc]
    exact h6 (m + i) (by omega)
theorem Rd.spot9 {w : World} {v : Value} {p : List UInt8} (h : Rd w v p) (h0 : 0 < p.length) : ∃ b off c, v = .slice (some ⟨b, off, none⟩) p.length c ∧ p.length ≤ c ∧ c ≤ maxLen := by
  rcases h with ⟨a, c', e, _⟩ | ⟨b', off', c', h1, h2, h3, h4, h5, h6⟩
  · subst e; simp at h0
  · exact ⟨b', off', c', h2, h3, h4⟩

end Go.Proofs.Ytchfonofjbpmaaa.Gf

/-
  PLAIN MATHEMATICS: Euclid's steps on lists: where they begin, a step by a quotient and what is left, what is told at their end. No program's function is named here.
-/

namespace Go.Proofs.Ytchfonofjbpmaaa.Gf
set_option linter.unusedVariables false
set_option linter.unusedSimpArgs false

/-- where Euclid's steps stand, as lists; e is known's degree -/
structure EuL (s known : List UInt8) (e : Nat) (r0 r1 v0 v1 : List UInt8) : Prop where
  eu : ∃ a b, Eu (keP s known) s.length (co r0) (co r1) (co v0) (co v1) a b ∧ s.length + e ≤ 2 * b ∧ v1.length = a + 1 ∧ r0.length = b + 1
  n1 : norm r1 = r1
  m1 : norm v1 = v1
theorem norm_tops {p : List UInt8} (h : norm p = p) (h0 : p.length ≠ 0) : co p (p.length - 1) ≠ 0 := by
  have hl : p.length = deg (co p) p.length := by
    have := congrArg List.length h
    unfold norm at this
    rw [mk_length] at this
    exact this.symm
  have := deg_top (co p) p.length (by rw [← hl]; exact h0)
  rwa [← hl] at this
theorem norm_of_top {p : List UInt8} (h : p.length ≠ 0 → co p (p.length - 1) ≠ 0) : norm p = p := by
  have hd : deg (co p) p.length = p.length := deg_unique (co_fin p) (co_fin p) h
  refine co_ext (by unfold norm; rw [mk_length, hd]) fun i _ => ?_
  rw [co_norm]
/-- the first numbers of a list, up to the top -/
theorem EuL.start {s known r1 x : List UInt8} {e : Nat} (he : e ≤ s.length) (hx : ∀ i, co x i = if i = s.length then 1 else 0) (hxl : x.length = s.length + 1) (hr : ∀ j, j < s.length → co r1 j = keP s known j) (hrl : r1.length ≤ s.length) (hn : norm r1 = r1) : EuL s known e x r1 [] [1] := by
  refine ⟨⟨0, s.length, ?_, by omega, rfl, hxl⟩, hn, by decide +kernel⟩
  have h := Eu.start (P := keP s known) (r1 := co r1) (m := s.length) (fun j hj => (hr j hj).symm) ((co_fin r1).mono hrl)
  have e1 : co x = fun i => if i = s.length then 1 else 0 := funext hx
  have e2 : co [] = fun _ => (0 : UInt8) := funext co_nil
  have e3 : co [1] = cst 1 := by
    funext j
    cases j with
    | zero => rfl
    | succ j => rw [cst_ne (by omega)]; rfl
  rw [e1, e2, e3]
  exact h
theorem EuL.step {s known r0 r1 v0 v1 q r : List UInt8} {e : Nat} (h : EuL s known e r0 r1 v0 v1) (hb : s.length + e + 2 ≤ 2 * r1.length) (hd : IsDiv r0 r1 q r) : EuL s known e r1 r v1 (addP v0 (mulP q v1)) := by
  obtain ⟨a, b, eu, h2, ha, hb0⟩ := h.eu
  have hne : r1.length ≠ 0 := by omega
  have ht := norm_tops h.n1 hne
  have hf : Fin0 (co r1) (r1.length - 1 + 1) := by rw [show r1.length - 1 + 1 = r1.length by omega]; exact co_fin r1
  have hdb : r1.length - 1 < b := by
    rcases Nat.lt_or_ge (r1.length - 1) b with h | h
    · exact h
    · exact absurd (eu.g1 _ h) ht
  have hless := hd.less
  rw [h.n1] at hless
  -- the quotient's length
  have hqf : Fin0 (co q) (b - (r1.length - 1) + 1) := by
    have hq := co_fin q
    by_cases hq0 : q.length = 0
    · exact hq.mono (by omega)
    · have hqt := norm_tops hd.ns hq0
      have htop := conv_top (f := co q) (g := co r1) (n := q.length - 1) (m := r1.length - 1) (by rw [show q.length - 1 + 1 = q.length by omega]; exact hq) hf
      rcases Nat.lt_or_ge b (q.length - 1 + (r1.length - 1)) with hlt | hge
      · have e1 := hd.eqn (q.length - 1 + (r1.length - 1))
        rw [eu.g0 _ (by omega), htop, co_ge (p := r) (by omega), x_zero] at e1
        exact absurd e1.symm (mu_ne hqt ht)
      · exact hq.mono (by omega)
  have st := eu.step hf ht hd.eqn hqf ((co_fin r).mono (by omega))
  have e1 : co (addP v0 (mulP q v1)) = addF (co v0) (conv (co q) (co v1)) := by rw [co_addP, co_mulP]
  have hl : (addP v0 (mulP q v1)).length = a + (b - (r1.length - 1)) + 1 := by
    unfold addP
    rw [mk_length]
    refine deg_unique (fin_add _ _) ?_ (fun _ => ?_)
    · rw [co_mulP]; exact st.f1
    · rw [co_mulP]; exact st.t1
  refine ⟨⟨a + (b - (r1.length - 1)), r1.length - 1, ?_, by omega, hl, by omega⟩, hd.nr, norm_mk (fin_add _ _)⟩
  rw [e1]
  exact st
/-- what is told at the end -/
theorem EuL.least {s known r0 r1 v0 v1 : List UInt8} {e : Nat} (h : EuL s known e r0 r1 v0 v1) (h1 : 2 * r1.length ≤ s.length + e + 1) (hr : r1.length ≤ e + (v1.length - 1)) :
    v1.length ≠ 0 ∧ co v1 (v1.length - 1) ≠ 0 ∧ LeastLoc (keP s known) s.length e (v1.length - 1) (fun j => mu (iv (co v1 (v1.length - 1))) (co v1 j)) := by
  obtain ⟨a, b, eu, h2, ha, hb0⟩ := h.eu
  have ea : v1.length - 1 = a := by omega
  rw [ea] at hr ⊢
  exact ⟨by omega, eu.t1, eu.least h2 (co_fin r1) h1 ((co_fin r1).mono hr)⟩
theorem EuL.none {s known r0 r1 v0 v1 : List UInt8} {e : Nat} (h : EuL s known e r0 r1 v0 v1) (h1 : 2 * r1.length ≤ s.length + e + 1) (hr : e + (v1.length - 1) < r1.length) : ∀ t L, 2 * t + e ≤ s.length → ¬ IsLoc (keP s known) s.length e t L := by
  obtain ⟨a, b, eu, h2, ha, hb0⟩ := h.eu
  refine eu.none h2 (co_fin r1) h1 fun hf => ?_
  have ea : v1.length - 1 = a := by omega
  rw [ea] at hr
  exact norm_tops h.n1 (by omega) (hf _ (by omega))
theorem EuL.fac {s known r0 r1 v0 v1 : List UInt8} {e : Nat} (h : EuL s known e r0 r1 v0 v1) : 1 ≤ v1.length ∧ v1.length ≤ s.length + 1 ∧ r0.length ≤ s.length + 1 ∧ r1.length < r0.length ∧ 2 * v1.length + e ≤ s.length + 2 := by
  obtain ⟨a, b, eu, h2, ha, hb0⟩ := h.eu
  have := eu.sum
  refine ⟨by omega, by omega, by omega, ?_, by omega⟩
  rcases Nat.lt_or_ge r1.length r0.length with h9 | h9
  · exact h9
  · exact absurd (eu.g1 _ (by omega)) (norm_tops h.n1 (by omega))
/-- a list times the inverse of its top -/
theorem mul_top {v : List UInt8} (h : v.length ≠ 0) (ht : co v (v.length - 1) ≠ 0) : mulP v [iv (co v (v.length - 1))] = upto (fun j => mu (iv (co v (v.length - 1))) (co v j)) (v.length - 1 + 1) := by
  obtain ⟨c, hc⟩ : ∃ c, c = iv (co v (v.length - 1)) := ⟨_, rfl⟩
  have hc0 : c ≠ 0 := fun e => by
    have := mu_iv ht
    rw [← hc, e, mu_zero] at this
    cases this
  rw [← hc]
  have e3 : co [c] = cst c := by
    funext j
    cases j with
    | zero => rfl
    | succ j => rw [cst_ne (by omega)]; rfl
  have e4 : conv (co v) (co [c]) = fun j => mu c (co v j) := by rw [e3, conv_comm, one_conv]
  have hf : Fin0 (fun j => mu c (co v j)) v.length := fun i hi => by show mu c (co v i) = 0; rw [co_ge hi, mu_zero]
  have hl : (mulP v [c]).length = v.length := by
    unfold mulP
    rw [mk_length, e4]
    exact deg_unique (hf.mono (by omega)) hf (fun _ => mu_ne hc0 ht)
  refine co_ext (by rw [hl, upto_length]; omega) fun i hi => ?_
  rw [hl] at hi
  rw [co_mulP, e4, upto, co_map_range _ (by omega)]

end Go.Proofs.Ytchfonofjbpmaaa.Gf

