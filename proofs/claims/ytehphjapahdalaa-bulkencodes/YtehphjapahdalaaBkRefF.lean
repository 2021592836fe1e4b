/-
  THE DOCUMENT's ANSWER FOR LAYER 6 (package aumbryref06) BY CONTRACT: 'Fits'.
-/
import Derived.Test.YtehphjapahdalaaBkRefE
import Derived.Test.YtehphjapahdalaaBkEnc
namespace Go.Proofs.Ytehphjapahdalaa.Gf
set_option linter.unusedVariables false
set_option linter.unusedSimpArgs false
open Go.RowKit

set_option maxRecDepth 100000 in
set_option maxHeartbeats 1000000 in
theorem rfits_bad {k m : Int} {v : Value} {w : World} (h : ¬ OkC k m) : Calls Try.prog 15 #[.int .i64 k, .int .i64 m, v] w (MakesB w false 50) := by
  go_enter Try.func15, Try.ntmps15
  go_wp2_with fail
  refine (rccheck_bad _ h).mono ?_
  rintro e w2 ⟨rfl, rfl⟩
  clear h
  go_wp2
  exact bodyPost_ret (v := .tuple #[.bool false, .int .i64 50]) (by simp [results, Try.results15, go_sem]) rfl ⟨rfl, Below.refl _ _⟩

set_option maxRecDepth 100000 in
set_option maxHeartbeats 1000000 in
theorem rfits_shard {k m : Nat} {v : Value} {L : List (List UInt8)} {w : World} (h1 : 1 ≤ k) (h2 : k + m ≤ 256) (h : Rs w v L) (hb : ¬ ((L.length : Int) = (k : Int) + (m : Int) ∧ Even L)) {x y : Int} (hx : x = (k : Int)) (hy : y = (m : Int)) :
    Calls Try.prog 15 #[.int .i64 x, .int .i64 y, v] w (MakesB w false 60) := by
  subst hx hy
  have hE : Hid (alikeB L ((k : Int) + (m : Int)) = false) := decide_eq_false hb
  have gw : IntKind.i64.wrap ((k : Int) + (m : Int)) = (k : Int) + (m : Int) := by rw [IntKind.wrap_i64]; omega
  obtain ⟨da, dc, rfl⟩ := h.form
  clear hb
  go_enter Try.func15, Try.ntmps15
  go_wp2_with fail
  refine (rccheck_ok _ (okC_mk h1 h2)).mono ?_
  rintro e w2 ⟨rfl, rfl⟩
  go_wp2_with fail
  refine (alike_any h).mono ?_
  rintro e w3 ⟨rfl, nd, hd⟩
  rw [hE.out]
  have B3 : Hid (Below w2.heap.size w2 w3) := by rw [hd]; exact (Below.refl _ _).drewN nd
  clear h hd
  go_wp2
  exact bodyPost_ret (v := .tuple #[.bool false, .int .i64 60]) (by simp [results, Try.results15, go_sem]) rfl ⟨rfl, B3.out⟩

set_option maxRecDepth 100000 in
set_option maxHeartbeats 1000000 in
theorem rfits_ok {k m : Nat} {v : Value} {L : List (List UInt8)} {w : World} (h1 : 1 ≤ k) (h2 : k + m ≤ 256) (h : Rs w v L) (hL : L.length = k + m) (hE : Even L) (hS : Small L) {x y : Int} (hx : x = (k : Int)) (hy : y = (m : Int)) :
    Calls Try.prog 15 #[.int .i64 x, .int .i64 y, v] w (MakesB w (sameL (encL m k (parF k) (L.take k)) L) 0) := by
  subst hx hy
  have hAl : Hid (alikeB L ((k : Int) + (m : Int)) = true) := alikeB_true (by omega) hE
  have gw : IntKind.i64.wrap ((k : Int) + (m : Int)) = (k : Int) + (m : Int) := by rw [IntKind.wrap_i64]; omega
  obtain ⟨lb, lo, lc, rfl, hlb, hlc, hlm⟩ := h.somewhere (by omega)
  have hL' : Hid _ := hL
  have hkc : (k : Int) ≤ (lc : Int) := by omega
  have hkc' : k ≤ lc := by omega
  have hk0 : (0 : Int) ≤ (k : Int) := by omega
  have hwk : IntKind.i64.wrap (k : Int) = (k : Int) := by rw [IntKind.wrap_i64]; omega
  have hTl : Hid ((L.take k).length = k) := by show _ = _; rw [List.length_take]; omega
  clear hL
  go_enter Try.func15, Try.ntmps15
  go_wp2_with fail
  refine (rccheck_ok _ (okC_mk h1 h2)).mono ?_
  rintro e w2 ⟨rfl, rfl⟩
  go_wp2_with fail
  refine (alike_any h).mono ?_
  rintro e w3 ⟨rfl, nd, hd⟩
  rw [hAl.out]
  have B3 : Below w2.heap.size w2 w3 := by rw [hd]; exact (Below.refl _ _).drewN nd
  clear hd
  replace h := h.below B3
  have ht := h.first (k := k) (by rw [hL'.out]; omega)
  have HE := renc_ok h1 h2 ht hTl.out (even_take hE k) (small_take hS k) rfl rfl
  go_wp2_with fail
  refine HE.mono ?_
  rintro e w4 ⟨vx, rfl, Rx, b4⟩
  obtain ⟨xa, xc, rfl⟩ := Rx.form
  have HS := same6_any Rx (h.below b4)
  have B4 : Hid _ := Below.next B3 b4
  clear HE ht B3 b4
  go_wp2_with fail
  refine HS.mono ?_
  rintro e w5 ⟨rfl, nd5, hd5⟩
  have B5 : Hid (Below w2.heap.size w2 w5) := by rw [hd5]; exact Below.drewN B4.out nd5
  clear HS hd5 B4 h Rx
  generalize sameL (encL m k (parF k) (L.take k)) L = tt at *
  go_wp2
  exact bodyPost_ret (v := .tuple #[.bool tt, .int .i64 0]) (by simp [results, Try.results15, go_sem]) rfl ⟨rfl, B5.out⟩

theorem rfits_any {k m : Int} {v : Value} {L : List (List UInt8)} {w : World} (h : Rs w v L) (hS : Small L) : Calls Try.prog 15 #[.int .i64 k, .int .i64 m, v] w (MakesB w (fitB k m L) (fitX k m L)) := by
  rcases fit_cases k m L with c | ⟨c, d⟩ | ⟨c, d1, d2⟩
  · rw [(fitX_bad c).1, (fitX_bad c).2]
    exact rfits_bad c
  · rw [(fitX_shard c d).1, (fitX_shard c d).2]
    obtain ⟨k, m, rfl, rfl, h1, h2⟩ := c.nat
    exact rfits_shard h1 h2 h d rfl rfl
  · obtain ⟨k, m, rfl, rfl, h1, h2⟩ := c.nat
    rw [(fitX_ok c d1 d2).1, (fitX_ok c d1 d2).2]
    exact rfits_ok h1 h2 h (by omega) d2 hS rfl rfl

end Go.Proofs.Ytehphjapahdalaa.Gf
