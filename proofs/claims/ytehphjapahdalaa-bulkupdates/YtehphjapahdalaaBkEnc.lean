/-
  THE PROGRAM's 'Encode' AND 'Fits' BY CONTRACT.
-/
import Derived.Test.YtehphjapahdalaaBkCC
import Derived.Test.YtehphjapahdalaaBkX
import Derived.Deep.RegionHeld3
namespace Go.Proofs.Ytehphjapahdalaa.Gf
set_option linter.unusedVariables false
set_option linter.unusedSimpArgs false
open Go.RowKit

set_option maxRecDepth 100000 in
set_option maxHeartbeats 1000000 in
theorem enc_err {b : Nat} {k m X : Int} {v : Value} {w : World} (hX : X ≠ 0) (hC : Calls Try.prog 24 #[.pointer (some ⟨b, 0, none⟩), .int .i64 k, .int .i64 m, .int .i64 k, v, .slice none 0 0] w (MakesErr w X)) :
    Calls Try.prog 12 #[.pointer (some ⟨b, 0, none⟩), .int .i64 k, .int .i64 m, v] w (MakesRs w X []) := by
  have hb : (X != 0) = true := by simp [hX]
  clear hX
  go_enter Try.func12, Try.ntmps12
  go_wp2_with fail
  refine hC.mono ?_
  rintro e w2 ⟨vs, rfl, hR, b2⟩
  obtain ⟨va, vc, rfl⟩ := hR.form
  clear hC hR
  go_wp2
  exact bodyPost_ret (v := .tuple #[.slice none 0 0, .int .i64 X]) (by simp [results, Try.results12, go_sem]) rfl ⟨_, rfl, rs_none, below_lit b2 _⟩

set_option maxRecDepth 100000 in
set_option maxHeartbeats 1000000 in
theorem enc_ok {b : Nat} {k m : Nat} {v : Value} {L : List (List UInt8)} {w : World} (hF : FieldAt w b) (h1 : 1 ≤ k) (h2 : k + m ≤ 256) (h : Rs w v L) (hL : L.length = k) (hE : Even L) (hS : Small L) {x y : Int} (hx : x = (k : Int)) (hy : y = (m : Int)) :
    Calls Try.prog 12 #[.pointer (some ⟨b, 0, none⟩), .int .i64 x, .int .i64 y, v] w (MakesRs w 0 (encL m k (parF k) L)) := by
  subst hx hy
  go_enter Try.func12, Try.ntmps12
  go_wp2_with fail
  refine (chkd_ok hF h1 h2 h rs_none (B := []) ⟨by rw [hL], by rw [List.append_nil]; exact hE⟩ rfl rfl).mono ?_
  rintro e w2 ⟨vs, rfl, hR, b2⟩
  have A2 : Below w2.heap.size w2 (w2.alloc (.cells #[.int .i64 (m : Int), .int .i64 (k : Int), vs] 52)) := (Below.refl _ _).alloc (Nat.le_refl _) _
  have B2 : Below w.heap.size w (w2.alloc (.cells #[.int .i64 (m : Int), .int .i64 (k : Int), vs] 52)) := below_lit b2 _
  have HD := encd_any m k (parF k) (hF.below B2) (hR.below A2) h1 h2 (h.below B2) hL hE hS rfl rfl
  obtain ⟨va, vc, rfl⟩ := hR.form
  obtain ⟨da, dc, rfl⟩ := h.form
  clear hF h hR hE hS b2 A2 hL
  go_wp2_with fail
  refine HD.mono ?_
  rintro e w3 ⟨v', rfl, hR3, b3⟩
  have HB : Hid _ := Below.next B2 b3
  clear HD b3 B2
  obtain ⟨xa, xc, rfl⟩ := hR3.form
  go_wp2
  exact bodyPost_ret (v := .tuple #[.slice xa (encL m k (parF k) L).length xc, .int .i64 0]) (by simp [results, Try.results12, go_sem]) rfl ⟨_, rfl, hR3, HB.out⟩

theorem enc_any {b : Nat} {k m : Int} {v : Value} {L : List (List UInt8)} {w : World} (hF : FieldAt w b) (h : Rs w v L) (hS : Small L) :
    Calls Try.prog 12 #[.pointer (some ⟨b, 0, none⟩), .int .i64 k, .int .i64 m, v] w (MakesRs w (encX k m L) (encR k m L)) := by
  rcases enc_cases k m L with c | ⟨c, d⟩ | ⟨c, d1, d2⟩
  · rw [(encX_bad c).1, (encX_bad c).2]
    exact enc_err (by decide) (chkd_bad hF c)
  · rw [(encX_shard c d).1, (encX_shard c d).2]
    obtain ⟨k, m, rfl, rfl, h1, h2⟩ := c.nat
    exact enc_err (by decide) (chkd_shard hF h1 h2 h rs_none (fun e => d ⟨e.1, by have := e.2; rwa [List.append_nil] at this⟩) rfl rfl)
  · obtain ⟨k, m, rfl, rfl, h1, h2⟩ := c.nat
    rw [(encX_ok c d1 d2).1, (encX_ok c d1 d2).2]
    exact enc_ok hF h1 h2 h (by omega) d2 hS rfl rfl

/-- What 'Fits' leaves. -/
def MakesB (w : World) (t : Bool) (x : Int) (e : Ending) (w' : World) : Prop := e = .returned (.tuple #[.bool t, .int .i64 x]) ∧ Below w.heap.size w w'

set_option maxRecDepth 100000 in
set_option maxHeartbeats 1000000 in
theorem fits_err {b : Nat} {k m s X : Int} {v : Value} {w : World} (hX : X ≠ 0) (hs : IntKind.i64.wrap (k + m) = s) (hC : Calls Try.prog 24 #[.pointer (some ⟨b, 0, none⟩), .int .i64 k, .int .i64 m, .int .i64 s, v, .slice none 0 0] w (MakesErr w X)) :
    Calls Try.prog 14 #[.pointer (some ⟨b, 0, none⟩), .int .i64 k, .int .i64 m, v] w (MakesB w false X) := by
  have hb : (X != 0) = true := by simp [hX]
  clear hX
  go_enter Try.func14, Try.ntmps14
  go_wp2_with fail
  refine hC.mono ?_
  rintro e w2 ⟨vs, rfl, hR, b2⟩
  obtain ⟨va, vc, rfl⟩ := hR.form
  clear hC hR
  go_wp2
  exact bodyPost_ret (v := .tuple #[.bool false, .int .i64 X]) (by simp [results, Try.results14, go_sem]) rfl ⟨rfl, below_lit b2 _⟩

set_option maxRecDepth 100000 in
set_option maxHeartbeats 2000000 in
theorem fits_ok {b : Nat} {k m : Nat} {v : Value} {L : List (List UInt8)} {w : World} (hF : FieldAt w b) (h1 : 1 ≤ k) (h2 : k + m ≤ 256) (h : Rs w v L) (hL : L.length = k + m) (hE : Even L) (hS : Small L) {x y : Int} (hx : x = (k : Int)) (hy : y = (m : Int)) :
    Calls Try.prog 14 #[.pointer (some ⟨b, 0, none⟩), .int .i64 x, .int .i64 y, v] w (MakesB w (sameL (encL m k (parF k) (L.take k)) L) 0) := by
  subst hx hy
  have hs : IntKind.i64.wrap ((k : Int) + (m : Int)) = (k : Int) + (m : Int) := by rw [IntKind.wrap_i64]; omega
  obtain ⟨lb, lo, lc, rfl, hlb, hlc, hlm⟩ := h.somewhere (by omega)
  have hkc : (k : Int) ≤ (lc : Int) := by omega
  have hkc' : k ≤ lc := by omega
  have hwk : IntKind.i64.wrap (k : Int) = (k : Int) := by rw [IntKind.wrap_i64]; omega
  have hL' : Hid _ := hL
  clear hL
  go_enter Try.func14, Try.ntmps14
  go_wp2_with fail
  refine (chkd_ok hF h1 h2 h rs_none (B := []) ⟨by rw [hL'.out]; omega, by rw [List.append_nil]; exact hE⟩ rfl rfl).mono ?_
  rintro e w2 ⟨vs, rfl, hR, b2⟩
  have A2 : Below w2.heap.size w2 (w2.alloc (.cells #[.int .i64 (m : Int), .int .i64 (k : Int), vs] 52)) := (Below.refl _ _).alloc (Nat.le_refl _) _
  have B2 : Below w.heap.size w (w2.alloc (.cells #[.int .i64 (m : Int), .int .i64 (k : Int), vs] 52)) := below_lit b2 _
  have h0 := h.below B2
  have ht := h0.first (k := k) (by rw [hL'.out]; omega)
  have hF2 := hF.below B2
  have hR2 := hR.below A2
  obtain ⟨va, vc, rfl⟩ := hR.form
  obtain ⟨N, hN⟩ : ∃ N, Hid (N = (flat m k (parF k)).length) := ⟨_, rfl⟩
  rw [← hN.out] at hR2 B2 h0 ht hF2 ⊢
  have X2 := Box.new w2 (m : Int) (k : Int) (.slice va N vc) 52
  have hl2 : w2.heap.size < (w2.alloc (.cells #[.int .i64 (m : Int), .int .i64 (k : Int), .slice va N vc] 52)).heap.size := by simp
  have hTl : (L.take k).length = k := by rw [List.length_take, hL'.out]; omega
  have hTe := even_take hE k
  have hTs := small_take hS k
  obtain ⟨E, hE'⟩ : ∃ E, Hid (E = encL m k (parF k) (L.take k)) := ⟨_, rfl⟩
  rw [← hE'.out]
  clear A2
  go_wp2
  generalize w2.alloc (.cells #[.int .i64 (m : Int), .int .i64 (k : Int), .slice va N vc] 52) = w3 at *
  have hcall1 : ∀ W, Below w3.heap.size w3 W → Calls Try.prog 25 #[.pointer (some ⟨b, 0, none⟩), .agg #[.int .i64 (m : Int), .int .i64 (k : Int), .slice va N vc], .slice (some ⟨lb, lo, none⟩) k lc] W (fun e w' => ∃ ra rc, e = .returned (.slice ra E.length rc) ∧ Rs w' (.slice ra E.length rc) E ∧ Below w3.heap.size w3 w') := fun W hW =>
    (encd_any m k (parF k) (hF2.below hW) (hR2.below hW) h1 h2 (ht.below hW) hTl hTe hTs rfl rfl).mono fun e w' ⟨v', he, hr, hb⟩ => by
      rw [← hE'.out] at hr
      obtain ⟨ra, rc, rfl⟩ := hr.form
      exact ⟨ra, rc, he, hr, Below.next hW hb⟩
  have hcall2 : ∀ W ra rc, Rs W (.slice ra E.length rc) E → Below w3.heap.size w3 W → Calls Try.prog 29 #[.slice ra E.length rc, .slice (some ⟨lb, lo, none⟩) L.length lc, .func (.func 30) #[] #[]] W (fun e w' => e = .returned (.bool (sameL E L)) ∧ Below w3.heap.size w3 w') := fun W ra rc hr hW =>
    (eqf_any hr (h0.below hW)).mono fun e w' ⟨he, hw⟩ => ⟨he, by rw [hw]; exact hW⟩
  clear hF h hR b2 hF2 hR2 ht h0 hTl hTe hTs hE hS
  have Q1 := X2
  have P1 := X2
  clear X2
  go_region_held3 (fun wx => wx.cell? ⟨w2.heap.size, 0, none⟩ = some (.int .i64 (m : Int)) ∧ wx.cell? ⟨w2.heap.size, 1, none⟩ = some (.int .i64 (k : Int)) ∧ wx.cell? ⟨w2.heap.size, 2, none⟩ = some (.slice va N vc)) (first | exact ⟨P1.c0, P1.c1, P1.c2⟩ | exact ⟨P1.drew.c0, P1.drew.c1, P1.drew.c2⟩) (first
    | (go_at_call 25; go_loud (refine (hcall1 _ (by first | assumption | exact (Below.refl _ _).drew)).mono ?_); rintro e v1 ⟨ra, rc, rfl, hR4, bv1⟩; replace P1 := Q1.below hl2 bv1)
    | (go_at_call 29; go_loud (refine (hcall2 _ _ _ hR4 (by first | assumption | exact (Below.refl _ _).drew)).mono ?_); rintro e v2 ⟨rfl, bv2⟩; replace P1 := Q1.below hl2 bv2))
  have HB : Hid (Below w.heap.size w v2) := Below.next B2 bv2
  clear hcall1 hcall2 Q1 P1 bv1 bv2 hR4 B2
  go_wp2
  exact bodyPost_ret (v := .tuple #[.bool (sameL E L), .int .i64 0]) (by simp [results, Try.results14, go_sem]) rfl ⟨by rw [← hE'.out], HB.out⟩

theorem fits_any {b : Nat} {k m : Int} {v : Value} {L : List (List UInt8)} {w : World} (hF : FieldAt w b) (h : Rs w v L) (hS : Small L) :
    Calls Try.prog 14 #[.pointer (some ⟨b, 0, none⟩), .int .i64 k, .int .i64 m, v] w (MakesB w (fitB k m L) (fitX k m L)) := by
  rcases fit_cases k m L with c | ⟨c, d⟩ | ⟨c, d1, d2⟩
  · rw [(fitX_bad c).1, (fitX_bad c).2]
    exact fits_err (by decide) rfl (chkd_bad hF c)
  · rw [(fitX_shard c d).1, (fitX_shard c d).2]
    obtain ⟨k, m, rfl, rfl, h1, h2⟩ := c.nat
    exact fits_err (by decide) (by rw [IntKind.wrap_i64]; omega) (chkd_shard hF h1 h2 h rs_none (fun e => d ⟨e.1, by have := e.2; rwa [List.append_nil] at this⟩) rfl rfl)
  · obtain ⟨k, m, rfl, rfl, h1, h2⟩ := c.nat
    rw [(fitX_ok c d1 d2).1, (fitX_ok c d1 d2).2]
    exact fits_ok hF h1 h2 h (by omega) d2 hS rfl rfl

end Go.Proofs.Ytehphjapahdalaa.Gf
