/- TEXTS JOINED: ReAw, ReRefH, ReRefB, ReRefC. -/
import Derived.Test.YthmoiffkgcnjmaaPome12
namespace Go.Proofs.Ythmoiffkgcnjmaa.Gf
set_option linter.unusedVariables false
set_option linter.unusedSimpArgs false
open Go.RowKit
def awR : RcS := ⟨1, [97], 5, [3]⟩
theorem aw_a : OkR awR := by decide
theorem aw_a2 : (if OkR awR then enR awR else []) = [1, 1, 97, 0, 0, 0, 5, 0, 1, 0, 3] := by rw [if_pos aw_a]; decide
theorem aw_a3 : chR awR = 0 := if_pos aw_a
def awB : List UInt8 := [2, 1, 97, 0, 0, 0, 0, 0, 0]
def awD : RcS := ⟨2, [97], 0, []⟩
theorem aw_b : IsR awB := by decide
theorem aw_b3 : OkR awD := by decide
theorem aw_c : ¬ IsR [2, 1, 97] := by decide
theorem aw_d : MayL (oL []) := ⟨Nat.zero_le _, fun i hi => absurd hi (Nat.not_lt_zero _), Nat.zero_le _⟩
theorem aw_d2 : snP (oL []) = [[0, 0], []] := rfl
theorem aw_e {l : List ObS} (h : IsP [[0, 0], []] l) : l = [] := isP_one h (by rw [← aw_d2]; exact isP_sn aw_d)
theorem rs_two16 {w : World} {x y : Value} {e b : Nat} {p q : List UInt8} (hb : b = w.heap.size) (h : Rd w x p) (h2 : Rd w y q) : Rs (w.alloc (.cells #[x, y] e)) (.slice (some ⟨b, 0, none⟩) 2 2) [p, q] := by
  subst hb
  have key : ∀ i, i < [p, q].length → ∃ z, #[x, y][i]? = some z ∧ Rd w z (ro [p, q] i) := fun i hi => by
    rcases i with _ | _ | i
    · exact ⟨x, rfl, h⟩
    · exact ⟨y, rfl, h2⟩
    · simp at hi; omega
  refine ⟨some ⟨w.heap.size, 0, none⟩, 2, rfl, Nat.le_refl _, by decide, nofun, fun i hi => ?_⟩
  obtain ⟨z, h1, h2⟩ := key i hi
  exact ⟨w.heap.size, 0, z, rfl, by simp, by rw [Nat.zero_add, World.cell?_alloc_new]; exact h1, h2.below ((Below.refl _ _).alloc (Nat.le_refl _) _)⟩
set_option maxRecDepth 100000 in
set_option maxHeartbeats 4000000 in
theorem awake16_any (w : World) : Calls Try.prog 9 #[] w fun e w' => e = .returned (.bool true) ∧ Below w.heap.size w w' := by
  have W0 : RcV.In (w.alloc (.cells #[.int .i64 3] 3)) ⟨awR, .slice (some ⟨w.heap.size, 0, none⟩) 1 1⟩ := ⟨by show (Lit.int .i64 1).wf = true; decide, by show (Lit.int .i64 5).wf = true; decide, by show 1 ≤ maxLen; decide, rdI_lit2 [3] rfl rfl rfl (by decide), by show ∀ z ∈ [(3 : Int)], (Lit.int .i64 z).wf = true; decide⟩
  have K1 : Calls Try.prog 11 #[.agg #[.int .i64 1, .string ⟨#[97]⟩, .int .i64 5, .slice (some ⟨w.heap.size, 0, none⟩) 1 1]] (w.alloc (.cells #[.int .i64 3] 3)) (MakesE16 (w.alloc (.cells #[.int .i64 3] 3)) 0 [1, 1, 97, 0, 0, 0, 5, 0, 1, 0, 3]) := enc16_any W0 aw_a3 aw_a2
  clear W0
  go_enter Try.func9, Try.ntmps9
  go_wp2_with fail
  refine K1.mono ?_
  rintro _ w1 ⟨v1, rfl, R1, B1⟩
  clear K1
  have C1 : Below w.heap.size w w1 := (belR w _).step16 B1 (belR w _).size
  clear B1
  obtain ⟨a1, c1, e1⟩ := R1.form
  rw [e1] at R1 ⊢
  clear e1 v1
  go_wp2_with fail
  have RL : Rd (w1.alloc (.cells #[.int .u8 2, .int .u8 1, .int .u8 97, .int .u8 0, .int .u8 0, .int .u8 0, .int .u8 0, .int .u8 0, .int .u8 0] 5)) (.slice (some ⟨w1.heap.size, 0, none⟩) 9 9) awB := rd_lit awB rfl rfl (by decide)
  refine (dec16_any RL (by decide) (X := 0) (if_pos aw_b) (r := awD) (if_pos aw_b)).mono ?_
  rintro _ w2 ⟨c, rfl, hc, hi, B2, -⟩
  clear RL
  have D2 : Below w1.heap.size w1 w2 := (belR w1 _).step16 B2 (belR w1 _).size
  replace R1 := R1.below D2
  have C2 := C1.step16 D2 C1.size
  clear D2 B2 C1
  obtain ⟨cr, vs⟩ := c
  simp only at hc
  subst hc
  obtain ⟨va, vc, ev⟩ := hi.rs.form
  simp only at ev
  subst ev
  rw [show aggR ⟨awD, .slice va awD.st.length vc⟩ = .agg #[.int .i64 2, .string ⟨#[97]⟩, .int .i64 0, .slice va 0 vc] from rfl]
  obtain ⟨w3, hw3⟩ : ∃ w3, w3 = w2.alloc (.cells #[.int .i64 2, .string ⟨#[97]⟩, .int .i64 0, .slice va 0 vc] 25) := ⟨_, rfl⟩
  have D3 : Below w2.heap.size w2 w3 := by rw [hw3]; exact belR _ _
  have g : ∀ j, w3.cell? ⟨w2.heap.size, j, none⟩ = #[Value.int .i64 2, .string ⟨#[97]⟩, .int .i64 0, .slice va 0 vc][j]? := fun j => by rw [hw3, World.cell?_alloc_new]
  have l3 : w2.heap.size < w3.heap.size := by rw [hw3]; show w2.heap.size < (w2.heap.push _).size; rw [Array.size_push]; exact Nat.lt_succ_self _
  replace R1 := R1.below D3
  replace hi := hi.below D3
  have C3 := C2.step16 D3 C2.size
  clear D3 C2
  have s3 : w2.heap.size + 1 = w3.heap.size := by rw [hw3]; simp
  have RL : Rd (w3.alloc (.cells #[.int .u8 2, .int .u8 1, .int .u8 97] 5)) (.slice (some ⟨w2.heap.size + 1, 0, none⟩) 3 3) [2, 1, 97] := rd_lit2 [2, 1, 97] s3 rfl rfl (by decide)
  have K3 := dec16_any RL (by decide) (X := 160) (if_neg aw_c) (r := noR) (if_neg aw_c)
  clear RL s3
  go_wp2_with fail
  rw [← hw3]
  clear hw3
  refine K3.mono ?_
  rintro _ w4 ⟨c, rfl, hc, hi4, B4, -⟩
  clear K3
  have D4 : Below w3.heap.size w3 w4 := (belR w3 _).step16 B4 (belR w3 _).size
  clear B4
  obtain ⟨cr, vs⟩ := c
  simp only at hc
  subst hc
  obtain ⟨va4, vc4, ev⟩ := hi4.rs.form
  simp only at ev
  subst ev
  clear hi4
  rw [show aggR ⟨noR, .slice va4 noR.st.length vc4⟩ = .agg #[.int .i64 0, .string ⟨#[]⟩, .int .i64 0, .slice va4 0 vc4] from rfl]
  obtain ⟨w5, hw5⟩ : ∃ w5, w5 = w4.alloc (.cells #[.int .i64 0, .string ⟨#[]⟩, .int .i64 0, .slice va4 0 vc4] 25) := ⟨_, rfl⟩
  have D5 : Below w3.heap.size w3 w5 := D4.step16 (by rw [hw5]; exact belR _ _) D4.size
  clear D4
  go_wp2_with fail
  rw [← hw5]
  clear hw5
  refine (snap16_any (L := []) (w := w5) (Or.inl ⟨none, 0, rfl, rfl⟩) (fun i hi => absurd hi (Nat.not_lt_zero _))).mono ?_
  rintro _ w6 (⟨-, u, rfl, RS, B6⟩ | ⟨hn, -⟩)
  rotate_left
  · exact absurd aw_d hn
  rw [aw_d2] at RS
  have D6 := D5.step16 B6 D5.size
  clear D5 B6
  obtain ⟨ua, uc, eu⟩ := RS.form
  rw [eu] at RS ⊢
  clear eu u
  have K7 := uns16_any RS (by decide)
  go_wp2_with fail
  refine K7.mono ?_
  rintro _ w7 (⟨L, u7, hp7, rfl, RO, B7⟩ | ⟨hn, -⟩)
  rotate_left
  · exact absurd (by rw [← aw_d2]; exact isP_sn aw_d) (hn [])
  clear K7
  have eL : L = [] := by
    have := congrArg List.length (aw_e hp7)
    rw [oL_length] at this
    exact List.length_eq_zero_iff.1 this
  subst eL
  obtain ⟨la, lc, el⟩ := RO.form
  rw [el]
  clear el RO hp7
  have D7 := D6.step16 B7 D6.size
  have RS7 := RS.below B7
  clear RS B7 D6
  have R7 := R1.below D7
  go_wp2_with fail
  have RL : Rd (w7.alloc (.cells #[.int .u8 1, .int .u8 1, .int .u8 97, .int .u8 0, .int .u8 0, .int .u8 0, .int .u8 5, .int .u8 0, .int .u8 1, .int .u8 0, .int .u8 3] 5)) (.slice (some ⟨w7.heap.size, 0, none⟩) 11 11) [1, 1, 97, 0, 0, 0, 5, 0, 1, 0, 3] := rd_lit _ rfl rfl (by decide)
  refine (same_b (R7.below (belR _ _)) RL).mono ?_
  rintro _ w8 ⟨rfl, B8⟩
  rw [sameB_of rfl]
  have E8 : Below w7.heap.size w7 w8 := (belR w7 _).step16 B8 (belR w7 _).size
  have RS8 := RS7.below E8
  have D8 := D7.step16 E8 D7.size
  clear RL R7 R1 RS7 B8 E8 D7
  obtain ⟨wa, hwa⟩ : ∃ wa, wa = (w8.alloc (.cells #[.int .u8 0, .int .u8 0] 5)).alloc (.cells #[] 5) := ⟨_, rfl⟩
  have sa : w8.heap.size + 1 + 1 = wa.heap.size := by rw [hwa]; simp
  have Ba : Below w8.heap.size w8 wa := by rw [hwa]; exact (belR _ _).trans ((belR _ _).mono (by simp))
  have RA : Rd wa (.slice (some ⟨w8.heap.size, 0, none⟩) 2 2) [0, 0] := by rw [hwa]; exact (rd_lit [0, 0] rfl rfl (by decide)).below (belR _ _)
  have RB : Rd wa (.slice (some ⟨w8.heap.size + 1, 0, none⟩) 0 0) [] := Or.inl ⟨_, 0, rfl, rfl, Nat.zero_le _, fun _ => rfl⟩
  have RC : Rs (wa.alloc (.cells #[.slice (some ⟨w8.heap.size, 0, none⟩) 2 2, .slice (some ⟨w8.heap.size + 1, 0, none⟩) 0 0] 26)) (.slice (some ⟨w8.heap.size + 1 + 1, 0, none⟩) 2 2) [[0, 0], []] := rs_two16 sa RA RB
  have K9 := parts16_any ((RS8.below Ba).below (belR wa _)) RC (by decide) (by decide)
  clear RA RB RC sa RS8
  go_wp2_with fail
  rw [← hwa]
  clear hwa
  refine K9.mono ?_
  rintro _ w9 ⟨x, rfl, hx, B9⟩
  obtain rfl : x = true := hx.2 (by first | rfl | trivial)
  clear K9 hx
  have D9 : Below w3.heap.size w3 w9 := (D8.step16 Ba D8.size).step16 ((belR wa _).step16 B9 (belR wa _).size) (Nat.le_trans D8.size Ba.size)
  clear D8 Ba B9
  have x0 : w9.cell? ⟨w2.heap.size, 0, none⟩ = some (.int .i64 2) := (D9.cell (p := ⟨w2.heap.size, 0, none⟩) l3).trans (g 0)
  have x1 : w9.cell? ⟨w2.heap.size, 1, none⟩ = some (.string ⟨#[97]⟩) := (D9.cell (p := ⟨w2.heap.size, 1, none⟩) l3).trans (g 1)
  have x2 : w9.cell? ⟨w2.heap.size, 2, none⟩ = some (.int .i64 0) := (D9.cell (p := ⟨w2.heap.size, 2, none⟩) l3).trans (g 2)
  have x3 : w9.cell? ⟨w2.heap.size, 3, none⟩ = some (.slice va 0 vc) := (D9.cell (p := ⟨w2.heap.size, 3, none⟩) l3).trans (g 3)
  have KC : Calls Try.prog 17 #[.agg #[.int .i64 2, .string ⟨#[97]⟩, .int .i64 0, .slice va 0 vc]] w9 (fun e w' => e = .returned (.int .i64 0) ∧ Below w9.heap.size w9 w') := chk16_any (hi.below D9) (if_pos aw_b3)
  have C9 := C3.step16 D9 C3.size
  clear g hi D9 C3 l3
  go_wp2_with fail
  refine KC.mono ?_
  rintro _ wb ⟨rfl, Bb⟩
  have Cb := C9.step16 Bb C9.size
  clear KC C9 Bb x0 x1 x2 x3
  go_wp2
  go_ret
  exact ⟨rfl, Cb⟩
end Go.Proofs.Ythmoiffkgcnjmaa.Gf

namespace Go.Proofs.Ythmoiffkgcnjmaa.Gf
set_option linter.unusedVariables false
set_option linter.unusedSimpArgs false
open Go.RowKit
set_option maxRecDepth 100000 in
set_option maxHeartbeats 1000000 in
theorem few16_any {w : World} {c : RcV} (h : c.In w) : Calls Try.prog 10 #[aggR c] w fun e w' => e = .returned (.bool (decide (c.r.key.length ≤ 300 ∧ c.r.st.length ≤ 300))) ∧ Below w.heap.size w w' := by
  obtain ⟨⟨kd, ky, ln, st⟩, vs⟩ := c
  have HR := h.rs
  obtain ⟨a, cp, e⟩ := HR.form
  simp only at e
  subst e
  have FB := fun o => belR w o
  clear h HR
  show Calls Try.prog 10 #[.agg #[.int .i64 kd, .string ⟨ky.toArray⟩, .int .i64 ln, .slice a st.length cp]] w _
  by_cases h1 : (ky.length : Int) ≤ 300
  · by_cases h2 : (st.length : Int) ≤ 300
    · rw [show decide ((⟨⟨kd, ky, ln, st⟩, .slice a st.length cp⟩ : RcV).r.key.length ≤ 300 ∧ (⟨⟨kd, ky, ln, st⟩, .slice a st.length cp⟩ : RcV).r.st.length ≤ 300) = true from decide_eq_true ⟨by simp only; omega, by simp only; omega⟩]
      go_enter Try.func10, Try.ntmps10
      go_wp2
      go_ret
      exact ⟨rfl, FB _⟩
    · rw [show decide ((⟨⟨kd, ky, ln, st⟩, .slice a st.length cp⟩ : RcV).r.key.length ≤ 300 ∧ (⟨⟨kd, ky, ln, st⟩, .slice a st.length cp⟩ : RcV).r.st.length ≤ 300) = false from decide_eq_false (fun q => by have := q.2; simp only at this; omega)]
      go_enter Try.func10, Try.ntmps10
      go_wp2
      go_ret
      exact ⟨rfl, FB _⟩
  · rw [show decide ((⟨⟨kd, ky, ln, st⟩, .slice a st.length cp⟩ : RcV).r.key.length ≤ 300 ∧ (⟨⟨kd, ky, ln, st⟩, .slice a st.length cp⟩ : RcV).r.st.length ≤ 300) = false from decide_eq_false (fun q => by have := q.1; simp only at this; omega)]
    go_enter Try.func10, Try.ntmps10
    go_wp2
    go_ret
    exact ⟨rfl, FB _⟩
/-- two records are one -/
def sameR (a b : RcS) : Bool := decide (a.st = b.st) && (a.kind == b.kind) && (a.key == b.key) && (a.len == b.len)
theorem sameR_iff {a b : RcS} : sameR a b = true ↔ a = b := by
  obtain ⟨k, y, n, s⟩ := a
  obtain ⟨k', y', n', s'⟩ := b
  unfold sameR
  simp only [Bool.and_eq_true, decide_eq_true_iff, beq_iff_eq, RcS.mk.injEq]
  constructor
  · rintro ⟨⟨⟨h1, h2⟩, h3⟩, h4⟩; exact ⟨h2, h3, h4, h1⟩
  · rintro ⟨h2, h3, h4, h1⟩; exact ⟨⟨⟨h1, h2⟩, h3⟩, h4⟩
set_option maxRecDepth 100000 in
set_option maxHeartbeats 2000000 in
theorem same16_any {w : World} {c d : RcV} (h : c.In w) (k : d.In w) (hl : c.r.st.length ≤ 1000000) (hl2 : d.r.st.length ≤ 1000000) {x : Bool} (hx : sameR c.r d.r = x) : Calls Try.prog 16 #[aggR c, aggR d] w fun e w' => e = .returned (.bool x) ∧ Below w.heap.size w w' := by
  obtain ⟨⟨kd, ky, ln, st⟩, vs⟩ := c
  obtain ⟨⟨kd', ky', ln', st'⟩, vs'⟩ := d
  have HR := h.rs
  obtain ⟨a, cp, e⟩ := HR.form
  have KR := k.rs
  obtain ⟨a', cp', e'⟩ := KR.form
  simp only at e e' hl hl2 hx
  have HX : Hid (sameR ⟨kd, ky, ln, st⟩ ⟨kd', ky', ln', st'⟩ = x) := hx
  clear hx
  subst e e'
  clear h k
  show Calls Try.prog 16 #[.agg #[.int .i64 kd, .string ⟨ky.toArray⟩, .int .i64 ln, .slice a st.length cp], .agg #[.int .i64 kd', .string ⟨ky'.toArray⟩, .int .i64 ln', .slice a' st'.length cp']] w _
  obtain ⟨w1, hw1⟩ : ∃ w1, w1 = (w.alloc (.cells #[.int .i64 kd, .string ⟨ky.toArray⟩, .int .i64 ln, .slice a st.length cp] 25)).alloc (.cells #[.int .i64 kd', .string ⟨ky'.toArray⟩, .int .i64 ln', .slice a' st'.length cp'] 25) := ⟨_, rfl⟩
  have B1 : Below w.heap.size w w1 := by rw [hw1]; exact (belR _ _).trans ((belR _ _).mono (by simp))
  have s1 : w.heap.size + 2 = w1.heap.size := by rw [hw1]; simp
  have K := rints_any (HR.below B1) (KR.below B1) hl hl2
  have c0 : ∀ W, Below w1.heap.size w1 W → (W.cell? ⟨w.heap.size, 0, none⟩ = some (.int .i64 kd) ∧ W.cell? ⟨w.heap.size, 1, none⟩ = some (.string ⟨ky.toArray⟩) ∧ W.cell? ⟨w.heap.size, 2, none⟩ = some (.int .i64 ln)) ∧ W.cell? ⟨w.heap.size + 1, 0, none⟩ = some (.int .i64 kd') ∧ W.cell? ⟨w.heap.size + 1, 1, none⟩ = some (.string ⟨ky'.toArray⟩) ∧ W.cell? ⟨w.heap.size + 1, 2, none⟩ = some (.int .i64 ln') := by
    have g : ∀ j, w1.cell? ⟨w.heap.size, j, none⟩ = #[Value.int .i64 kd, .string ⟨ky.toArray⟩, .int .i64 ln, .slice a st.length cp][j]? := fun j => by
      rw [hw1, World.cell?_alloc_lt _ _ _ (by simp), World.cell?_alloc_new]
    have g' : ∀ j, w1.cell? ⟨w.heap.size + 1, j, none⟩ = #[Value.int .i64 kd', .string ⟨ky'.toArray⟩, .int .i64 ln', .slice a' st'.length cp'][j]? := fun j => by
      rw [hw1, show w.heap.size + 1 = (w.alloc (.cells #[.int .i64 kd, .string ⟨ky.toArray⟩, .int .i64 ln, .slice a st.length cp] 25)).heap.size by simp, World.cell?_alloc_new]
    exact fun W b => ⟨⟨(b.cell (p := ⟨w.heap.size, 0, none⟩) (by show w.heap.size < _; omega)).trans (g 0), (b.cell (p := ⟨w.heap.size, 1, none⟩) (by show w.heap.size < _; omega)).trans (g 1), (b.cell (p := ⟨w.heap.size, 2, none⟩) (by show w.heap.size < _; omega)).trans (g 2)⟩, (b.cell (p := ⟨w.heap.size + 1, 0, none⟩) (by show w.heap.size + 1 < _; omega)).trans (g' 0), (b.cell (p := ⟨w.heap.size + 1, 1, none⟩) (by show w.heap.size + 1 < _; omega)).trans (g' 1), (b.cell (p := ⟨w.heap.size + 1, 2, none⟩) (by show w.heap.size + 1 < _; omega)).trans (g' 2)⟩
  have KP : Hid _ := c0
  clear HR KR c0
  go_enter Try.func16, Try.ntmps16
  go_wp2_with fail
  rw [← hw1]
  clear hw1
  refine K.mono ?_
  rintro _ w2 ⟨rfl, B2⟩
  obtain ⟨⟨x0, x1, x2⟩, y0, y1, y2⟩ := KP.out w2 B2
  have BF := B1.trans (B2.mono (by omega))
  clear K KP
  by_cases h1 : st = st'
  · by_cases h2 : kd = kd'
    · by_cases h3 : ky = ky'
      · by_cases h4 : ln = ln'
        · obtain rfl : x = true := HX.out.symm.trans (sameR_iff.2 (by rw [h1, h2, h3, h4]))
          clear HX
          subst h1 h2 h3 h4
          go_wp2
          go_ret
          exact ⟨by rfl, BF⟩
        · obtain rfl : x = false := HX.out.symm.trans (by simp [sameR, h4])
          clear HX
          subst h1 h2 h3
          have h4' : (ln == ln') = false := beq_eq_false_iff_ne.2 h4
          go_wp2
          go_ret
          exact ⟨by first | rfl | (rw [h4']; rfl), BF⟩
      · obtain rfl : x = false := HX.out.symm.trans (by simp [sameR, h3])
        clear HX
        subst h1 h2
        have h3' : ¬ ky.toArray.toList = ky'.toArray.toList := by simpa using h3
        go_wp2
        go_ret
        exact ⟨by rfl, BF⟩
    · obtain rfl : x = false := HX.out.symm.trans (by simp [sameR, h2])
      clear HX
      subst h1
      go_wp2
      go_ret
      exact ⟨by rfl, BF⟩
  · obtain rfl : x = false := HX.out.symm.trans (by simp [sameR, h1])
    clear HX
    have h1' : decide (st = st') = false := decide_eq_false h1
    rw [h1']
    go_wp2
    go_ret
    exact ⟨by rfl, BF⟩
end Go.Proofs.Ythmoiffkgcnjmaa.Gf

namespace Go.Proofs.Ythmoiffkgcnjmaa.Gf
set_option linter.unusedVariables false
set_option linter.unusedSimpArgs false
open Go.RowKit
set_option maxRecDepth 100000 in
set_option maxHeartbeats 1000000 in
theorem rtwo_any {n : Nat} (hn : n < 65536) {w : World} {u : Int} (hu : u = (n : Int)) : Calls Try.prog 29 #[.int .i64 u] w fun e w' => ∃ v, e = .returned v ∧ w'.ownsRow w.heap.size 5 1 v 2 ((tw n).map vb) ∧ Below w.heap.size w w' := by
  subst hu
  obtain ⟨x0, hx0⟩ : ∃ x, Hid (x = UInt8.ofNat (n / 256)) := ⟨_, rfl⟩
  obtain ⟨x1, hx1⟩ : ∃ x, Hid (x = UInt8.ofNat n) := ⟨_, rfl⟩
  have e0 : (n : Int) / 256 = ((x0.toNat : Nat) : Int) := by rw [hx0.out, UInt8.toNat_ofNat']; omega
  have e1 : (n : Int) % 256 = ((x1.toNat : Nat) : Int) := by rw [hx1.out, UInt8.toNat_ofNat']; omega
  have hF : Hid (tw n = [x0, x1]) := by show _ = _; rw [hx0.out, hx1.out]; rfl
  rw [hF.out]
  clear hF hx0 hx1
  go_enter Try.func29, Try.ntmps29
  go_wp2
  go_ret
  refine ⟨_, rfl, ?_, (Below.refl _ _).alloc (Nat.le_refl _) _⟩
  exact World.ownsRow_lit w #[vb x0, vb x1] 2 (Nat.le_refl _) (by decide) rfl
end Go.Proofs.Ythmoiffkgcnjmaa.Gf

namespace Go.Proofs.Ythmoiffkgcnjmaa.Gf
set_option linter.unusedVariables false
set_option linter.unusedSimpArgs false
open Go.RowKit
/-- what stands ahead of the stripes -/
def preR (r : RcS) : List UInt8 := ([UInt8.ofNat r.kind.toNat, UInt8.ofNat r.key.length] ++ r.key ++ fo r.len.toNat) ++ tw r.st.length
theorem en_pre (r : RcS) : enR r = preR r ++ stB r.st := by
  unfold enR preR
  simp only [List.append_assoc, List.cons_append, List.nil_append]
set_option maxRecDepth 100000 in
set_option maxHeartbeats 4000000 in
theorem renc16_any {w : World} {c : RcV} (h : c.In w) {X : Int} (hX : chR c.r = X) {P : List UInt8} (hP : (if OkR c.r then enR c.r else []) = P) : Calls Try.prog 12 #[aggR c] w (MakesE16 w X P) := by
  obtain ⟨⟨kd, ky, ln, st⟩, vs⟩ := c
  have HR := h.rs
  obtain ⟨a, cp, e⟩ := HR.form
  simp only at e HR hX hP
  subst e
  obtain ⟨w1, hw1⟩ : ∃ w1, w1 = w.alloc (.cells #[.int .i64 kd, .string ⟨ky.toArray⟩, .int .i64 ln, .slice a st.length cp] 25) := ⟨_, rfl⟩
  have B1 : Below w.heap.size w w1 := by rw [hw1]; exact belR _ _
  have s1 : w.heap.size < w1.heap.size := by rw [hw1]; show w.heap.size < (w.heap.push _).size; rw [Array.size_push]; exact Nat.lt_succ_self _
  have c0 : w1.cell? ⟨w.heap.size, 0, none⟩ = some (.int .i64 kd) := by rw [hw1, World.cell?_alloc_new]; rfl
  have c1 : w1.cell? ⟨w.heap.size, 1, none⟩ = some (.string ⟨ky.toArray⟩) := by rw [hw1, World.cell?_alloc_new]; rfl
  have c2 : w1.cell? ⟨w.heap.size, 2, none⟩ = some (.int .i64 ln) := by rw [hw1, World.cell?_alloc_new]; rfl
  have c3 : w1.cell? ⟨w.heap.size, 3, none⟩ = some (.slice a st.length cp) := by rw [hw1, World.cell?_alloc_new]; rfl
  have KP : Hid (∀ W, Below w1.heap.size w1 W → W.cell? ⟨w.heap.size, 0, none⟩ = some (.int .i64 kd) ∧ W.cell? ⟨w.heap.size, 1, none⟩ = some (.string ⟨ky.toArray⟩) ∧ W.cell? ⟨w.heap.size, 2, none⟩ = some (.int .i64 ln) ∧ W.cell? ⟨w.heap.size, 3, none⟩ = some (.slice a st.length cp)) := fun W b =>
    ⟨(b.cell (p := ⟨w.heap.size, 0, none⟩) s1).trans c0, (b.cell (p := ⟨w.heap.size, 1, none⟩) s1).trans c1, (b.cell (p := ⟨w.heap.size, 2, none⟩) s1).trans c2, (b.cell (p := ⟨w.heap.size, 3, none⟩) s1).trans c3⟩
  have K : Calls Try.prog 18 #[.agg #[.int .i64 kd, .string ⟨ky.toArray⟩, .int .i64 ln, .slice a st.length cp]] w1 _ := rchk16_any (h.below B1) hX
  have HR1 := HR.below B1
  obtain ⟨i0, hi, hz0, hz1, hz2⟩ := info_parts info_u8
  clear h HR
  show Calls Try.prog 12 #[.agg #[.int .i64 kd, .string ⟨ky.toArray⟩, .int .i64 ln, .slice a st.length cp]] w _
  go_enter Try.func12, Try.ntmps12
  go_wp2_with fail
  rw [← hw1]
  clear hw1 c0 c1 c2 c3
  refine K.mono ?_
  rintro _ w2 ⟨rfl, B2⟩
  clear K
  by_cases hok : OkR ⟨kd, ky, ln, st⟩
  rotate_left
  · rw [chR, if_neg hok] at hX
    rw [if_neg hok] at hP
    subst hX
    clear KP HR1 hok
    go_wp2
    exact bodyPost_ret (v := .tuple #[.slice none 0 0, .int .i64 1]) (by simp [results, Try.results12, go_sem]) rfl (nilE16 (B1.step16 B2 (Nat.le_of_lt s1)) hP.symm)
  rw [chR, if_pos hok] at hX
  rw [if_pos hok] at hP
  subst hX
  have OK1 : 0 ≤ kd ∧ kd < 256 := by have := hok.1; simp only at this; omega
  have OK2 : ky.length ≤ 64 := hok.2.2.1
  have OK3 : 0 ≤ ln ∧ ln ≤ 2147483647 := ⟨hok.2.2.2.1, hok.2.2.2.2.1⟩
  have OK4 : st.length ≤ 256 := hok.2.2.2.2.2.1
  have OK5 : Hid (∀ s ∈ st, 0 ≤ s ∧ s < 256) := hok.2.2.2.2.2.2.1
  have HP : Hid (P = preR ⟨kd, ky, ln, st⟩ ++ stB st) := hP.symm.trans (en_pre _)
  clear hok hP
  obtain ⟨x0, hx0⟩ : ∃ x, Hid (x = UInt8.ofNat kd.toNat) := ⟨_, rfl⟩
  obtain ⟨x1, hx1⟩ : ∃ x, Hid (x = UInt8.ofNat ky.length) := ⟨_, rfl⟩
  have q0 : IntKind.u8.wrap kd = ((x0.toNat : Nat) : Int) := by rw [hx0.out, ← wrap_u8, Int.toNat_of_nonneg OK1.1]
  have q1 : IntKind.u8.wrap (ky.length : Int) = ((x1.toNat : Nat) : Int) := by rw [hx1.out]; exact wrap_u8 _
  have q2 : IntKind.u32.wrap ln = ln := by rw [IntKind.wrap_u32]; omega
  obtain ⟨k0, k1, k2, k3⟩ := KP.out w2 B2
  have oL : OwnP (w2.alloc (.cells #[.int .u8 ((x0.toNat : Nat) : Int), .int .u8 ((x1.toNat : Nat) : Int)] 5)) w2.heap.size 5 (.slice (some ⟨w2.heap.size, 0, none⟩) 2 2) [x0, x1] := World.ownsRow_lit w2 #[vb x0, vb x1] 2 (Nat.le_refl _) (by decide) rfl
  have bL : Below w2.heap.size w2 (w2.alloc (.cells #[.int .u8 ((x0.toNat : Nat) : Int), .int .u8 ((x1.toNat : Nat) : Int)] 5)) := belR _ _
  have kL : (w2.alloc (.cells #[.int .u8 ((x0.toNat : Nat) : Int), .int .u8 ((x1.toNat : Nat) : Int)] 5)).cell? ⟨w.heap.size, 1, none⟩ = some (.string ⟨ky.toArray⟩) := (KP.out (w2.alloc (.cells #[.int .u8 ((x0.toNat : Nat) : Int), .int .u8 ((x1.toNat : Nat) : Int)] 5)) (B2.step16 bL B2.size)).2.1
  obtain ⟨c4, U4, r4, R4, b4, s4⟩ := conv_key (w2.alloc (.cells #[.int .u8 ((x0.toNat : Nat) : Int), .int .u8 ((x1.toNat : Nat) : Int)] 5)) ky (by unfold maxLen; omega)
  have o4 : OwnP U4 w2.heap.size 5 _ _ := owns_later oL b4
  have B4 : Below w2.heap.size w2 U4 := bL.step16 b4 bL.size
  rw [show (w2.alloc (.cells #[.int .u8 ((x0.toNat : Nat) : Int), .int .u8 ((x1.toNat : Nat) : Int)] 5)).heap.size = w2.heap.size + 1 by simp] at r4 R4
  clear oL bL b4 s4
  go_wp2_with (at_builtin; (refine wpList_append_rd2 _ rfl (.tmp 19) (.tmp 22) 26 rfl w2.heap.size 5 i0 Try.underlying26 hi hz0 hz1 hz2 _ _ _ rfl o4 _ ky rfl R4 (by show 2 + _ ≤ _; omega) B4.size ?_); intro v5 w5 h5 g5 e5; have o5 := cat16 h5; have B5 := B4.grown g5 B4.size (fun q hq => (World.ownsRow.lt o4 q hq).1); clear h5 g5 e5 o4 R4; obtain ⟨k0, k1, k2, k3⟩ := KP.out w5 (B2.step16 B5 B2.size))
  refine (rfour_any (n := ln.toNat) (Int.toNat_of_nonneg OK3.1).symm).mono ?_
  rintro _ w6 ⟨v6, rfl, o6, b6⟩
  have R6 : Rd w6 v6 (fo ln.toNat) := Rd.owned o6
  have p6 := owns_later o5 b6
  have B6 := B5.step16 b6 B5.size
  clear o6 b6 B5 o5
  go_wp2_with (at_builtin; (refine wpList_append_rd2 _ rfl (.tmp 24) (.tmp 28) 26 rfl w2.heap.size 5 i0 Try.underlying26 hi hz0 hz1 hz2 _ _ _ rfl p6 _ _ rfl R6 (by simp [fo_length]; omega) B6.size ?_); intro v7 w7 h7 g7 e7; have o7 := cat16 h7; have B7 := B6.grown g7 B6.size (fun q hq => (World.ownsRow.lt p6 q hq).1); clear h7 g7 e7 p6 R6; obtain ⟨k0, k1, k2, k3⟩ := KP.out w7 (B2.step16 B7 B2.size))
  refine (rtwo_any (n := st.length) (by omega) rfl).mono ?_
  rintro _ w8 ⟨v8, rfl, o8, b8⟩
  have R8 : Rd w8 v8 (tw st.length) := Rd.owned o8
  have p8 := owns_later o7 b8
  have B8 := B7.step16 b8 B7.size
  clear o8 b8 B7 o7
  have HPR : Hid (preR ⟨kd, ky, ln, st⟩ = (([x0, x1] ++ ky) ++ fo ln.toNat) ++ tw st.length) := by show _ = _; rw [hx0.out, hx1.out]; rfl
  have hpl : (preR ⟨kd, ky, ln, st⟩).length ≤ 100 := by rw [HPR.out]; simp [fo_length, tw_length]; omega
  go_wp2_with (at_builtin; (refine wpList_append_rd2 _ rfl (.tmp 30) (.tmp 34) 26 rfl w2.heap.size 5 i0 Try.underlying26 hi hz0 hz1 hz2 _ _ _ rfl p8 _ _ rfl R8 (by simp [fo_length, tw_length]; omega) B8.size ?_); intro v9 w9 h9 g9 e9; have o9 := cat16 h9; have B9 := B8.grown g9 B8.size (fun q hq => (World.ownsRow.lt p8 q hq).1); rw [← HPR.out] at o9; clear h9 g9 e9 p8 R8 B8 HPR hx0 hx1 q0 q1 q2; obtain ⟨k0, k1, k2, k3⟩ := KP.out w9 (B2.step16 B9 B2.size))
  generalize preR ⟨kd, ky, ln, st⟩ = pr at o9 hpl HP
  clear k0 k1 k2 k3
  go_loopw [5, 6] (fun ov i wr => ∃ r : Nat, r ≤ st.length ∧ i = .int .i64 (r : Int) ∧ OwnP wr w2.heap.size 5 ov (pr ++ stB (st.take r)) ∧ Below w2.heap.size w2 wr) (fun _ i _ => st.length - (intOf i).toNat)
  case atStart => exact ⟨0, Nat.zero_le _, rfl, by rw [List.take_zero, show stB [] = [] from rfl, List.append_nil]; exact o9, B9⟩
  case round =>
    obtain ⟨r, hr, rfl, hO, hB⟩ := hrel
    obtain ⟨Q, hQ⟩ : ∃ Q, Hid (Q = pr ++ stB (st.take r)) := ⟨_, rfl⟩
    rw [← hQ.out] at hO
    obtain ⟨oa, oc, rfl⟩ := owns_form hO
    have hB' := B2.step16 hB B2.size
    obtain ⟨k0, k1, k2, k3⟩ := KP.out _ hB'
    by_cases hlt : r < st.length
    · have hlt' : (r : Int) < (st.length : Int) := by omega
      have hrl : (r : Int) ≤ (st.length : Int) := by omega
      obtain ⟨b, off, e, cz⟩ := (HR1.below hB').at16 hlt
      subst e
      have zz := OK5.out _ (List.getElem_mem hlt)
      have ez : st.getD r 0 = st[r] := by rw [List.getD_eq_getElem?_getD, List.getElem?_eq_getElem hlt]; rfl
      have hst : Hid (stB (st.take (r + 1)) = stB (st.take r) ++ tw (st[r]).toNat) := by
        show _ = _
        rw [List.take_succ_eq_append_getElem hlt, stB_append]
        show _ ++ (tw _ ++ []) = _
        rw [List.append_nil]
      have hll : Hid (Q.length ≤ 700) := by show _ ≤ _; rw [hQ.out, List.length_append, stB_length, List.length_take]; omega
      rw [ez] at cz
      generalize st[r] = z at cz zz hst
      clear ez
      go_wp2_with fail
      refine (rtwo_any (n := z.toNat) (by omega) (Int.toNat_of_nonneg zz.1).symm).mono ?_
      rintro _ u1 ⟨v1, rfl, o1, b1⟩
      have R1 : Rd u1 v1 (tw z.toNat) := Rd.owned o1
      have p1 := owns_later hO b1
      have C1 := hB.step16 b1 hB.size
      clear o1 b1 hO hB k0 k1 k2 k3 cz hB'
      have hl3 := hll.out
      go_wp2_with (at_builtin; (refine wpList_append_rd2 _ rfl (.tmp 43) (.tmp 49) 26 rfl w2.heap.size 5 i0 Try.underlying26 hi hz0 hz1 hz2 _ _ _ rfl p1 _ _ rfl R1 (by simp only [List.length_append, tw_length]; omega) C1.size ?_); intro v3 w3 h3 g3 e3; have o3 := cat16 h3; have C3 := C1.grown g3 C1.size (fun q hq => (World.ownsRow.lt p1 q hq).1); rw [hQ.out, List.append_assoc, ← hst.out] at o3; clear h3 g3 e3 p1 R1 C1)
      go_roundw
      case rel => exact ⟨r + 1, by omega, by go_num, o3, C3⟩
      case measure => simp [intOf]; omega
    · obtain rfl : r = st.length := by omega
      have hge : ¬ (st.length : Int) < (st.length : Int) := by omega
      have eQ : Q = P := by rw [hQ.out, List.take_length, ← HP.out]
      have HF : Hid (Rd wr (.slice oa Q.length oc) P ∧ Below w.heap.size w wr) := ⟨by rw [← eQ]; exact Rd.owned hO, B1.step16 hB' (Nat.le_of_lt s1)⟩
      clear eQ
      clear hO
      go_wp2
      exact bodyPost_ret (v := .tuple #[.slice oa Q.length oc, .int .i64 0]) (by simp [results, Try.results12, go_sem]) rfl ⟨_, rfl, HF.out.1, HF.out.2⟩
end Go.Proofs.Ythmoiffkgcnjmaa.Gf
