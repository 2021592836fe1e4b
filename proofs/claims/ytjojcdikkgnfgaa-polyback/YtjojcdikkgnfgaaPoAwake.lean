/-
  THE HEAD OF ALL STATEMENTS OF LAYER 2, 'awake', BY CONTRACT: it answers true, and nothing that was there has turned.
-/
import Derived.Test.YtjojcdikkgnfgaaPoCode
import Derived.Test.YtjojcdikkgnfgaaPoSame
namespace Go.Proofs.Ytjojcdikkgnfgaa.Gf
set_option linter.unusedVariables false
set_option linter.unusedSimpArgs false
open Go.RowKit

theorem div_lit : IsDiv [2, 3, 1] [1, 1] [2, 1] [] := by
  refine ⟨by kernel_rfl, by kernel_rfl, fun i => ?_, by decide +kernel, by decide, by decide⟩
  by_cases h : i < 8
  · have key : ∀ j, j < 8 → co [2, 3, 1] j = conv (co [2, 1]) (co [1, 1]) j ^^^ co [] j := fun j hj =>
      of_decide_eq_true (allB_out (n := 8) (f := fun j => decide (co [2, 3, 1] j = conv (co [2, 1]) (co [1, 1]) j ^^^ co [] j)) (by kernel_rfl) j hj)
    exact key i h
  · rw [co_ge (by simp; omega), co_nil, x_zero, ((co_fin [2, 1]).conv (co_fin [1, 1])) i (by simp; omega)]

set_option maxRecDepth 100000 in
set_option maxHeartbeats 1000000 in
theorem awake2_any (w : World) :
    Calls Try.prog 9 #[] w fun e w' => e = .returned (.bool true) ∧ Below w.heap.size w w' := by
  have e1 : sameB (norm [1, 2, 0, 0]) [1, 2] = true := by kernel_rfl
  have e2 : sameB (mulP [1, 1] [2, 1]) [2, 3, 1] = true := by kernel_rfl
  have e3 : sameB [2, 1] [2, 1] = true := by kernel_rfl
  have e4 : sameB (derP [7, 6, 5, 4]) [6, 0, 4] = true := by kernel_rfl
  have e5 : ((evP [1, 1] 2).toNat : Nat) = 3 := by kernel_rfl
  have e6 : addP [1] [1] = [] := by kernel_rfl
  have E6 : Hid (addP [1] [1] = []) := e6
  clear e6
  go_enter Try.func9, Try.ntmps9
  go_wp2_with fail
  refine (new_any _).mono ?_
  rintro e w1 ⟨rfl, hF, hO⟩
  have B1 := hO.below
  clear hO
  go_wp2_with fail
  have l1 : Rd (World.alloc w1 (.cells #[.int .u8 1, .int .u8 2, .int .u8 0, .int .u8 0] 5)) (.slice (some ⟨World.heap w1 |>.size, 0, none⟩) 4 4) [1, 2, 0, 0] := rd_lit [1, 2, 0, 0] rfl rfl (by decide)
  refine (pnorm_any l1 (by decide)).mono ?_
  rintro e w2 ⟨v2, rfl, r2, b⟩
  have F2 := hF.below (Below.next (by repeat (first | exact Below.refl _ _ | apply Below.draws | apply below_lit)) b)
  have B2 := Below.next B1 (Below.next (by repeat (first | exact Below.refl _ _ | apply Below.draws | apply below_lit)) b)
  clear b hF B1 l1
  go_wp2_with fail
  have l2 : Rd (World.alloc w2 (.cells #[.int .u8 1, .int .u8 2] 5)) (.slice (some ⟨World.heap w2 |>.size, 0, none⟩) 2 2) [1, 2] := rd_lit [1, 2] rfl rfl (by decide)
  refine (same_b (r2.below (by repeat (first | exact Below.refl _ _ | apply Below.draws | apply below_lit))) l2).mono ?_
  rintro e w3 ⟨rfl, b⟩
  have F3 := F2.below (Below.next (by repeat (first | exact Below.refl _ _ | apply Below.draws | apply below_lit)) b)
  have B3 := Below.next B2 (Below.next (by repeat (first | exact Below.refl _ _ | apply Below.draws | apply below_lit)) b)
  clear b F2 B2 l2 r2
  go_wp2_with fail
  have la : Rd (World.alloc w3 (.cells #[.int .u8 1, .int .u8 1] 5)) (.slice (some ⟨World.heap w3 |>.size, 0, none⟩) 2 2) [1, 1] := rd_lit [1, 1] rfl rfl (by decide)
  have lb : Rd (World.alloc (World.alloc w3 (.cells #[.int .u8 1, .int .u8 1] 5)) (.cells #[.int .u8 2, .int .u8 1] 5)) (.slice (some ⟨World.heap (World.alloc w3 (.cells #[.int .u8 1, .int .u8 1] 5)) |>.size, 0, none⟩) 2 2) [2, 1] := rd_lit [2, 1] rfl rfl (by decide)
  simp only [World.size_alloc] at lb
  refine (pmul_any (F3.below (by repeat (first | exact Below.refl _ _ | apply Below.draws | apply below_lit))) (la.below (by repeat (first | exact Below.refl _ _ | apply Below.draws | apply below_lit))) lb (by decide) (by decide)).mono ?_
  rintro e w4 ⟨v4, rfl, r4, b⟩
  have F4 := F3.below (Below.next (by repeat (first | exact Below.refl _ _ | apply Below.draws | apply below_lit)) b)
  have B4 := Below.next B3 (Below.next (by repeat (first | exact Below.refl _ _ | apply Below.draws | apply below_lit)) b)
  clear b F3 B3 la lb
  go_wp2_with fail
  have la : Rd (World.alloc w4 (.cells #[.int .u8 2, .int .u8 3, .int .u8 1] 5)) (.slice (some ⟨World.heap w4 |>.size, 0, none⟩) 3 3) [2, 3, 1] := rd_lit [2, 3, 1] rfl rfl (by decide)
  refine (same_b (r4.below (by repeat (first | exact Below.refl _ _ | apply Below.draws | apply below_lit))) la).mono ?_
  rintro e w5 ⟨rfl, b⟩
  have F5 := F4.below (Below.next (by repeat (first | exact Below.refl _ _ | apply Below.draws | apply below_lit)) b)
  have B5 := Below.next B4 (Below.next (by repeat (first | exact Below.refl _ _ | apply Below.draws | apply below_lit)) b)
  clear b F4 B4 la r4
  go_wp2_with fail
  have la : Rd (World.alloc w5 (.cells #[.int .u8 2, .int .u8 3, .int .u8 1] 5)) (.slice (some ⟨World.heap w5 |>.size, 0, none⟩) 3 3) [2, 3, 1] := rd_lit [2, 3, 1] rfl rfl (by decide)
  have lb : Rd (World.alloc (World.alloc w5 (.cells #[.int .u8 2, .int .u8 3, .int .u8 1] 5)) (.cells #[.int .u8 1, .int .u8 1] 5)) (.slice (some ⟨World.heap (World.alloc w5 (.cells #[.int .u8 2, .int .u8 3, .int .u8 1] 5)) |>.size, 0, none⟩) 2 2) [1, 1] := rd_lit [1, 1] rfl rfl (by decide)
  simp only [World.size_alloc] at lb
  refine (pdivide_any (F5.below (by repeat (first | exact Below.refl _ _ | apply Below.draws | apply below_lit))) (la.below (by repeat (first | exact Below.refl _ _ | apply Below.draws | apply below_lit))) lb (by decide) (by decide) (by decide +kernel)).mono ?_
  rintro e w6 ⟨vs, vr, s, r, rfl, hdiv, rs, rr, b⟩
  obtain ⟨es, er⟩ := hdiv.unique div_lit
  subst es er
  clear hdiv
  obtain ⟨ar, cr, er⟩ := rr.form
  subst er
  have F6 := F5.below (Below.next (by repeat (first | exact Below.refl _ _ | apply Below.draws | apply below_lit)) b)
  have B6 := Below.next B5 (Below.next (by repeat (first | exact Below.refl _ _ | apply Below.draws | apply below_lit)) b)
  clear b F5 B5 la lb
  go_wp2_with fail
  have la : Rd (World.alloc w6 (.cells #[.int .u8 2, .int .u8 1] 5)) (.slice (some ⟨World.heap w6 |>.size, 0, none⟩) 2 2) [2, 1] := rd_lit [2, 1] rfl rfl (by decide)
  refine (same_b (rs.below (by repeat (first | exact Below.refl _ _ | apply Below.draws | apply below_lit))) la).mono ?_
  rintro e w7 ⟨rfl, b⟩
  have F7 := F6.below (Below.next (by repeat (first | exact Below.refl _ _ | apply Below.draws | apply below_lit)) b)
  have B7 := Below.next B6 (Below.next (by repeat (first | exact Below.refl _ _ | apply Below.draws | apply below_lit)) b)
  clear b F6 B6 la rs rr
  go_wp2_with fail
  have la : Rd (World.alloc w7 (.cells #[.int .u8 1] 5)) (.slice (some ⟨World.heap w7 |>.size, 0, none⟩) 1 1) [1] := rd_lit [1] rfl rfl (by decide)
  have lb : Rd (World.alloc (World.alloc w7 (.cells #[.int .u8 1] 5)) (.cells #[.int .u8 0] 5)) (.slice (some ⟨World.heap (World.alloc w7 (.cells #[.int .u8 1] 5)) |>.size, 0, none⟩) 1 1) [0] := rd_lit [0] rfl rfl (by decide)
  simp only [World.size_alloc] at lb
  refine (pdivide_zero (F7.below (by repeat (first | exact Below.refl _ _ | apply Below.draws | apply below_lit))) (la.below (by repeat (first | exact Below.refl _ _ | apply Below.draws | apply below_lit))) lb (by decide) (by decide) (by decide +kernel)).mono ?_
  rintro e w8 ⟨vs8, vr8, rfl, _, _, b⟩
  have F8 := F7.below (Below.next (by repeat (first | exact Below.refl _ _ | apply Below.draws | apply below_lit)) b)
  have B8 := Below.next B7 (Below.next (by repeat (first | exact Below.refl _ _ | apply Below.draws | apply below_lit)) b)
  clear b F7 B7 la lb
  go_wp2_with fail
  have la : Rd (World.alloc w8 (.cells #[.int .u8 7, .int .u8 6, .int .u8 5, .int .u8 4] 5)) (.slice (some ⟨World.heap w8 |>.size, 0, none⟩) 4 4) [7, 6, 5, 4] := rd_lit [7, 6, 5, 4] rfl rfl (by decide)
  refine (pderiv_any la (by decide)).mono ?_
  rintro e w9 ⟨v9, rfl, r9, b⟩
  have F9 := F8.below (Below.next (by repeat (first | exact Below.refl _ _ | apply Below.draws | apply below_lit)) b)
  have B9 := Below.next B8 (Below.next (by repeat (first | exact Below.refl _ _ | apply Below.draws | apply below_lit)) b)
  clear b F8 B8 la
  go_wp2_with fail
  have la : Rd (World.alloc w9 (.cells #[.int .u8 6, .int .u8 0, .int .u8 4] 5)) (.slice (some ⟨World.heap w9 |>.size, 0, none⟩) 3 3) [6, 0, 4] := rd_lit [6, 0, 4] rfl rfl (by decide)
  refine (same_b (r9.below (by repeat (first | exact Below.refl _ _ | apply Below.draws | apply below_lit))) la).mono ?_
  rintro e w10 ⟨rfl, b⟩
  have F10 := F9.below (Below.next (by repeat (first | exact Below.refl _ _ | apply Below.draws | apply below_lit)) b)
  have B10 := Below.next B9 (Below.next (by repeat (first | exact Below.refl _ _ | apply Below.draws | apply below_lit)) b)
  clear b F9 B9 la r9
  go_wp2_with fail
  have la : Rd (World.alloc w10 (.cells #[.int .u8 1, .int .u8 1] 5)) (.slice (some ⟨World.heap w10 |>.size, 0, none⟩) 2 2) [1, 1] := rd_lit [1, 1] rfl rfl (by decide)
  refine (peval_any (F10.below (by repeat (first | exact Below.refl _ _ | apply Below.draws | apply below_lit))) la 2 rfl (by decide)).mono ?_
  rintro e w11 ⟨rfl, b⟩
  have F11 := F10.below (Below.next (by repeat (first | exact Below.refl _ _ | apply Below.draws | apply below_lit)) b)
  have B11 := Below.next B10 (Below.next (by repeat (first | exact Below.refl _ _ | apply Below.draws | apply below_lit)) b)
  clear b F10 B10 la
  go_wp2_with fail
  have la : Rd (World.alloc w11 (.cells #[.int .u8 1] 5)) (.slice (some ⟨World.heap w11 |>.size, 0, none⟩) 1 1) [1] := rd_lit [1] rfl rfl (by decide)
  have lb : Rd (World.alloc (World.alloc w11 (.cells #[.int .u8 1] 5)) (.cells #[.int .u8 1] 5)) (.slice (some ⟨World.heap (World.alloc w11 (.cells #[.int .u8 1] 5)) |>.size, 0, none⟩) 1 1) [1] := rd_lit [1] rfl rfl (by decide)
  simp only [World.size_alloc] at lb
  refine (padd_any (la.below (by repeat (first | exact Below.refl _ _ | apply Below.draws | apply below_lit))) lb (by decide) (by decide)).mono ?_
  rintro e w12 ⟨v12, rfl, r12, b⟩
  have B12 := Below.next B11 (Below.next (by repeat (first | exact Below.refl _ _ | apply Below.draws | apply below_lit)) b)
  rw [E6.out] at r12
  obtain ⟨a12, c12, e12⟩ := r12.form
  subst e12
  clear b B11 F11 la lb r12
  go_wp2
  go_ret
  exact ⟨rfl, B12⟩

end Go.Proofs.Ytjojcdikkgnfgaa.Gf
