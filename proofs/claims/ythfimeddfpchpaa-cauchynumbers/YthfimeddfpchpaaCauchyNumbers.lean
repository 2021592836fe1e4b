/- PROVED: for all numbers k, m, i, j and n the call CauchyNumbers(k, m, i, j, n) returns true; no conditions. -/
import Derived.Test.YthfimeddfpchpaaRows
import Derived.Test.YthfimeddfpchpaaCaAwake
import Derived.Test.YthfimeddfpchpaaCaLaws
import Derived.Test.YthfimeddfpchpaaPoShort1
import Derived.WalkKit
import Derived.ProofKit
import Derived.OpenShut
import Derived.ShutString
namespace Go.Proofs.Ythfimeddfpchpaa.cauchyNumbers
open Go.ChangeShapes Go.WideShapes Go.ChangeAt Go.RowKit
open Go.ChangeMaps (open_string shut_string)
set_option linter.unusedVariables false      -- a walk need not use every 'w<i>' (that an integer argument fits its kind)

theorem own : ownKnob Try.prog.godebug = none := by kernel_rfl

open Gf
set_option linter.unusedSimpArgs false
set_option maxRecDepth 100000 in
set_option maxHeartbeats 2000000 in
theorem walk (a0 : Int) (a1 : Int) (a2 : Int) (a3 : Int) (a4 : Int) (w0 : (Lit.int .i64 a0).wf = true) (w1 : (Lit.int .i64 a1).wf = true) (w2 : (Lit.int .i64 a2).wf = true) (w3 : (Lit.int .i64 a3).wf = true) (w4 : (Lit.int .i64 a4).wf = true) (w : World) :
    Calls Try.prog 8 #[.int .i64 a0, .int .i64 a1, .int .i64 a2, .int .i64 a3, .int .i64 a4] w fun e w' => e = .returned (.bool true) ∧ Below w.heap.size w w' := by
  clear w0 w1 w2 w3 w4
  by_cases hok : OkC a0 a1
  · obtain ⟨k, m, e1, e2, h1, h2⟩ := hok.nat
    subst e1 e2
    obtain ⟨N, hN⟩ : ∃ N, Hid (N = k + m) := ⟨_, rfl⟩
    have gN : (k : Int) + (m : Int) = (N : Int) := by have := hN.out; omega
    have hN2 : N ≤ 256 := by have := hN.out; omega
    by_cases h40 : N ≤ 40
    · have h40' : ¬ (N : Int) > 40 := by omega
      by_cases hi0 : 0 ≤ a2
      · by_cases him : a2 < (m : Int)
        · by_cases hj0 : 0 ≤ a3
          · by_cases hjk : a3 < (k : Int)
            · obtain ⟨i, ei⟩ := Int.eq_ofNat_of_zero_le hi0
              subst ei
              obtain ⟨j, ej⟩ := Int.eq_ofNat_of_zero_le hj0
              subst ej
              have hi : i < m := by omega
              have hj : j < k := by omega
              have hi1 : ¬ (i : Int) < 0 := by omega
              have hi2 : ¬ (i : Int) ≥ (m : Int) := by omega
              have hj1 : ¬ (j : Int) < 0 := by omega
              have hj2 : ¬ (j : Int) ≥ (k : Int) := by omega
              obtain ⟨Lp, hLp⟩ : ∃ L, Hid (L = flat m k (parF k)) := ⟨_, rfl⟩
              have hLl : Hid (Lp.length = m * k) := by show _ = _; rw [hLp.out, flat_length]
              have gL : (m : Int) * (k : Int) = (Lp.length : Int) := by rw [hLl.out]; exact_mod_cast rfl
              have hLs : Lp.length ≤ 65536 := by rw [hLl.out]; exact mul_small (by omega) (by omega)
              have gwL : IntKind.i64.wrap (Lp.length : Int) = (Lp.length : Int) := by rw [IntKind.wrap_i64]; omega
              obtain ⟨p1, ep1⟩ : ∃ p1, Hid (p1 = i * k) := ⟨_, rfl⟩
              have g1 : (i : Int) * (k : Int) = (p1 : Int) := by rw [ep1.out]; exact_mod_cast rfl
              obtain ⟨t, et⟩ : ∃ t, Hid (t = p1 + j) := ⟨_, rfl⟩
              have g1b : (p1 : Int) + (j : Int) = (t : Int) := by have := et.out; omega
              have htl : t < Lp.length := by rw [et.out, ep1.out, hLl.out]; exact place_lt hi hj
              have htl' : (t : Int) < (Lp.length : Int) := by omega
              have gw1 : IntKind.i64.wrap (p1 : Int) = (p1 : Int) := by rw [IntKind.wrap_i64]; have := et.out; omega
              have gw1b : IntKind.i64.wrap (t : Int) = (t : Int) := by rw [IntKind.wrap_i64]; omega
              have HT : Hid (co Lp t = parF k i j) := by show _ = _; rw [hLp.out, et.out, ep1.out]; exact co_flat hi hj
              have hLp0 : Lp ≠ [] := fun e => by rw [e] at htl; simp at htl
              obtain ⟨q, eq⟩ : ∃ q, Hid (q = k + i) := ⟨_, rfl⟩
              have gq : (k : Int) + (i : Int) = (q : Int) := by have := eq.out; omega
              have hq : q < 256 := by have := eq.out; omega
              have mq : (q : Int) % 256 = (q : Int) := by omega
              have mj : (j : Int) % 256 = (j : Int) := by omega
              have X := pt_xor hq (show j < 256 by omega)
              have HM : Hid (mu (parF k i j) (pt q ^^^ pt j) = 1) := by show _ = _; rw [eq.out]; exact par_one (by omega) hj
              go_enter Try.func8, Try.ntmps8
              have B : Below w.heap.size w w := Below.refl _ _
              go_wp2_with fail
              refine (awake5_any _).mono ?_
              rintro e u1 ⟨rfl, b⟩
              have D : Below (World.heap w |>.size) w u1 := Below.next (by repeat (first | exact Below.refl _ _ | apply Below.draws | apply below_lit)) b
              have sD := D.size
              replace B := Below.next B D
              clear b D sD
              go_wp2_with fail
              refine (new_any _).mono ?_
              rintro e u2 ⟨rfl, F, hO⟩
              have b := hO.below
              clear hO
              have D : Below (World.heap u1 |>.size) u1 u2 := Below.next (by repeat (first | exact Below.refl _ _ | apply Below.draws | apply below_lit)) b
              have sD := D.size
              replace B := Below.next B D
              clear b D sD
              go_wp2_with fail
              refine (ccheck_ok _ hok).mono ?_
              rintro e u3 ⟨rfl, b⟩
              have D : Below (World.heap u2 |>.size) u2 u3 := Below.next (by repeat (first | exact Below.refl _ _ | apply Below.draws | apply below_lit)) b
              have sD := D.size
              replace F := F.below D
              replace B := Below.next B D
              clear b D sD
              go_wp2_with fail
              refine (cpar_ok k m (F.below (by repeat (first | exact Below.refl _ _ | apply Below.draws | apply below_lit))) h1 h2 rfl rfl).mono ?_
              rintro e u4 ⟨vp, rfl, Rp, b⟩
              have D : Below (World.heap u3 |>.size) u3 u4 := Below.next (by repeat (first | exact Below.refl _ _ | apply Below.draws | apply below_lit)) b
              have sD := D.size
              replace F := F.below D
              replace B := Below.next B D
              clear b D sD
              rw [← hLp.out] at Rp
              obtain ⟨gp, op, cp, rfl⟩ := Rp.somewhere hLp0
              have c1 := Rp.cellAt (i := t) htl
              rw [HT.out] at c1
              have qp : gp < (World.heap u4 |>.size) := World.block_lt_of_cell? u4 _ c1
              clear c1
              have c1 := Rp.cellAt (i := t) htl
              rw [HT.out] at c1
              go_wp2_with fail
              refine (fmu_at (F.below (by repeat (first | exact Below.refl _ _ | apply Below.draws | apply below_lit))) (parF k i j) (pt q ^^^ pt j) rfl rfl).mono ?_
              rintro e u5 ⟨rfl, b⟩
              rw [HM.out]
              have D : Below (World.heap u4 |>.size) u4 u5 := Below.next (by repeat (first | exact Below.refl _ _ | apply Below.draws | apply below_lit)) b
              have sD := D.size
              replace F := F.below D
              replace Rp := Rp.below D
              have Xp : Box u5 (World.heap u4 |>.size) _ _ _ := Below.box b (by simp <;> omega) (by first | exact Box.new _ _ _ _ _ | exact (Box.new _ _ _ _ _).alloc (by simp) _ | exact ((Box.new _ _ _ _ _).alloc (by simp) _).alloc (by simp <;> omega) _)
              have lp : (World.heap u4 |>.size) < (World.heap u5 |>.size) := by have := b.size; simp at this; omega
              replace B := Below.next B D
              clear b D sD
              have xp0 := Xp.c0
              have xp1 := Xp.c1
              have xp2 := Xp.c2
              clear c1 qp
              by_cases hneg : 0 ≤ a4
              · obtain ⟨n, en⟩ := Int.eq_ofNat_of_zero_le hneg
                subst en
                have dn : ¬ (n : Int) < 0 := by omega
                have dn2 : (n : Int) ≥ 0 := by omega
                by_cases hnk : n < k
                · by_cases hnj : n = j
                  · have dk : (n : Int) < (k : Int) := by omega
                    have dj : ((n : Int) != (j : Int)) = false := by rw [hnj]; simp
                    by_cases hnm : n < m
                    · by_cases hni : n = i
                      · have dm : ¬ (n : Int) ≥ (m : Int) := by omega
                        have di : ((n : Int) == (i : Int)) = true := by rw [beq_iff_eq]; omega
                        clear Rp
                        try clear hnj
                        try clear hni
                        go_wp2
                        go_ret
                        exact ⟨rfl, B⟩
                      · have dm : ¬ (n : Int) ≥ (m : Int) := by omega
                        have di : ((n : Int) == (i : Int)) = false := by rw [beq_eq_false_iff_ne]; omega
                        obtain ⟨p3, ep3⟩ : ∃ p3, Hid (p3 = n * k) := ⟨_, rfl⟩
                        have g3 : (n : Int) * (k : Int) = (p3 : Int) := by rw [ep3.out]; exact_mod_cast rfl
                        obtain ⟨t3, et3⟩ : ∃ t3, Hid (t3 = p3 + j) := ⟨_, rfl⟩
                        have g4 : (p3 : Int) + (j : Int) = (t3 : Int) := by have := et3.out; omega
                        have ht3 : t3 < Lp.length := by rw [et3.out, ep3.out, hLl.out]; exact place_lt hnm hj
                        have ht3' : (t3 : Int) < (Lp.length : Int) := by omega
                        have gw3 : IntKind.i64.wrap (p3 : Int) = (p3 : Int) := by rw [IntKind.wrap_i64]; have := et3.out; omega
                        have gw4 : IntKind.i64.wrap (t3 : Int) = (t3 : Int) := by rw [IntKind.wrap_i64]; omega
                        have H3 : Hid (co Lp t3 = parF k n j) := by show _ = _; rw [hLp.out, et3.out, ep3.out]; exact co_flat hnm hj
                        have dy : ((((parF k n j).toNat : Nat) : Int) != (((parF k i j).toNat : Nat) : Int)) = true := by rw [ne_u8]; exact decide_eq_true (par_col (by omega) (by omega) hj hni)
                        have c3 := Rp.cellAt (i := t3) ht3
                        rw [H3.out] at c3
                        clear Rp
                        try clear hnj
                        try clear hni
                        go_wp2
                        go_ret
                        exact ⟨rfl, B⟩
                    · have dm : (n : Int) ≥ (m : Int) := by omega
                      clear Rp
                      try clear hnj
                      try clear hni
                      go_wp2
                      go_ret
                      exact ⟨rfl, B⟩
                  · have dk : (n : Int) < (k : Int) := by omega
                    have dj : ((n : Int) != (j : Int)) = true := by simp; omega
                    obtain ⟨t2, et2⟩ : ∃ t2, Hid (t2 = p1 + n) := ⟨_, rfl⟩
                    have g2 : (p1 : Int) + (n : Int) = (t2 : Int) := by have := et2.out; omega
                    have ht2 : t2 < Lp.length := by rw [et2.out, ep1.out, hLl.out]; exact place_lt hi hnk
                    have ht2' : (t2 : Int) < (Lp.length : Int) := by omega
                    have gw2 : IntKind.i64.wrap (t2 : Int) = (t2 : Int) := by rw [IntKind.wrap_i64]; omega
                    have H2 : Hid (co Lp t2 = parF k i n) := by show _ = _; rw [hLp.out, et2.out, ep1.out]; exact co_flat hi hnk
                    have dx : ((((parF k i n).toNat : Nat) : Int) == (((parF k i j).toNat : Nat) : Int)) = false := by rw [eq_u8]; exact decide_eq_false (par_row (by omega) hj hnk hnj)
                    by_cases hnm : n < m
                    · by_cases hni : n = i
                      · have dm : ¬ (n : Int) ≥ (m : Int) := by omega
                        have di : ((n : Int) == (i : Int)) = true := by rw [beq_iff_eq]; omega
                        have c2 := Rp.cellAt (i := t2) ht2
                        rw [H2.out] at c2
                        clear Rp
                        try clear hnj
                        try clear hni
                        go_wp2
                        go_ret
                        exact ⟨rfl, B⟩
                      · have dm : ¬ (n : Int) ≥ (m : Int) := by omega
                        have di : ((n : Int) == (i : Int)) = false := by rw [beq_eq_false_iff_ne]; omega
                        obtain ⟨p3, ep3⟩ : ∃ p3, Hid (p3 = n * k) := ⟨_, rfl⟩
                        have g3 : (n : Int) * (k : Int) = (p3 : Int) := by rw [ep3.out]; exact_mod_cast rfl
                        obtain ⟨t3, et3⟩ : ∃ t3, Hid (t3 = p3 + j) := ⟨_, rfl⟩
                        have g4 : (p3 : Int) + (j : Int) = (t3 : Int) := by have := et3.out; omega
                        have ht3 : t3 < Lp.length := by rw [et3.out, ep3.out, hLl.out]; exact place_lt hnm hj
                        have ht3' : (t3 : Int) < (Lp.length : Int) := by omega
                        have gw3 : IntKind.i64.wrap (p3 : Int) = (p3 : Int) := by rw [IntKind.wrap_i64]; have := et3.out; omega
                        have gw4 : IntKind.i64.wrap (t3 : Int) = (t3 : Int) := by rw [IntKind.wrap_i64]; omega
                        have H3 : Hid (co Lp t3 = parF k n j) := by show _ = _; rw [hLp.out, et3.out, ep3.out]; exact co_flat hnm hj
                        have dy : ((((parF k n j).toNat : Nat) : Int) != (((parF k i j).toNat : Nat) : Int)) = true := by rw [ne_u8]; exact decide_eq_true (par_col (by omega) (by omega) hj hni)
                        have c2 := Rp.cellAt (i := t2) ht2
                        rw [H2.out] at c2
                        have c3 := Rp.cellAt (i := t3) ht3
                        rw [H3.out] at c3
                        clear Rp
                        try clear hnj
                        try clear hni
                        go_wp2
                        go_ret
                        exact ⟨rfl, B⟩
                    · have dm : (n : Int) ≥ (m : Int) := by omega
                      have c2 := Rp.cellAt (i := t2) ht2
                      rw [H2.out] at c2
                      clear Rp
                      try clear hnj
                      try clear hni
                      go_wp2
                      go_ret
                      exact ⟨rfl, B⟩
                · have dk : ¬ (n : Int) < (k : Int) := by omega
                  by_cases hnm : n < m
                  · by_cases hni : n = i
                    · have dm : ¬ (n : Int) ≥ (m : Int) := by omega
                      have di : ((n : Int) == (i : Int)) = true := by rw [beq_iff_eq]; omega
                      clear Rp
                      try clear hnj
                      try clear hni
                      go_wp2
                      go_ret
                      exact ⟨rfl, B⟩
                    · have dm : ¬ (n : Int) ≥ (m : Int) := by omega
                      have di : ((n : Int) == (i : Int)) = false := by rw [beq_eq_false_iff_ne]; omega
                      obtain ⟨p3, ep3⟩ : ∃ p3, Hid (p3 = n * k) := ⟨_, rfl⟩
                      have g3 : (n : Int) * (k : Int) = (p3 : Int) := by rw [ep3.out]; exact_mod_cast rfl
                      obtain ⟨t3, et3⟩ : ∃ t3, Hid (t3 = p3 + j) := ⟨_, rfl⟩
                      have g4 : (p3 : Int) + (j : Int) = (t3 : Int) := by have := et3.out; omega
                      have ht3 : t3 < Lp.length := by rw [et3.out, ep3.out, hLl.out]; exact place_lt hnm hj
                      have ht3' : (t3 : Int) < (Lp.length : Int) := by omega
                      have gw3 : IntKind.i64.wrap (p3 : Int) = (p3 : Int) := by rw [IntKind.wrap_i64]; have := et3.out; omega
                      have gw4 : IntKind.i64.wrap (t3 : Int) = (t3 : Int) := by rw [IntKind.wrap_i64]; omega
                      have H3 : Hid (co Lp t3 = parF k n j) := by show _ = _; rw [hLp.out, et3.out, ep3.out]; exact co_flat hnm hj
                      have dy : ((((parF k n j).toNat : Nat) : Int) != (((parF k i j).toNat : Nat) : Int)) = true := by rw [ne_u8]; exact decide_eq_true (par_col (by omega) (by omega) hj hni)
                      have c3 := Rp.cellAt (i := t3) ht3
                      rw [H3.out] at c3
                      clear Rp
                      try clear hnj
                      try clear hni
                      go_wp2
                      go_ret
                      exact ⟨rfl, B⟩
                  · have dm : (n : Int) ≥ (m : Int) := by omega
                    clear Rp
                    try clear hnj
                    try clear hni
                    go_wp2
                    go_ret
                    exact ⟨rfl, B⟩
              · have dn : a4 < 0 := by omega
                have dn2 : ¬ a4 ≥ 0 := by omega
                clear Rp
                try clear hnj
                try clear hni
                go_wp2
                go_ret
                exact ⟨rfl, B⟩
            · have x1 : ¬ a2 < 0 := by omega
              have x2 : ¬ a2 ≥ (m : Int) := by omega
              have x3 : ¬ a3 < 0 := by omega
              have x4 : a3 ≥ (k : Int) := by omega
              go_enter Try.func8, Try.ntmps8
              have B : Below w.heap.size w w := Below.refl _ _
              go_wp2_with fail
              refine (awake5_any _).mono ?_
              rintro e u1 ⟨rfl, b⟩
              have D : Below (World.heap w |>.size) w u1 := Below.next (by repeat (first | exact Below.refl _ _ | apply Below.draws | apply below_lit)) b
              have sD := D.size
              replace B := Below.next B D
              clear b D sD
              go_wp2_with fail
              refine (new_any _).mono ?_
              rintro e u2 ⟨rfl, F, hO⟩
              have b := hO.below
              clear hO
              have D : Below (World.heap u1 |>.size) u1 u2 := Below.next (by repeat (first | exact Below.refl _ _ | apply Below.draws | apply below_lit)) b
              have sD := D.size
              replace B := Below.next B D
              clear b D sD
              go_wp2_with fail
              refine (ccheck_ok _ hok).mono ?_
              rintro e u3 ⟨rfl, b⟩
              have D : Below (World.heap u2 |>.size) u2 u3 := Below.next (by repeat (first | exact Below.refl _ _ | apply Below.draws | apply below_lit)) b
              have sD := D.size
              replace F := F.below D
              replace B := Below.next B D
              clear b D sD
              go_wp2
              go_ret
              exact ⟨rfl, Below.next B (by repeat (first | exact Below.refl _ _ | apply Below.draws | apply below_lit))⟩
          · have x1 : ¬ a2 < 0 := by omega
            have x2 : ¬ a2 ≥ (m : Int) := by omega
            have x3 : a3 < 0 := by omega
            go_enter Try.func8, Try.ntmps8
            have B : Below w.heap.size w w := Below.refl _ _
            go_wp2_with fail
            refine (awake5_any _).mono ?_
            rintro e u1 ⟨rfl, b⟩
            have D : Below (World.heap w |>.size) w u1 := Below.next (by repeat (first | exact Below.refl _ _ | apply Below.draws | apply below_lit)) b
            have sD := D.size
            replace B := Below.next B D
            clear b D sD
            go_wp2_with fail
            refine (new_any _).mono ?_
            rintro e u2 ⟨rfl, F, hO⟩
            have b := hO.below
            clear hO
            have D : Below (World.heap u1 |>.size) u1 u2 := Below.next (by repeat (first | exact Below.refl _ _ | apply Below.draws | apply below_lit)) b
            have sD := D.size
            replace B := Below.next B D
            clear b D sD
            go_wp2_with fail
            refine (ccheck_ok _ hok).mono ?_
            rintro e u3 ⟨rfl, b⟩
            have D : Below (World.heap u2 |>.size) u2 u3 := Below.next (by repeat (first | exact Below.refl _ _ | apply Below.draws | apply below_lit)) b
            have sD := D.size
            replace F := F.below D
            replace B := Below.next B D
            clear b D sD
            go_wp2
            go_ret
            exact ⟨rfl, Below.next B (by repeat (first | exact Below.refl _ _ | apply Below.draws | apply below_lit))⟩
        · have x1 : ¬ a2 < 0 := by omega
          have x2 : a2 ≥ (m : Int) := by omega
          go_enter Try.func8, Try.ntmps8
          have B : Below w.heap.size w w := Below.refl _ _
          go_wp2_with fail
          refine (awake5_any _).mono ?_
          rintro e u1 ⟨rfl, b⟩
          have D : Below (World.heap w |>.size) w u1 := Below.next (by repeat (first | exact Below.refl _ _ | apply Below.draws | apply below_lit)) b
          have sD := D.size
          replace B := Below.next B D
          clear b D sD
          go_wp2_with fail
          refine (new_any _).mono ?_
          rintro e u2 ⟨rfl, F, hO⟩
          have b := hO.below
          clear hO
          have D : Below (World.heap u1 |>.size) u1 u2 := Below.next (by repeat (first | exact Below.refl _ _ | apply Below.draws | apply below_lit)) b
          have sD := D.size
          replace B := Below.next B D
          clear b D sD
          go_wp2_with fail
          refine (ccheck_ok _ hok).mono ?_
          rintro e u3 ⟨rfl, b⟩
          have D : Below (World.heap u2 |>.size) u2 u3 := Below.next (by repeat (first | exact Below.refl _ _ | apply Below.draws | apply below_lit)) b
          have sD := D.size
          replace F := F.below D
          replace B := Below.next B D
          clear b D sD
          go_wp2
          go_ret
          exact ⟨rfl, Below.next B (by repeat (first | exact Below.refl _ _ | apply Below.draws | apply below_lit))⟩
      · have x1 : a2 < 0 := by omega
        go_enter Try.func8, Try.ntmps8
        have B : Below w.heap.size w w := Below.refl _ _
        go_wp2_with fail
        refine (awake5_any _).mono ?_
        rintro e u1 ⟨rfl, b⟩
        have D : Below (World.heap w |>.size) w u1 := Below.next (by repeat (first | exact Below.refl _ _ | apply Below.draws | apply below_lit)) b
        have sD := D.size
        replace B := Below.next B D
        clear b D sD
        go_wp2_with fail
        refine (new_any _).mono ?_
        rintro e u2 ⟨rfl, F, hO⟩
        have b := hO.below
        clear hO
        have D : Below (World.heap u1 |>.size) u1 u2 := Below.next (by repeat (first | exact Below.refl _ _ | apply Below.draws | apply below_lit)) b
        have sD := D.size
        replace B := Below.next B D
        clear b D sD
        go_wp2_with fail
        refine (ccheck_ok _ hok).mono ?_
        rintro e u3 ⟨rfl, b⟩
        have D : Below (World.heap u2 |>.size) u2 u3 := Below.next (by repeat (first | exact Below.refl _ _ | apply Below.draws | apply below_lit)) b
        have sD := D.size
        replace F := F.below D
        replace B := Below.next B D
        clear b D sD
        go_wp2
        go_ret
        exact ⟨rfl, Below.next B (by repeat (first | exact Below.refl _ _ | apply Below.draws | apply below_lit))⟩
    · have h40' : (N : Int) > 40 := by omega
      go_enter Try.func8, Try.ntmps8
      have B : Below w.heap.size w w := Below.refl _ _
      go_wp2_with fail
      refine (awake5_any _).mono ?_
      rintro e u1 ⟨rfl, b⟩
      have D : Below (World.heap w |>.size) w u1 := Below.next (by repeat (first | exact Below.refl _ _ | apply Below.draws | apply below_lit)) b
      have sD := D.size
      replace B := Below.next B D
      clear b D sD
      go_wp2_with fail
      refine (new_any _).mono ?_
      rintro e u2 ⟨rfl, F, hO⟩
      have b := hO.below
      clear hO
      have D : Below (World.heap u1 |>.size) u1 u2 := Below.next (by repeat (first | exact Below.refl _ _ | apply Below.draws | apply below_lit)) b
      have sD := D.size
      replace B := Below.next B D
      clear b D sD
      go_wp2_with fail
      refine (ccheck_ok _ hok).mono ?_
      rintro e u3 ⟨rfl, b⟩
      have D : Below (World.heap u2 |>.size) u2 u3 := Below.next (by repeat (first | exact Below.refl _ _ | apply Below.draws | apply below_lit)) b
      have sD := D.size
      replace F := F.below D
      replace B := Below.next B D
      clear b D sD
      go_wp2
      go_ret
      exact ⟨rfl, Below.next B (by repeat (first | exact Below.refl _ _ | apply Below.draws | apply below_lit))⟩
  · go_enter Try.func8, Try.ntmps8
    have B : Below w.heap.size w w := Below.refl _ _
    go_wp2_with fail
    refine (awake5_any _).mono ?_
    rintro e u1 ⟨rfl, b⟩
    have D : Below (World.heap w |>.size) w u1 := Below.next (by repeat (first | exact Below.refl _ _ | apply Below.draws | apply below_lit)) b
    have sD := D.size
    replace B := Below.next B D
    clear b D sD
    go_wp2_with fail
    refine (new_any _).mono ?_
    rintro e u2 ⟨rfl, F, hO⟩
    have b := hO.below
    clear hO
    have D : Below (World.heap u1 |>.size) u1 u2 := Below.next (by repeat (first | exact Below.refl _ _ | apply Below.draws | apply below_lit)) b
    have sD := D.size
    replace B := Below.next B D
    clear b D sD
    go_wp2_with fail
    refine (ccheck_bad _ hok).mono ?_
    rintro e u3 ⟨rfl, b⟩
    have D : Below (World.heap u2 |>.size) u2 u3 := Below.next (by repeat (first | exact Below.refl _ _ | apply Below.draws | apply below_lit)) b
    have sD := D.size
    replace F := F.below D
    replace B := Below.next B D
    clear b D sD
    go_wp2
    go_ret
    exact ⟨rfl, Below.next B (by repeat (first | exact Below.refl _ _ | apply Below.draws | apply below_lit))⟩

/-! ### THE ROW's STEP: WRITTEN OUT: LEAVE IT -/
set_option maxRecDepth 100000 in
theorem lifted (os : Os) (started : os.Started) (H : Type) (enc : TypeId × Value → H) :
    ReturnsInHanded {} Try.checked os 8 .any (Rows.cauchyNumbersSpec.pre6 enc Try.prog Try.f8 Rows.cauchyNumbersRow.domain false) (Rows.cauchyNumbersSpec.post enc Try.prog Try.f8 false true false false) := by
  refine returnsInHanded_of_change (C := Try.checked) own started (by kernel_rfl) Try.func8
    (ChangeSpec.witness6 (enc := enc) (C := Try.checked) false ⟨#[], #[.int .i64 0, .int .i64 0, .int .i64 0, .int .i64 0, .int .i64 0], []⟩ 8 (by kernel_rfl) (by kernel_rfl) (by kernel_rfl) (by kernel_rfl)) ?_
  intro W base args ds gs before hval0 hW hcnd _
  have hval : ∀ (j : Nat) t v, Try.f8.params[j]? = some t → args[j]? = some v → Value.okWide Try.prog W .any base t v := hval0
  have hW' := hW
  obtain ⟨p, q, hA0, hV, rfl, hfz, hnd⟩ := hW
  have hA : DataW.TrodAll enc Try.prog W 0 (fun _ => true) true Try.f8.params.toList args.toList ds p := hA0
  rw [Try.params8] at hA hval
  obtain ⟨v0, vs0, d0, ds0, p0, q0, hargs, rfl, rfl, h0, r0⟩ := trodAll_cons hA
  obtain ⟨v1, vs1, d1, ds1, p1, q1, rfl, rfl, rfl, h1, r1⟩ := trodAll_cons r0
  obtain ⟨v2, vs2, d2, ds2, p2, q2, rfl, rfl, rfl, h2, r2⟩ := trodAll_cons r1
  obtain ⟨v3, vs3, d3, ds3, p3, q3, rfl, rfl, rfl, h3, r3⟩ := trodAll_cons r2
  obtain ⟨v4, vs4, d4, ds4, p4, q4, rfl, rfl, rfl, h4, r4⟩ := trodAll_cons r3
  obtain ⟨rfl, rfl, rfl⟩ := trodAll_nil r4
  obtain rfl : args = #[v0, v1, v2, v3, v4] := by cases args; simp_all
  obtain ⟨rfl, rfl⟩ := trodVars_none hV
  obtain ⟨a0, rfl, rfl, rfl, w0⟩ := open_int Try.underlying3 (hval 0 3 v0 rfl rfl) h0
  obtain ⟨a1, rfl, rfl, rfl, w1⟩ := open_int Try.underlying3 (hval 1 3 v1 rfl rfl) h1
  obtain ⟨a2, rfl, rfl, rfl, w2⟩ := open_int Try.underlying3 (hval 2 3 v2 rfl rfl) h2
  obtain ⟨a3, rfl, rfl, rfl, w3⟩ := open_int Try.underlying3 (hval 3 3 v3 rfl rfl) h3
  obtain ⟨a4, rfl, rfl, rfl, w4⟩ := open_int Try.underlying3 (hval 4 3 v4 rfl rfl) h4
  clear hA0 hval0
  simp only [List.append_nil] at hW'
  refine (walk a0 a1 a2 a3 a4 w0 w1 w2 w3 w4 W).mono fun e W' ⟨he, hg⟩ => ?_
  subst he
  exact ⟨_, rfl, _, _, _, [], _, [], hW', trodAll_mk1 (shut_bool Try.underlying4 _), (trodAll_cons_mk (shut_int Try.underlying3 w0) (trodAll_cons_mk (shut_int Try.underlying3 w1) (trodAll_cons_mk (shut_int Try.underlying3 w2) (trodAll_cons_mk (shut_int Try.underlying3 w3) (trodAll_cons_mk (shut_int Try.underlying3 w4) trodAll_mk0))))), rfl, hg.frame _, fun h => by cases h⟩

theorem over : Rows.cauchyNumbersRow.holds Try.pinned (OpenSpec.ofChange Rows.cauchyNumbersSpec) :=
  OpenClaim.holds_of_wide 8 Try.f8 rfl rfl rfl rfl rfl rfl rfl ⟨rfl, rfl, rfl, rfl, rfl⟩ rfl rfl rfl rfl rfl (by kernel_rfl) Try.func8 (by kernel_rfl)
    (of_decide_eq_true (by kernel_rfl)) (by unfold Func.isWrapper; first | (rw [if_pos (by decide +kernel)]; kernel_rfl) | (rw [if_neg (by decide +kernel)]; exact ⟨rfl, rfl⟩))
    (fun os started H enc _ => lifted os started H enc)

/-- ████ THE STATEMENT ████ -/
theorem proved : Rows.CauchyNumbersSaid :=
  over
end Go.Proofs.Ythfimeddfpchpaa.cauchyNumbers
namespace Go.Proofs.Ythfimeddfpchpaa
theorem cauchyNumbers_holds : Rows.CauchyNumbersSaid := cauchyNumbers.proved
#print axioms cauchyNumbers_holds
end Go.Proofs.Ythfimeddfpchpaa
