/- PROVED: for every m and all lists points, by, known and and the call KeyeqFinds(m, points, by, known, and) returns true, and its arguments read behind it as before; no conditions. -/
import Derived.Test.YtlbachgbeefhcaaRows
import Derived.Test.YtlbachgbeefhcaaTome7
import Derived.Test.YtlbachgbeefhcaaTome9
import Derived.Test.YtlbachgbeefhcaaTome12
import Derived.WalkKit
import Derived.ProofKit
import Derived.OpenShut
import Derived.ShutString
import Derived.ChangeOld
import Derived.Below
namespace Go.Proofs.Ytlbachgbeefhcaa.keyeqFinds
open Go.ChangeShapes Go.WideShapes Go.ChangeAt Go.RowKit
open Go.ChangeMaps (open_string shut_string)
set_option linter.unusedVariables false

theorem own : ownKnob Try.prog.godebug = none := by kernel_rfl
theorem laidOut : laidOutB Try.prog = true := by kernel_rfl

/-- WHAT THE WALK IS TOLD OF A SLICE OF INTEGERS THAT CAME IN: it is nil; or it leads to a row of 'cap' cells, the numbers 'zs' (the first 'len' are its elements, the rest its spare room), each fitting its kind. -/
def IsRow (k : IntKind) (w : World) (a : Option Addr) (len cap : Nat) (zs : List Int) : Prop :=
  (a = none ∧ len = 0 ∧ cap = 0 ∧ zs = []) ∨
  ∃ x, a = some x ∧ len ≤ cap ∧ cap ≤ maxLen ∧ zs.length = cap ∧ (∀ i, i < zs.length → w.cell? (x.add i) = some (.int k (zs.getD i 0))) ∧ ∀ n ∈ zs, (Lit.int k n).wf = true

open Gf
set_option linter.unusedSimpArgs false
set_option maxRecDepth 100000 in
set_option maxHeartbeats 4000000 in
theorem walk (a0 : Int) (a1 : Option Addr) (len1 cap1 : Nat) (z1 : List Int) (a2 : Option Addr) (len2 cap2 : Nat) (z2 : List Int) (a3 : Option Addr) (len3 cap3 : Nat) (z3 : List Int) (a4 : Option Addr) (len4 cap4 : Nat) (z4 : List Int) (w : World) (w0 : (Lit.int .i64 a0).wf = true) (w1 : IsRow .u8 w a1 len1 cap1 z1) (w2 : IsRow .u8 w a2 len2 cap2 z2) (w3 : IsRow .u8 w a3 len3 cap3 z3) (w4 : IsRow .u8 w a4 len4 cap4 z4) :
    Calls Try.prog 5 #[.int .i64 a0, .slice a1 len1 cap1, .slice a2 len2 cap2, .slice a3 len3 cap3, .slice a4 len4 cap4] w fun e w' => e = .returned (.bool true) ∧ Below w.heap.size w w' := by
  obtain ⟨z1, rfl, w1⟩ := rd_row w1
  obtain ⟨z2, rfl, w2⟩ := rd_row w2
  obtain ⟨z3, rfl, w3⟩ := rd_row w3
  obtain ⟨z4, rfl, w4⟩ := rd_row w4
  obtain ⟨i0, hi, hi0, hi1, hi2⟩ := info_parts info_u8
  have hx1 := w1.len
  unfold maxLen at hx1
  have hx2 := w2.len
  unfold maxLen at hx2
  have hx3 := w3.len
  unfold maxLen at hx3
  have hx4 := w4.len
  unfold maxLen at hx4
  have b0 := bounds_i64 w0
  go_enter Try.func5, Try.ntmps5
  have B : Below w.heap.size w w := Below.refl _ _
  go_wp2_with fail
  refine (awake9_any _).mono ?_
  rintro e u1 ⟨rfl, b⟩
  have D : Below (World.heap w |>.size) w u1 := Below.next (by repeat (first | exact Below.refl _ _ | apply Below.drewN | apply Below.drew | apply Below.draws | apply below_lit)) b
  replace w1 := w1.below D
  replace w2 := w2.below D
  replace w3 := w3.below D
  replace w4 := w4.below D
  replace B := Below.next B D
  clear b D
  go_wp2_with fail
  refine (new_any _).mono ?_
  rintro e u2 ⟨rfl, F, hO⟩
  have b := hO.below
  clear hO
  have D : Below (World.heap u1 |>.size) u1 u2 := Below.next (by repeat (first | exact Below.refl _ _ | apply Below.drewN | apply Below.drew | apply Below.draws | apply below_lit)) b
  replace w1 := w1.below D
  replace w2 := w2.below D
  replace w3 := w3.below D
  replace w4 := w4.below D
  replace B := Below.next B D
  clear b D
  by_cases c1 : a0 < 0
  · skip
    go_wp2
    go_ret
    exact ⟨rfl, Below.next B (by repeat (first | exact Below.refl _ _ | apply Below.drewN | apply Below.drew | apply Below.draws | apply below_lit))⟩
  · have c1b : ¬ a0 < 0 := c1
    obtain ⟨m, rfl⟩ : ∃ m : Nat, a0 = (m : Int) := ⟨a0.toNat, by omega⟩
    by_cases c2 : m ≤ 60
    · have c2' : ¬ (m : Int) > 60 := by omega
      by_cases c3 : z1.length ≤ 30
      · have c3' : ¬ (z1.length : Int) > 30 := by omega
        by_cases c4 : z3.length ≤ 60
        · have c4' : ¬ (z3.length : Int) > 60 := by omega
          by_cases c5 : z2.length = z1.length
          · have c5' : ((z2.length : Int) != (z1.length : Int)) = false := by simp [c5]
            have C5 : Hid (z2.length = z1.length) := c5
            have c5a : z2.length ≤ 30 := by omega
            clear c5
            by_cases c6 : z4.length = z3.length
            · have c6' : ((z4.length : Int) != (z3.length : Int)) = false := by simp [c6]
              have C6 : Hid (z4.length = z3.length) := c6
              have c6a : z4.length ≤ 60 := by omega
              clear c6
              have g1 : IntKind.i64.wrap (2 * (z1.length : Int)) = 2 * (z1.length : Int) := by rw [IntKind.wrap_i64]; omega
              have g2 : IntKind.i64.wrap (2 * (z1.length : Int) + (z3.length : Int)) = 2 * (z1.length : Int) + (z3.length : Int) := by rw [IntKind.wrap_i64]; omega
              by_cases c7 : 2 * z1.length + z3.length ≤ m
              · have c7' : ¬ (2 * (z1.length : Int) + (z3.length : Int) > (m : Int)) := by omega
                go_wp2_with fail
                refine (unlike_any (w1.below (by repeat (first | exact Below.refl _ _ | apply Below.drewN | apply Below.drew | apply Below.draws | apply below_lit))) (w3.below (by repeat (first | exact Below.refl _ _ | apply Below.drewN | apply Below.drew | apply Below.draws | apply below_lit))) (by omega) (by omega)).mono ?_
                rintro e u3 ⟨t1, rfl, hu1, b⟩
                have D : Below (World.heap u2 |>.size) u2 u3 := Below.next (by repeat (first | exact Below.refl _ _ | apply Below.drewN | apply Below.drew | apply Below.draws | apply below_lit)) b
                replace w1 := w1.below D
                replace w2 := w2.below D
                replace w3 := w3.below D
                replace w4 := w4.below D
                replace F := F.below D
                replace B := Below.next B D
                clear b D
                go_wp2_with fail
                refine (unlike_any (w3.below (by repeat (first | exact Below.refl _ _ | apply Below.drewN | apply Below.drew | apply Below.draws | apply below_lit))) (rd9_nil _) (by omega) (by simp)).mono ?_
                rintro e u4 ⟨t2, rfl, hu2, b⟩
                have D : Below (World.heap u3 |>.size) u3 u4 := Below.next (by repeat (first | exact Below.refl _ _ | apply Below.drewN | apply Below.drew | apply Below.draws | apply below_lit)) b
                replace w1 := w1.below D
                replace w2 := w2.below D
                replace w3 := w3.below D
                replace w4 := w4.below D
                replace F := F.below D
                replace B := Below.next B D
                clear b D
                clear c1b c2' c3' c4' c5' c6' c7' g1 g2 b0
                cases t1
                · clear hu1 hu2
                  go_wp2
                  go_ret
                  exact ⟨rfl, Below.next B (by repeat (first | exact Below.refl _ _ | apply Below.drewN | apply Below.drew | apply Below.draws | apply below_lit))⟩
                · have hU1 := hu1.1 rfl
                  cases t2
                  · clear hu1 hu2 hU1
                    go_wp2
                    go_ret
                    exact ⟨rfl, Below.next B (by repeat (first | exact Below.refl _ _ | apply Below.drewN | apply Below.drew | apply Below.draws | apply below_lit))⟩
                  · have hU2 := hu2.1 rfl
                    have HD : Hid (∀ i j, i < z1.length + z3.length → j < z1.length + z3.length → i ≠ j → co (z1 ++ z3) i ≠ co (z1 ++ z3) j) := unlike_all hU1.1 hU1.2 hU2.1
                    clear hu1 hu2 hU1 hU2
                    go_wp2
                    go_loop [15] (fun v => ∃ i : Nat, i ≤ z2.length ∧ v = .int .i64 i ∧ Hid (∀ j, j < i → co z2 j ≠ 0)) (fun v => z2.length - (intOf v).toNat)
                    case atStart => exact ⟨0, by omega, rfl, (fun j hj => by omega : ∀ j, j < 0 → co z2 j ≠ 0)⟩
                    case round =>
                      obtain ⟨i, hi9, rfl, hz⟩ := hrel
                      by_cases hlt : i < z2.length
                      · have hlt' : (i : Int) < (z2.length : Int) := by omega
                        obtain ⟨yb, yo, rfl, _, cy⟩ := w2.byte (i := i) hlt
                        by_cases e : co z2 i = 0
                        · have q : ((((co z2 i).toNat : Nat) : Int) == 0) = true := by rw [eq_u8_zero]; exact decide_eq_true e
                          clear e hz
                          go_wp2
                          go_ret
                          exact ⟨rfl, B⟩
                        · have q : ((((co z2 i).toNat : Nat) : Int) == 0) = false := by rw [eq_u8_zero]; exact decide_eq_false e
                          have HZ : Hid (∀ j, j < i + 1 → co z2 j ≠ 0) := fun j hj => by
                            by_cases e2 : j = i
                            · rw [e2]; exact e
                            · exact hz.out j (by omega)
                          clear e hz
                          go_wp2
                          go_round
                          case rel => exact ⟨i + 1, by omega, by go_num, HZ⟩
                          case measure => simp [intOf]; omega
                      · have hge : ¬ (i : Int) < (z2.length : Int) := by omega
                        have HZ : Hid (∀ j, j < z1.length → co z2 j ≠ 0) := fun j hj => hz.out j (by have := C5.out; omega)
                        clear hz
                        have R1a : Rd (World.alloc u4 (.cells #[] 5)) (.slice a1 z1.length cap1) z1 := w1.below ((Below.refl _ _).alloc (Nat.le_refl _) _)
                        go_wp2_with (first
                          | (at_builtin; refine wpList_append_rd _ rfl (.tmp 102) (.tmp 103) 23 rfl (World.heap u4 |>.size) 5 i0 Try.underlying23 hi hi0 hi1 hi2 (.slice (some ⟨(World.heap u4 |>.size), 0, none⟩) 0 0) 0 [] rfl (own_new9 _ _) _ z1 rfl R1a (by omega) (by simp) ?_; intro v1 x1 hv1 hg1; rw [own_block9] at hg1; have B1 := below_new9 hg1; have R3b := w3.below B1)
                          | (at_builtin; refine wpList_append_rd _ rfl (.tmp 104) (.tmp 105) 23 rfl (World.heap u4 |>.size) 5 i0 Try.underlying23 hi hi0 hi1 hi2 v1 _ _ rfl hv1 _ z3 rfl R3b (by omega) B1.size ?_; intro v2 x2 hv2 hg2; have B2 := below_own9 B1 B1.size hv1 hg2; have RA := rd_two9 hv2; clear hg1 hg2 B1 R3b hv1 hv2; have R2c := (w2.below B2).below (w' := x2.alloc (.cells #[] 5)) ((Below.refl _ _).alloc (Nat.le_refl _) _))
                          | (at_builtin; refine wpList_append_rd _ rfl (.tmp 107) (.tmp 108) 23 rfl (World.heap x2 |>.size) 5 i0 Try.underlying23 hi hi0 hi1 hi2 (.slice (some ⟨(World.heap x2 |>.size), 0, none⟩) 0 0) 0 [] rfl (own_new9 _ _) _ z2 rfl R2c (by omega) (by simp) ?_; intro v3 x3 hv3 hg3; rw [own_block9] at hg3; have B3 := below_new9 hg3; have R4d := (w4.below B2).below B3)
                          | (at_builtin; refine wpList_append_rd _ rfl (.tmp 109) (.tmp 110) 23 rfl (World.heap x2 |>.size) 5 i0 Try.underlying23 hi hi0 hi1 hi2 v3 _ _ rfl hv3 _ z4 rfl R4d (by omega) B3.size ?_; intro v4 x4 hv4 hg4; have B4 := below_own9 B3 B3.size hv3 hg4; have RB := rd_two9 hv4; clear hg3 hg4 B3 R4d hv3 hv4))
                        replace RA := RA.below B4
                        have D : Below (World.heap u4 |>.size) u4 x4 := Below.next B2 B4
                        replace w1 := w1.below D
                        replace w2 := w2.below D
                        replace w3 := w3.below D
                        replace w4 := w4.below D
                        replace F := F.below D
                        replace B := Below.next B D
                        clear D B2 B4 R1a R2c
                        have HS : Hid (∀ s, s = upto (syP (co (z1 ++ z3)) (co (z2 ++ z4)) (z1 ++ z3).length) m → s.length = m ∧ SyOf s z1 z3 z2 z4) := fun s es => ⟨by rw [es, upto_length], fun l hl => by rw [es, upto_length] at hl; rw [es, upto, co_map_range _ hl, List.length_append]⟩
                        go_wp2_with fail
                        refine (sums_any (m := m) (F.below (by repeat (first | exact Below.refl _ _ | apply Below.drewN | apply Below.drew | apply Below.draws | apply below_lit))) (RA.below (by repeat (first | exact Below.refl _ _ | apply Below.drewN | apply Below.drew | apply Below.draws | apply below_lit))) (RB.below (by repeat (first | exact Below.refl _ _ | apply Below.drewN | apply Below.drew | apply Below.draws | apply below_lit))) (by omega) (by rw [List.length_append]; omega) (by rw [List.length_append, List.length_append, C5.out, C6.out]) rfl).mono ?_
                        rintro e u5 ⟨vs, rfl, Rs1, b⟩
                        have D : Below (World.heap x4 |>.size) x4 u5 := Below.next (by repeat (first | exact Below.refl _ _ | apply Below.drewN | apply Below.drew | apply Below.draws | apply below_lit)) b
                        replace w1 := w1.below D
                        replace w2 := w2.below D
                        replace w3 := w3.below D
                        replace w4 := w4.below D
                        replace F := F.below D
                        replace RA := RA.below D
                        replace RB := RB.below D
                        replace B := Below.next B D
                        clear b D
                        obtain ⟨s, hs⟩ : ∃ s, Hid (s = upto (syP (co (z1 ++ z3)) (co (z2 ++ z4)) (z1 ++ z3).length) m) := ⟨_, rfl⟩
                        rw [← hs.out] at Rs1
                        obtain ⟨hsl9, hsy⟩ := HS.out s hs.out
                        have hsl : Hid (s.length = m) := hsl9
                        have hsy' : Hid (SyOf s z1 z3 z2 z4) := hsy
                        have HK0 : Hid (KeyAns s (locL z3) 0 (locL z1) (evaL s (locL z3) z1.length (locF (co (z1 ++ z3)) z1.length))) := find_ok hsy (by rw [hsl9]; exact c7) C5.out HD.out HZ.out
                        have HBk : Hid (∀ j, j < z1.length + z3.length → _) := fun j hj => find_back hsy (by rw [hsl9]; exact c7) HD.out hj
                        clear hsl9 hsy hs HS RA RB
                        have HL1 : Hid ((locL z1).length = z1.length + 1) := locN_length _ _
                        have HL3 : Hid ((locL z3).length = z3.length + 1) := locN_length _ _
                        obtain ⟨sa, sc, es⟩ := Rs1.form
                        rw [hsl.out] at es
                        subst es
                        go_wp2_with fail
                        refine (kloc_any (F.below (by repeat (first | exact Below.refl _ _ | apply Below.drewN | apply Below.drew | apply Below.draws | apply below_lit))) (w3.below (by repeat (first | exact Below.refl _ _ | apply Below.drewN | apply Below.drew | apply Below.draws | apply below_lit))) (by omega)).mono ?_
                        rintro e u6 ⟨vg, rfl, Rg, b⟩
                        have D : Below (World.heap u5 |>.size) u5 u6 := Below.next (by repeat (first | exact Below.refl _ _ | apply Below.drewN | apply Below.drew | apply Below.draws | apply below_lit)) b
                        replace w1 := w1.below D
                        replace w2 := w2.below D
                        replace w3 := w3.below D
                        replace w4 := w4.below D
                        replace F := F.below D
                        replace Rs1 := Rs1.below D
                        replace B := Below.next B D
                        clear b D
                        obtain ⟨ga, gc, eg⟩ := Rg.form
                        rw [HL3.out] at eg
                        subst eg
                        go_wp2_with fail
                        refine (ksol_any (F.below (by repeat (first | exact Below.refl _ _ | apply Below.drewN | apply Below.drew | apply Below.draws | apply below_lit))) (Rs1.below (by repeat (first | exact Below.refl _ _ | apply Below.drewN | apply Below.drew | apply Below.draws | apply below_lit))) (Rg.below (by repeat (first | exact Below.refl _ _ | apply Below.drewN | apply Below.drew | apply Below.draws | apply below_lit))) (by rw [hsl.out]; omega) (by rw [HL3.out]; omega)).mono ?_
                        rintro e u7 ⟨X1, A1, O1, va1, vo1, HK1, rfl, Ra1, Ro1, b⟩
                        have hol := HK1.len.2
                        obtain ⟨rfl, rfl, rfl⟩ := KeyAns.unique HK0.out HK1
                        clear HK1
                        have D : Below (World.heap u6 |>.size) u6 u7 := Below.next (by repeat (first | exact Below.refl _ _ | apply Below.drewN | apply Below.drew | apply Below.draws | apply below_lit)) b
                        replace w1 := w1.below D
                        replace w2 := w2.below D
                        replace w3 := w3.below D
                        replace w4 := w4.below D
                        replace F := F.below D
                        replace Rs1 := Rs1.below D
                        replace Rg := Rg.below D
                        replace B := Below.next B D
                        clear b D
                        rw [hsl.out, HL3.out] at hol
                        obtain ⟨O, hO⟩ : ∃ O, Hid (O = evaL s (locL z3) z1.length (locF (co (z1 ++ z3)) z1.length)) := ⟨_, rfl⟩
                        rw [← hO.out] at Ro1 hol HBk
                        obtain ⟨aa, ca, ea⟩ := Ra1.form
                        rw [HL1.out] at ea
                        subst ea
                        obtain ⟨oa, oc, rfl⟩ := Ro1.form
                        clear HK0
                        go_wp2_with fail
                        refine (kloc_any (F.below (by repeat (first | exact Below.refl _ _ | apply Below.drewN | apply Below.drew | apply Below.draws | apply below_lit))) (w1.below (by repeat (first | exact Below.refl _ _ | apply Below.drewN | apply Below.drew | apply Below.draws | apply below_lit))) (by omega)).mono ?_
                        rintro e u8 ⟨vl, rfl, Rl, b⟩
                        have D : Below (World.heap u7 |>.size) u7 u8 := Below.next (by repeat (first | exact Below.refl _ _ | apply Below.drewN | apply Below.drew | apply Below.draws | apply below_lit)) b
                        replace w1 := w1.below D
                        replace w2 := w2.below D
                        replace w3 := w3.below D
                        replace w4 := w4.below D
                        replace F := F.below D
                        replace Rs1 := Rs1.below D
                        replace Rg := Rg.below D
                        replace Ra1 := Ra1.below D
                        replace Ro1 := Ro1.below D
                        replace B := Below.next B D
                        clear b D
                        obtain ⟨la, lc, el⟩ := Rl.form
                        rw [HL1.out] at el
                        subst el
                        go_wp2_with fail
                        refine (same9_t (Ra1.below (by repeat (first | exact Below.refl _ _ | apply Below.drewN | apply Below.drew | apply Below.draws | apply below_lit))) (Rl.below (by repeat (first | exact Below.refl _ _ | apply Below.drewN | apply Below.drew | apply Below.draws | apply below_lit))) rfl).mono ?_
                        rintro e u9 ⟨rfl, b⟩
                        have D : Below (World.heap u8 |>.size) u8 u9 := Below.next (by repeat (first | exact Below.refl _ _ | apply Below.drewN | apply Below.drew | apply Below.draws | apply below_lit)) b
                        replace w1 := w1.below D
                        replace w2 := w2.below D
                        replace w3 := w3.below D
                        replace w4 := w4.below D
                        replace F := F.below D
                        replace Rs1 := Rs1.below D
                        replace Rg := Rg.below D
                        replace Ra1 := Ra1.below D
                        replace Ro1 := Ro1.below D
                        replace Rl := Rl.below D
                        replace B := Below.next B D
                        clear b D
                        go_wp2_with fail
                        refine (pmul_any (F.below (by repeat (first | exact Below.refl _ _ | apply Below.drewN | apply Below.drew | apply Below.draws | apply below_lit))) (Ra1.below (by repeat (first | exact Below.refl _ _ | apply Below.drewN | apply Below.drew | apply Below.draws | apply below_lit))) (Rg.below (by repeat (first | exact Below.refl _ _ | apply Below.drewN | apply Below.drew | apply Below.draws | apply below_lit))) (by rw [HL1.out]; omega) (by rw [HL3.out]; omega)).mono ?_
                        rintro e u10 ⟨vf, rfl, Rf, b⟩
                        have D : Below (World.heap u9 |>.size) u9 u10 := Below.next (by repeat (first | exact Below.refl _ _ | apply Below.drewN | apply Below.drew | apply Below.draws | apply below_lit)) b
                        replace w1 := w1.below D
                        replace w2 := w2.below D
                        replace w3 := w3.below D
                        replace w4 := w4.below D
                        replace F := F.below D
                        replace Rs1 := Rs1.below D
                        replace Rg := Rg.below D
                        replace Ra1 := Ra1.below D
                        replace Ro1 := Ro1.below D
                        replace Rl := Rl.below D
                        replace B := Below.next B D
                        clear b D
                        have hfl := mulP_len9 (locL z1) (locL z3)
                        rw [HL1.out, HL3.out] at hfl
                        obtain ⟨fa, fc, rfl⟩ := Rf.form
                        go_wp2_with fail
                        refine (pderiv_any (Rf.below (by repeat (first | exact Below.refl _ _ | apply Below.drewN | apply Below.drew | apply Below.draws | apply below_lit))) (by omega)).mono ?_
                        rintro e u11 ⟨vd, rfl, Rd1, b⟩
                        have D : Below (World.heap u10 |>.size) u10 u11 := Below.next (by repeat (first | exact Below.refl _ _ | apply Below.drewN | apply Below.drew | apply Below.draws | apply below_lit)) b
                        replace w1 := w1.below D
                        replace w2 := w2.below D
                        replace w3 := w3.below D
                        replace w4 := w4.below D
                        replace F := F.below D
                        replace Rs1 := Rs1.below D
                        replace Rg := Rg.below D
                        replace Ra1 := Ra1.below D
                        replace Ro1 := Ro1.below D
                        replace Rl := Rl.below D
                        replace Rf := Rf.below D
                        replace B := Below.next B D
                        clear b D
                        have hdl := derP_len9 (mulP (locL z1) (locL z3))
                        obtain ⟨Dv, hDv⟩ : ∃ Dv, Hid (Dv = derP (mulP (locL z1) (locL z3))) := ⟨_, rfl⟩
                        rw [← hDv.out] at Rd1 HBk hdl
                        obtain ⟨da, dc, rfl⟩ := Rd1.form
                        clear Rs1 Rg Ra1 Rl Rf
                        go_wp2
                        go_loopw [24] (fun v wr => ∃ i : Nat, i ≤ z1.length ∧ v = .int .i64 i ∧ ∃ nd, wr = World.drewN u11 nd) (fun v _ => z1.length - (intOf v).toNat)
                        case atStart => exact ⟨0, by omega, rfl, 0, rfl⟩
                        case round =>
                          obtain ⟨i, hi9, rfl, nd, hd0⟩ := hrel
                          have hd : Hid (wr = World.drewN u11 nd) := hd0
                          by_cases hlt : i < z1.length
                          · have hlt' : (i : Int) < (z1.length : Int) := by omega
                            have hlty : i < z2.length := by have := C5.out; omega
                            have hlty' : (i : Int) < (z2.length : Int) := by omega
                            obtain ⟨pb, po, rfl, _, cp⟩ := w1.byte (i := i) hlt
                            obtain ⟨yb, yo, rfl, _, cy⟩ := w2.byte (i := i) hlty
                            have hb9 := HBk.out (i) (by omega)
                            rw [show co (z1 ++ z3) (i) = co z1 i from (co_append_lt hlt), show co (z2 ++ z4) (i) = co z2 i from (co_append_lt hlty)] at hb9
                            obtain ⟨x, hx⟩ : ∃ x, Hid (x = co z1 i) := ⟨_, rfl⟩
                            obtain ⟨yv, hyv⟩ : ∃ yv, Hid (yv = co z2 i) := ⟨_, rfl⟩
                            rw [← hx.out] at cp hb9
                            rw [← hyv.out] at cy hb9
                            obtain ⟨e1, he1⟩ : ∃ e1, Hid (e1 = evP O x) := ⟨_, rfl⟩
                            obtain ⟨e2, he2⟩ : ∃ e2, Hid (e2 = evP Dv x) := ⟨_, rfl⟩
                            rw [← he1.out, ← he2.out] at hb9
                            have cp2 : World.cell? wr ⟨pb, po + i, none⟩ = some (.int .u8 (x.toNat : Nat)) := by rw [hd0]; exact cp
                            have cy2 : World.cell? wr ⟨yb, yo + i, none⟩ = some (.int .u8 (yv.toNat : Nat)) := by rw [hd0]; exact cy
                            have F2 := F.drewN nd
                            rw [← hd0] at F2
                            have Ro2 : Rd wr (.slice oa O.length oc) O := by rw [hd0]; exact Ro1.drewN nd
                            have Rd2 : Rd wr (.slice da Dv.length dc) Dv := by rw [hd0]; exact Rd1.drewN nd
                            obtain ⟨fbk, hfbk⟩ : ∃ fbk, Hid (fbk = (World.heap u1 |>.size)) := ⟨_, rfl⟩
                            have E1 : Hid (∀ n : Nat, Calls Try.prog 21 #[.pointer (some ⟨(World.heap u1 |>.size), 0, none⟩), .slice oa O.length oc, .int .u8 (x.toNat : Nat)] (World.drewN wr n) fun e w' => e = .returned (.int .u8 (e1.toNat : Nat)) ∧ ∃ k, w' = (World.drewN wr n).drewN k) := fun n => by rw [he1.out]; exact peval_quiet (F2.drewN n) (Ro2.drewN n) x rfl (by omega)
                            have E2 : Hid (∀ n : Nat, Calls Try.prog 21 #[.pointer (some ⟨(World.heap u1 |>.size), 0, none⟩), .slice da Dv.length dc, .int .u8 (x.toNat : Nat)] (World.drewN wr n) fun e w' => e = .returned (.int .u8 (e2.toNat : Nat)) ∧ ∃ k, w' = (World.drewN wr n).drewN k) := fun n => by rw [he2.out]; exact peval_quiet (F2.drewN n) (Rd2.drewN n) x rfl (by omega)
                            have E3 : Hid (∀ n : Nat, Calls Try.prog 20 #[.pointer (some ⟨(World.heap u1 |>.size), 0, none⟩), .int .u8 (e1.toNat : Nat), .int .u8 (e2.toNat : Nat)] (World.drewN wr n) fun e w' => e = .returned (.tuple #[.int .u8 (yv.toNat : Nat), .int .i64 0]) ∧ ∃ k, w' = (World.drewN wr n).drewN k) := fun n => by rw [← hb9.1]; exact fdiv9_at (F2.drewN n) e1 e2 hb9.2 rfl rfl
                            have q3 : (((yv.toNat : Nat) : Int) != ((yv.toNat : Nat) : Int)) = false := by simp
                            clear cp cy hd0 hb9 Ro2 Rd2 F2 hlty
                            go_wp2
                            go_quiet (first
                              | (go_at_call_of 21 (Value.slice oa O.length oc); go_loud (exact Calls.quiet_of (E1.out _)))
                              | (go_at_call_of 21 (Value.slice da Dv.length dc); go_loud (exact Calls.quiet_of (E2.out _)))
                              | (go_at_call 20; go_loud (exact Calls.quiet_of (E3.out _))))
                            go_wp2
                            go_roundw
                            case rel => exact ⟨i + 1, by omega, by go_num, _, by show _ = _; rw [hd.out, World.drewN_drewN]⟩
                            case measure => simp [intOf]; omega
                          · have hge : ¬ (i : Int) < (z1.length : Int) := by omega
                            replace w3 := w3.drewN nd
                            replace w4 := w4.drewN nd
                            replace F := F.drewN nd
                            replace Ro1 := Ro1.drewN nd
                            replace Rd1 := Rd1.drewN nd
                            replace B := Below.draws B nd
                            rw [← hd0] at w3 w4 F Ro1 Rd1 B
                            obtain ⟨wq, hwq⟩ : ∃ wq, wq = wr := ⟨_, rfl⟩
                            subst hwq
                            clear hd0 w1 w2 hlt
                            go_wp2
                            go_loopw [27] (fun v wr => ∃ i : Nat, i ≤ z3.length ∧ v = .int .i64 i ∧ ∃ nd, wr = World.drewN wq nd) (fun v _ => z3.length - (intOf v).toNat)
                            case atStart => exact ⟨0, by omega, rfl, 0, rfl⟩
                            case round =>
                              obtain ⟨i, hi9, rfl, nd, hd0⟩ := hrel
                              have hd : Hid (wr = World.drewN wq nd) := hd0
                              by_cases hlt : i < z3.length
                              · have hlt' : (i : Int) < (z3.length : Int) := by omega
                                have hlty : i < z4.length := by have := C6.out; omega
                                have hlty' : (i : Int) < (z4.length : Int) := by omega
                                obtain ⟨pb, po, rfl, _, cp⟩ := w3.byte (i := i) hlt
                                obtain ⟨yb, yo, rfl, _, cy⟩ := w4.byte (i := i) hlty
                                have hb9 := HBk.out (z1.length + i) (by omega)
                                rw [show co (z1 ++ z3) (z1.length + i) = co z3 i from (by rw [co_append_ge (by omega), Nat.add_sub_cancel_left]), show co (z2 ++ z4) (z1.length + i) = co z4 i from (by rw [co_append_ge (by rw [C5.out]; omega), C5.out, Nat.add_sub_cancel_left])] at hb9
                                obtain ⟨x, hx⟩ : ∃ x, Hid (x = co z3 i) := ⟨_, rfl⟩
                                obtain ⟨yv, hyv⟩ : ∃ yv, Hid (yv = co z4 i) := ⟨_, rfl⟩
                                rw [← hx.out] at cp hb9
                                rw [← hyv.out] at cy hb9
                                obtain ⟨e1, he1⟩ : ∃ e1, Hid (e1 = evP O x) := ⟨_, rfl⟩
                                obtain ⟨e2, he2⟩ : ∃ e2, Hid (e2 = evP Dv x) := ⟨_, rfl⟩
                                rw [← he1.out, ← he2.out] at hb9
                                have cp2 : World.cell? wr ⟨pb, po + i, none⟩ = some (.int .u8 (x.toNat : Nat)) := by rw [hd0]; exact cp
                                have cy2 : World.cell? wr ⟨yb, yo + i, none⟩ = some (.int .u8 (yv.toNat : Nat)) := by rw [hd0]; exact cy
                                have F2 := F.drewN nd
                                rw [← hd0] at F2
                                have Ro2 : Rd wr (.slice oa O.length oc) O := by rw [hd0]; exact Ro1.drewN nd
                                have Rd2 : Rd wr (.slice da Dv.length dc) Dv := by rw [hd0]; exact Rd1.drewN nd
                                obtain ⟨fbk, hfbk⟩ : ∃ fbk, Hid (fbk = (World.heap u1 |>.size)) := ⟨_, rfl⟩
                                have E1 : Hid (∀ n : Nat, Calls Try.prog 21 #[.pointer (some ⟨(World.heap u1 |>.size), 0, none⟩), .slice oa O.length oc, .int .u8 (x.toNat : Nat)] (World.drewN wr n) fun e w' => e = .returned (.int .u8 (e1.toNat : Nat)) ∧ ∃ k, w' = (World.drewN wr n).drewN k) := fun n => by rw [he1.out]; exact peval_quiet (F2.drewN n) (Ro2.drewN n) x rfl (by omega)
                                have E2 : Hid (∀ n : Nat, Calls Try.prog 21 #[.pointer (some ⟨(World.heap u1 |>.size), 0, none⟩), .slice da Dv.length dc, .int .u8 (x.toNat : Nat)] (World.drewN wr n) fun e w' => e = .returned (.int .u8 (e2.toNat : Nat)) ∧ ∃ k, w' = (World.drewN wr n).drewN k) := fun n => by rw [he2.out]; exact peval_quiet (F2.drewN n) (Rd2.drewN n) x rfl (by omega)
                                have E3 : Hid (∀ n : Nat, Calls Try.prog 20 #[.pointer (some ⟨(World.heap u1 |>.size), 0, none⟩), .int .u8 (e1.toNat : Nat), .int .u8 (e2.toNat : Nat)] (World.drewN wr n) fun e w' => e = .returned (.tuple #[.int .u8 (yv.toNat : Nat), .int .i64 0]) ∧ ∃ k, w' = (World.drewN wr n).drewN k) := fun n => by rw [← hb9.1]; exact fdiv9_at (F2.drewN n) e1 e2 hb9.2 rfl rfl
                                have q3 : (((yv.toNat : Nat) : Int) != ((yv.toNat : Nat) : Int)) = false := by simp
                                clear cp cy hd0 hb9 Ro2 Rd2 F2 hlty
                                go_wp2
                                go_quiet (first
                                  | (go_at_call_of 21 (Value.slice oa O.length oc); go_loud (exact Calls.quiet_of (E1.out _)))
                                  | (go_at_call_of 21 (Value.slice da Dv.length dc); go_loud (exact Calls.quiet_of (E2.out _)))
                                  | (go_at_call 20; go_loud (exact Calls.quiet_of (E3.out _))))
                                go_wp2
                                go_roundw
                                case rel => exact ⟨i + 1, by omega, by go_num, _, by show _ = _; rw [hd.out, World.drewN_drewN]⟩
                                case measure => simp [intOf]; omega
                              · have hge : ¬ (i : Int) < (z3.length : Int) := by omega
                                clear w3 w4 F Ro1 Rd1 hd0
                                go_wp2
                                go_ret
                                exact ⟨rfl, by rw [hd.out]; exact Below.draws B nd⟩
              · have c7' : 2 * (z1.length : Int) + (z3.length : Int) > (m : Int) := by omega
                go_wp2
                go_ret
                exact ⟨rfl, Below.next B (by repeat (first | exact Below.refl _ _ | apply Below.drewN | apply Below.drew | apply Below.draws | apply below_lit))⟩
            · have c6' : ((z4.length : Int) != (z3.length : Int)) = true := by simp; omega
              go_wp2
              go_ret
              exact ⟨rfl, Below.next B (by repeat (first | exact Below.refl _ _ | apply Below.drewN | apply Below.drew | apply Below.draws | apply below_lit))⟩
          · have c5' : ((z2.length : Int) != (z1.length : Int)) = true := by simp; omega
            go_wp2
            go_ret
            exact ⟨rfl, Below.next B (by repeat (first | exact Below.refl _ _ | apply Below.drewN | apply Below.drew | apply Below.draws | apply below_lit))⟩
        · have c4' : (z3.length : Int) > 60 := by omega
          go_wp2
          go_ret
          exact ⟨rfl, Below.next B (by repeat (first | exact Below.refl _ _ | apply Below.drewN | apply Below.drew | apply Below.draws | apply below_lit))⟩
      · have c3' : (z1.length : Int) > 30 := by omega
        go_wp2
        go_ret
        exact ⟨rfl, Below.next B (by repeat (first | exact Below.refl _ _ | apply Below.drewN | apply Below.drew | apply Below.draws | apply below_lit))⟩
    · have c2' : (m : Int) > 60 := by omega
      go_wp2
      go_ret
      exact ⟨rfl, Below.next B (by repeat (first | exact Below.refl _ _ | apply Below.drewN | apply Below.drew | apply Below.draws | apply below_lit))⟩

/-! ### THE ROW's STEP: WRITTEN OUT: LEAVE IT -/
set_option maxRecDepth 100000 in
theorem lifted (os : Os) (started : os.Started) (H : Type) (enc : TypeId × Value → H) :
    ReturnsInHanded {} Try.checked os 5 .any (Rows.keyeqFindsSpec.pre6 enc Try.prog Try.f5 Rows.keyeqFindsRow.domain false) (Rows.keyeqFindsSpec.post enc Try.prog Try.f5 false true false false) := by
  refine returnsInHanded_of_change (C := Try.checked) own started (by kernel_rfl) Try.func5
    (ChangeSpec.witness6 (enc := enc) (C := Try.checked) false ⟨#[], #[.int .i64 0, .slice none 0 0, .slice none 0 0, .slice none 0 0, .slice none 0 0], []⟩ 8 (by kernel_rfl) (by kernel_rfl) (by kernel_rfl) (by kernel_rfl)) ?_
  intro W base args ds gs before hval0 hW hcnd _
  have hval : ∀ (j : Nat) t v, Try.f5.params[j]? = some t → args[j]? = some v → Value.okWide Try.prog W .any base t v := hval0
  have hW' := hW
  obtain ⟨p, q, hA0, hV, rfl, hfz, hnd⟩ := hW
  have hA : DataW.TrodAll enc Try.prog W 0 (fun _ => true) true Try.f5.params.toList args.toList ds p := hA0
  rw [Try.params5] at hA hval
  obtain ⟨v0, vs0, d0, ds0, p0, q0, hargs, rfl, rfl, h0, r0⟩ := trodAll_cons hA
  obtain ⟨v1, vs1, d1, ds1, p1, q1, rfl, rfl, rfl, h1, r1⟩ := trodAll_cons r0
  obtain ⟨v2, vs2, d2, ds2, p2, q2, rfl, rfl, rfl, h2, r2⟩ := trodAll_cons r1
  obtain ⟨v3, vs3, d3, ds3, p3, q3, rfl, rfl, rfl, h3, r3⟩ := trodAll_cons r2
  obtain ⟨v4, vs4, d4, ds4, p4, q4, rfl, rfl, rfl, h4, r4⟩ := trodAll_cons r3
  obtain ⟨rfl, rfl, rfl⟩ := trodAll_nil r4
  obtain rfl : args = #[v0, v1, v2, v3, v4] := by cases args; simp_all
  obtain ⟨rfl, rfl⟩ := trodVars_none hV
  obtain ⟨a0, rfl, rfl, rfl, w0⟩ := open_int Try.underlying3 (hval 0 3 v0 rfl rfl) h0
  obtain ⟨a1, len1, cap1, rfl⟩ := okWide_slice Try.underlying23 (hval 1 23 v1 rfl rfl)
  have k1 := h1
  have lt1 : ∀ x ∈ p1, x.block < W.heap.size := by obtain ⟨m, hm⟩ := k1; exact DataW.trod_lt m _ _ _ hm
  obtain ⟨z1, w1⟩ : ∃ zs, IsRow .u8 W a1 len1 cap1 zs := by
    obtain ⟨fuel, hf⟩ := h1
    rcases open_ints Try.underlying23 Try.underlying5 (by kernel_rfl) hf with ⟨hcs, _⟩ | ⟨x, l, c, zs, hcs, _, hl, hm, hz, _, hcell, hwz⟩
    · simp [Value.cells] at hcs
      obtain ⟨rfl, rfl, rfl⟩ := hcs
      exact ⟨[], .inl ⟨rfl, rfl, rfl, rfl⟩⟩
    · simp [Value.cells] at hcs
      obtain ⟨rfl, rfl, rfl⟩ := hcs
      exact ⟨zs, .inr ⟨_, rfl, hl, hm, by simpa using hz, hcell, hwz⟩⟩
  obtain ⟨a2, len2, cap2, rfl⟩ := okWide_slice Try.underlying23 (hval 2 23 v2 rfl rfl)
  have k2 := h2
  have lt2 : ∀ x ∈ p2, x.block < W.heap.size := by obtain ⟨m, hm⟩ := k2; exact DataW.trod_lt m _ _ _ hm
  obtain ⟨z2, w2⟩ : ∃ zs, IsRow .u8 W a2 len2 cap2 zs := by
    obtain ⟨fuel, hf⟩ := h2
    rcases open_ints Try.underlying23 Try.underlying5 (by kernel_rfl) hf with ⟨hcs, _⟩ | ⟨x, l, c, zs, hcs, _, hl, hm, hz, _, hcell, hwz⟩
    · simp [Value.cells] at hcs
      obtain ⟨rfl, rfl, rfl⟩ := hcs
      exact ⟨[], .inl ⟨rfl, rfl, rfl, rfl⟩⟩
    · simp [Value.cells] at hcs
      obtain ⟨rfl, rfl, rfl⟩ := hcs
      exact ⟨zs, .inr ⟨_, rfl, hl, hm, by simpa using hz, hcell, hwz⟩⟩
  obtain ⟨a3, len3, cap3, rfl⟩ := okWide_slice Try.underlying23 (hval 3 23 v3 rfl rfl)
  have k3 := h3
  have lt3 : ∀ x ∈ p3, x.block < W.heap.size := by obtain ⟨m, hm⟩ := k3; exact DataW.trod_lt m _ _ _ hm
  obtain ⟨z3, w3⟩ : ∃ zs, IsRow .u8 W a3 len3 cap3 zs := by
    obtain ⟨fuel, hf⟩ := h3
    rcases open_ints Try.underlying23 Try.underlying5 (by kernel_rfl) hf with ⟨hcs, _⟩ | ⟨x, l, c, zs, hcs, _, hl, hm, hz, _, hcell, hwz⟩
    · simp [Value.cells] at hcs
      obtain ⟨rfl, rfl, rfl⟩ := hcs
      exact ⟨[], .inl ⟨rfl, rfl, rfl, rfl⟩⟩
    · simp [Value.cells] at hcs
      obtain ⟨rfl, rfl, rfl⟩ := hcs
      exact ⟨zs, .inr ⟨_, rfl, hl, hm, by simpa using hz, hcell, hwz⟩⟩
  obtain ⟨a4, len4, cap4, rfl⟩ := okWide_slice Try.underlying23 (hval 4 23 v4 rfl rfl)
  have k4 := h4
  have lt4 : ∀ x ∈ p4, x.block < W.heap.size := by obtain ⟨m, hm⟩ := k4; exact DataW.trod_lt m _ _ _ hm
  obtain ⟨z4, w4⟩ : ∃ zs, IsRow .u8 W a4 len4 cap4 zs := by
    obtain ⟨fuel, hf⟩ := h4
    rcases open_ints Try.underlying23 Try.underlying5 (by kernel_rfl) hf with ⟨hcs, _⟩ | ⟨x, l, c, zs, hcs, _, hl, hm, hz, _, hcell, hwz⟩
    · simp [Value.cells] at hcs
      obtain ⟨rfl, rfl, rfl⟩ := hcs
      exact ⟨[], .inl ⟨rfl, rfl, rfl, rfl⟩⟩
    · simp [Value.cells] at hcs
      obtain ⟨rfl, rfl, rfl⟩ := hcs
      exact ⟨zs, .inr ⟨_, rfl, hl, hm, by simpa using hz, hcell, hwz⟩⟩
  clear hA0 hval0
  refine (walk a0 a1 len1 cap1 z1 a2 len2 cap2 z2 a3 len3 cap3 z3 a4 len4 cap4 z4 W w0 w1 w2 w3 w4).mono fun e W' ⟨he, bel⟩ => ?_
  subst he
  exact ⟨_, rfl, _, _, _, [], _, [], hW', trodAll_mk1 (shut_bool Try.underlying4 _), (trodAll_cons_mk (shut_int Try.underlying3 w0) (trodAll_cons_mk (Below.trod laidOut (by kernel_rfl) (of_decide_eq_true (by kernel_rfl)) k1 bel lt1) (trodAll_cons_mk (Below.trod laidOut (by kernel_rfl) (of_decide_eq_true (by kernel_rfl)) k2 bel lt2) (trodAll_cons_mk (Below.trod laidOut (by kernel_rfl) (of_decide_eq_true (by kernel_rfl)) k3 bel lt3) (trodAll_cons_mk (Below.trod laidOut (by kernel_rfl) (of_decide_eq_true (by kernel_rfl)) k4 bel lt4) trodAll_mk0))))), rfl, bel.frame _, fun h => by cases h⟩

theorem over : Rows.keyeqFindsRow.holds Try.pinned (OpenSpec.ofChange Rows.keyeqFindsSpec) :=
  OpenClaim.holds_of_wide 5 Try.f5 rfl rfl rfl rfl rfl rfl rfl ⟨rfl, rfl, rfl, rfl, rfl⟩ rfl rfl rfl rfl rfl (by kernel_rfl) Try.func5 (by kernel_rfl)
    (of_decide_eq_true (by kernel_rfl)) (by unfold Func.isWrapper; first | (rw [if_pos (by decide +kernel)]; kernel_rfl) | (rw [if_neg (by decide +kernel)]; exact ⟨rfl, rfl⟩))
    (fun os started H enc _ => lifted os started H enc)

/-- ████ THE STATEMENT ████ -/
theorem proved : Rows.KeyeqFindsSaid := over
end Go.Proofs.Ytlbachgbeefhcaa.keyeqFinds
namespace Go.Proofs.Ytlbachgbeefhcaa
theorem keyeqFinds_holds : Rows.KeyeqFindsSaid := keyeqFinds.proved
#print axioms keyeqFinds_holds
end Go.Proofs.Ytlbachgbeefhcaa
