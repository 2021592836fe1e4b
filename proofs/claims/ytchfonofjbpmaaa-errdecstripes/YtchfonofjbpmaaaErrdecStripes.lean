/- PROVED: for all k, m, all slices data of byte slices, all slices has and bad of bools and all bytes by the call ErrdecStripes(k, m, data, has, bad, by) returns true, and its arguments read behind it as before; no conditions. -/
import Derived.Test.YtchfonofjbpmaaaRows
import Derived.Test.YtchfonofjbpmaaaTome14
import Derived.Test.YtchfonofjbpmaaaTome19
import Derived.Test.YtchfonofjbpmaaaTome20
import Derived.Test.YtchfonofjbpmaaaTome18
import Derived.WalkKit
import Derived.ProofKit
import Derived.OpenShut
import Derived.ShutString
import Derived.ChangeOld
import Derived.Below
import Derived.Deep.Grids
import Derived.Deep.Matrix
namespace Go.Proofs.Ytchfonofjbpmaaa.errdecStripes
open Go.ChangeShapes Go.WideShapes Go.ChangeAt Go.RowKit
open Go.ChangeMaps (open_string shut_string)
set_option linter.unusedVariables false

theorem own : ownKnob Try.prog.godebug = none := by kernel_rfl
theorem laidOut : laidOutB Try.prog = true := by kernel_rfl

/-- WHAT THE WALK IS TOLD OF A SLICE OF INTEGERS THAT CAME IN: it is nil; or it leads to a row of 'cap' cells, the numbers 'zs' (the first 'len' are its elements, the rest its spare room), each fitting its kind. -/
def IsRow (k : IntKind) (w : World) (a : Option Addr) (len cap : Nat) (zs : List Int) : Prop :=
  (a = none ∧ len = 0 ∧ cap = 0 ∧ zs = []) ∨
  ∃ x, a = some x ∧ len ≤ cap ∧ cap ≤ maxLen ∧ zs.length = cap ∧ (∀ i, i < zs.length → w.cell? (x.add i) = some (.int k (zs.getD i 0))) ∧ ∀ n ∈ zs, (Lit.int k n).wf = true

open Gf
set_option linter.unusedSimpArgs false
set_option maxRecDepth 100000 in
set_option maxHeartbeats 4000000 in
theorem walk (a0 : Int) (a1 : Int) (a2 : Option Addr) (len2 cap2 : Nat) (z2 : List (List UInt8)) (a3 : Option Addr) (len3 cap3 : Nat) (z3 : List Bool) (a4 : Option Addr) (len4 cap4 : Nat) (z4 : List Bool) (a5 : Int) (w : World) (w0 : (Lit.int .i64 a0).wf = true) (w1 : (Lit.int .i64 a1).wf = true) (w2 : Rs w (.slice a2 len2 cap2) z2) (w3 : RdB w (.slice a3 len3 cap3) z3) (w4 : RdB w (.slice a4 len4 cap4) z4) (w5 : (Lit.int .u8 a5).wf = true) :
    Calls Try.prog 7 #[.int .i64 a0, .int .i64 a1, .slice a2 len2 cap2, .slice a3 len3 cap3, .slice a4 len4 cap4, .int .u8 a5] w fun e w' => e = .returned (.bool true) ∧ Below w.heap.size w w' := by
  obtain rfl := rs_lenEq w2
  obtain rfl := w3.lenEq
  obtain rfl := w4.lenEq
  obtain ⟨y, rfl⟩ : ∃ y : UInt8, a5 = ((y.toNat : Nat) : Int) := ⟨UInt8.ofNat (a5).toNat, by have := bounds_u8 w5; rw [ofNat_u8 (by omega)]; omega⟩
  obtain ⟨i0, hi, hz0, hz1, hz2⟩ := info_parts info_int10
  go_enter Try.func7, Try.ntmps7
  have B : Below w.heap.size w w := Below.refl _ _
  go_wp2_with fail
  refine (awake10_any _).mono ?_
  rintro e u1 ⟨rfl, b⟩
  have D : Below (World.heap w |>.size) w u1 := Below.next (by repeat (first | exact Below.refl _ _ | apply Below.drewN | apply Below.drew | apply Below.draws | apply below_lit)) b
  replace w2 := w2.below D
  replace w3 := w3.below D
  replace w4 := w4.below D
  replace B := Below.next B D
  clear b D
  go_wp2_with fail
  refine (new_any _).mono ?_
  rintro e u2 ⟨rfl, F, hO⟩
  have b := hO.below
  clear hO
  have D : Below (World.heap u1 |>.size) u1 u2 := Below.next (by repeat (first | exact Below.refl _ _ | apply Below.drewN | apply Below.drew | apply Below.draws | apply below_lit)) b
  replace w2 := w2.below D
  replace w3 := w3.below D
  replace w4 := w4.below D
  replace B := Below.next B D
  clear b D
  by_cases ok : OkC a0 a1
  · obtain ⟨k, m, rfl, rfl, h1, h2⟩ := ok.nat
    obtain ⟨s, hs⟩ : ∃ s, Hid (s = k + m) := ⟨_, rfl⟩
    have hs2 : s ≤ 256 := by have := hs.out; omega
    have hs1 : 1 ≤ s := by have := hs.out; omega
    have g1 : (k : Int) + (m : Int) = (s : Int) := by have := hs.out; omega
    have gw : IntKind.i64.wrap (s : Int) = (s : Int) := by rw [IntKind.wrap_i64]; omega
    by_cases h60 : (s : Int) > 30
    · skip
      go_wp2_with fail
      refine (ccheck_ok _ ok).mono ?_
      rintro e u3 ⟨rfl, b⟩
      have D : Below (World.heap u2 |>.size) u2 u3 := Below.next (by repeat (first | exact Below.refl _ _ | apply Below.drewN | apply Below.drew | apply Below.draws | apply below_lit)) b
      replace w2 := w2.below D
      replace w3 := w3.below D
      replace w4 := w4.below D
      replace F := F.below D
      replace B := Below.next B D
      clear b D
      clear ok
      go_wp2
      go_ret
      exact ⟨rfl, Below.next B (by repeat (first | exact Below.refl _ _ | apply Below.drewN | apply Below.drew | apply Below.draws | apply below_lit))⟩
    · skip
      by_cases lz2 : z2.length = k
      · have qz2 : ((z2.length : Int) != (k : Int)) = false := by simp [lz2]
        have Lz2 : Hid _ := lz2
        clear lz2
        by_cases lz3 : z3.length = s
        · have qz3 : ((z3.length : Int) != (s : Int)) = false := by simp [lz3]
          have Lz3 : Hid _ := lz3
          clear lz3
          by_cases lz4 : z4.length = s
          · have qz4 : ((z4.length : Int) != (s : Int)) = false := by simp [lz4]
            have Lz4 : Hid _ := lz4
            clear lz4
            go_wp2_with fail
            refine (ccheck_ok _ ok).mono ?_
            rintro e u3 ⟨rfl, b⟩
            have D : Below (World.heap u2 |>.size) u2 u3 := Below.next (by repeat (first | exact Below.refl _ _ | apply Below.drewN | apply Below.drew | apply Below.draws | apply below_lit)) b
            replace w2 := w2.below D
            replace w3 := w3.below D
            replace w4 := w4.below D
            replace F := F.below D
            replace B := Below.next B D
            clear b D
            have h2' : Hid _ := h2
            clear ok h2
            obtain ⟨b0, o0, xa0, xc0, ex0, _, c0, r0⟩ := w2.at (i := 0) (by rw [Lz2.out]; omega)
            subst ex0
            rw [Nat.add_zero] at c0
            have i1 : (0 : Int) < (List.length z2 : Int) := by rw [Lz2.out]; omega
            have hr0 := r0.len
            unfold maxLen at hr0
            clear r0
            obtain ⟨n, hn⟩ : ∃ n, Hid (n = (ro z2 0).length) := ⟨_, rfl⟩
            rw [← hn.out] at c0 hr0
            by_cases h10 : (n : Int) > 10
            · skip
              go_wp2
              go_ret
              exact ⟨rfl, Below.next B (by repeat (first | exact Below.refl _ _ | apply Below.drewN | apply Below.drew | apply Below.draws | apply below_lit))⟩
            · by_cases hy : y = 0
              · have hy1 : (((y.toNat : Nat) : Int) == 0) = true := by rw [hy]; rfl
                clear hy
                go_wp2
                go_ret
                exact ⟨rfl, Below.next B (by repeat (first | exact Below.refl _ _ | apply Below.drewN | apply Below.drew | apply Below.draws | apply below_lit))⟩
              · have hy1 : (((y.toNat : Nat) : Int) == 0) = false := by rw [eq_u8_zero]; exact decide_eq_false hy
                have HY : Hid _ := hy
                clear hy
                by_cases hE : Even z2
                · have HE : Hid _ := hE
                  have hSm : Hid (Small z2) := ⟨by rw [Lz2.out]; omega, fun i => by
                    rcases Nat.lt_or_ge i z2.length with q | q
                    · rw [HE.out i q, ← hn.out]; omega
                    · rw [ro_ge q]; simp⟩
                  clear hE
                  obtain ⟨A, hA⟩ : ∃ A, Hid (A = encL m k (parF k) z2) := ⟨_, rfl⟩
                  have hAl : Hid (A.length = s) := (by rw [hA.out, encL_length, Lz2.out, hs.out] : A.length = s)
                  have hAr : Hid (∀ i, i < s → (ro A i).length = n) := fun i hi9 => by rw [hA.out, enc_len HE.out (by rw [Lz2.out, ← hs.out]; exact hi9), hn.out]
                  have hAs : Hid (Small A) := ⟨by rw [hAl.out]; omega, fun i => by
                    rcases Nat.lt_or_ge i s with q | q
                    · rw [hAr.out i q]; omega
                    · rw [ro_ge (by rw [hAl.out]; exact q)]; simp⟩
                  go_wp2_with fail
                  refine (enc_ok (F.below (by repeat (first | exact Below.refl _ _ | apply Below.drewN | apply Below.drew | apply Below.draws | apply below_lit))) h1 h2'.out (w2.below (by repeat (first | exact Below.refl _ _ | apply Below.drewN | apply Below.drew | apply Below.draws | apply below_lit))) Lz2.out HE.out hSm.out rfl rfl).mono ?_
                  rintro e u4 ⟨ve, rfl, Re, b⟩
                  rw [← hA.out] at Re
                  have D : Below (World.heap u3 |>.size) u3 u4 := Below.next (by repeat (first | exact Below.refl _ _ | apply Below.drewN | apply Below.drew | apply Below.draws | apply below_lit)) b
                  replace w2 := w2.below D
                  replace w3 := w3.below D
                  replace w4 := w4.below D
                  replace F := F.below D
                  replace B := Below.next B D
                  clear b D
                  obtain ⟨ea, ec, ee⟩ := Re.form
                  rw [hAl.out] at ee
                  subst ee
                  have F0 := F
                  have w30 := w3
                  have w40 := w4
                  have Re0 := Re
                  have BB0 := B
                  go_wp2_with fail
                  refine (rcop_any (Re.below (by repeat (first | exact Below.refl _ _ | apply Below.drewN | apply Below.drew | apply Below.draws | apply below_lit))) hAs.out).mono ?_
                  rintro e u5 ⟨vs, rfl, Os1, b⟩
                  have hB0 := b
                  obtain ⟨G, C, eG⟩ := os_form Os1 (by rw [hAl.out]; omega)
                  rw [hAl.out] at eG
                  subst eG
                  have D : Below (World.heap u4 |>.size) u4 u5 := Below.next (by repeat (first | exact Below.refl _ _ | apply Below.drewN | apply Below.drew | apply Below.draws | apply below_lit)) b
                  replace w2 := w2.below D
                  replace w3 := w3.below D
                  replace w4 := w4.below D
                  replace F := F.below D
                  replace Re := Re.below D
                  replace B := Below.next B D
                  clear b D
                  obtain ⟨bb, hbb⟩ : ∃ bb, Hid (bb = (World.heap u4 |>.size)) := ⟨_, rfl⟩
                  rw [← hbb.out] at Os1
                  have hBB : Below bb u4 u5 := by rw [hbb.out]; exact hB0
                  have P0 : OsP u5 bb 22 5 (.slice (some ⟨G, 0, none⟩) s C) (mdL A z3 z4 y n s 0) (fun q => (Value.slice none 0 0).ownBlock = some q) := (Os1.keepOff (Below.refl _ _) (fun q hq => by cases hq)).as (mdL_zero hAl.out).symm
                  clear Os1 hB0 F w2 w3 w4 Re B c0 i1
                  have hS0 : Hid (bb ≤ (World.heap u5 |>.size)) := hBB.size |> fun h => (by rw [hbb.out]; exact h : bb ≤ (World.heap u5 |>.size))
                  go_wp2_with fail
                  go_loopw [18, 19, 20] (fun o l i wr => ∃ r : Nat, r ≤ s ∧ i = .int .i64 (r : Int) ∧ l = .int .i64 ((cnt (fun j => !hb z3 j) r : Nat) : Int) ∧ OsP wr bb 22 5 (.slice (some ⟨G, 0, none⟩) s C) (mdL A z3 z4 y n s r) (fun q => o.ownBlock = some q) ∧ OwnI wr bb 3 o (plc (wrS z3 z4 n) r) ∧ Below bb u4 wr ∧ Hid (bb ≤ wr.heap.size)) (fun _ _ i _ => s - (intOf i).toNat)
                  case atStart => exact ⟨0, by omega, rfl, rfl, P0, OwnI.nil _ _ _, hBB, hS0⟩
                  case round =>
                    obtain ⟨r, hr, rfl, rfl, hP, hO, hB, hsz⟩ := hrel
                    clear P0 hBB hS0
                    have hcl := cnt_le (fun j => !hb z3 j) r
                    have hnl : Hid ((plc (wrS z3 z4 n) r).length ≤ 300) := (by rw [plc_length]; have := cnt_le (wrS z3 z4 n) r; omega : (plc (wrS z3 z4 n) r).length ≤ 300)
                    obtain ⟨av, cv, rfl⟩ := hO.form
                    have hlenM : Hid ((mdL A z3 z4 y n s r).length = s) := mdL_length _ _ _ _ _ _ _
                    by_cases hlt : r < s
                    · have hlt' : (r : Int) < (s : Int) := by omega
                      have hlt3 : (r : Int) < (z3.length : Int) := by rw [Lz3.out]; omega
                      have hlt4 : (r : Int) < (z4.length : Int) := by rw [Lz4.out]; omega
                      obtain ⟨x, cx, fx, gb, gl, ox, hnn, hput⟩ := hP.spot (k := r) (by rw [hlenM.out]; exact hlt)
                      rw [mdL_old hlt] at ox
                      obtain ⟨xa, xc, ex⟩ := owns_form ox
                      rw [hAr.out r hlt] at ex
                      subst ex
                      obtain ⟨b3, o3, e3, l3, k3⟩ := w30.at (show r < z3.length by rw [Lz3.out]; exact hlt)
                      obtain ⟨b4, o4, e4, l4, k4⟩ := w40.at (show r < z4.length by rw [Lz4.out]; exact hlt)
                      subst e3 e4
                      have k3r := (hB.cell (p := ⟨b3, o3 + r, none⟩) (by rw [hbb.out]; exact l3)).trans k3
                      have k4r := (hB.cell (p := ⟨b4, o4 + r, none⟩) (by rw [hbb.out]; exact l4)).trans k4
                      have hoG : Hid (∀ q, (Value.slice av (plc (wrS z3 z4 n) r).length cv).ownBlock = some q → q ≠ G) := fun q hq => by
                        obtain ⟨vals, _, _, hp⟩ := hP
                        intro e9
                        exact (hp q hq).1 (by rw [e9]; rfl)
                      have hxl : (n : Int) ≤ 10 := by omega
                      clear hnn k3 k4
                      cases e3b : hb z3 r with
                      | false =>
                        rw [e3b] at k3r
                        have HW : Hid (plc (wrS z3 z4 n) (r + 1) = plc (wrS z3 z4 n) r) := (by rw [plc_succ]; unfold wrS; rw [e3b]; simp : plc (wrS z3 z4 n) (r + 1) = plc (wrS z3 z4 n) r)
                        have HC : Hid (cnt (fun j => !hb z3 j) (r + 1) = cnt (fun j => !hb z3 j) r + 1) := (by rw [cnt]; simp [e3b] : cnt (fun j => !hb z3 j) (r + 1) = cnt (fun j => !hb z3 j) r + 1)
                        obtain ⟨c7, f7, o7, k7⟩ := hput wr (wr.alloc (.cells #[.int .u8 ((y.toNat : Nat) : Int)] 5)) (.slice (some ⟨wr.heap.size, 0, none⟩) 1 1) [y] (Below.refl _ _) (World.grownBy_alloc _ _ _) (lit_own hsz.out rfl) (Or.inr rfl) (fun q hq => (World.ownsRow.lt hO q hq).2)
                        rw [mdL_step hlt (show [y] = mdS A z3 z4 y n r by unfold mdS; rw [if_pos e3b])] at o7
                        have hcm := World.setCell_alloc_past (w := wr) (.cells #[.int .u8 ((y.toNat : Nat) : Int)] 5) G r (.slice (some ⟨wr.heap.size, 0, none⟩) 1 1) gl
                        have HO2 : OwnI ((wr.alloc (.cells #[.int .u8 ((y.toNat : Nat) : Int)] 5)).setCell ⟨G, r, none⟩ (.slice (some ⟨wr.heap.size, 0, none⟩) 1 1)) bb 3 (.slice av (plc (wrS z3 z4 n) r).length cv) (plc (wrS z3 z4 n) (r + 1)) := by
                          rw [HW.out]
                          exact World.ownsRow.kept (World.ownsRow.alloc hO _) (grown_set _ G r _) (ne_block hoG.out)
                        have HB2 : Below bb u4 ((wr.alloc (.cells #[.int .u8 ((y.toNat : Nat) : Int)] 5)).setCell ⟨G, r, none⟩ (.slice (some ⟨wr.heap.size, 0, none⟩) 1 1)) := (hB.alloc hsz.out _).setCell (p := ⟨G, r, none⟩) gb _
                        have HS2 : bb ≤ ((wr.alloc (.cells #[.int .u8 ((y.toNat : Nat) : Int)] 5)).setCell ⟨G, r, none⟩ (.slice (some ⟨wr.heap.size, 0, none⟩) 1 1)).heap.size := by have h9 := hsz.out; rw [((Only.refl G _).setCell r _).size]; simp; omega
                        have HX : Hid (OsP ((wr.setCell ⟨G, r, none⟩ (.slice (some ⟨wr.heap.size, 0, none⟩) 1 1)).alloc (.cells #[.int .u8 ((y.toNat : Nat) : Int)] 5)) bb 22 5 (.slice (some ⟨G, 0, none⟩) s C) (mdL A z3 z4 y n s (r + 1)) (fun q => (Value.slice av (plc (wrS z3 z4 n) r).length cv).ownBlock = some q) ∧ OwnI ((wr.setCell ⟨G, r, none⟩ (.slice (some ⟨wr.heap.size, 0, none⟩) 1 1)).alloc (.cells #[.int .u8 ((y.toNat : Nat) : Int)] 5)) bb 3 (.slice av (plc (wrS z3 z4 n) r).length cv) (plc (wrS z3 z4 n) (r + 1)) ∧ Below bb u4 ((wr.setCell ⟨G, r, none⟩ (.slice (some ⟨wr.heap.size, 0, none⟩) 1 1)).alloc (.cells #[.int .u8 ((y.toNat : Nat) : Int)] 5)) ∧ bb ≤ ((wr.setCell ⟨G, r, none⟩ (.slice (some ⟨wr.heap.size, 0, none⟩) 1 1)).alloc (.cells #[.int .u8 ((y.toNat : Nat) : Int)] 5)).heap.size) := (by rw [← hcm]; exact ⟨o7, HO2, HB2, HS2⟩)
                        have gwc : IntKind.i64.wrap (((cnt (fun j => !hb z3 j) r : Nat) : Int) + 1) = ((cnt (fun j => !hb z3 j) r : Nat) : Int) + 1 := by rw [IntKind.wrap_i64]; omega
                        clear e3b ox hput c7 f7 o7 k7 hcm HO2 HB2 HS2 hP hO hB k4r
                        go_wp2
                        go_roundw
                        case rel => exact ⟨r + 1, by omega, by go_num, by rw [HC.out]; go_num, HX.out.1, HX.out.2.1, HX.out.2.2.1, HX.out.2.2.2⟩
                        case measure => simp [intOf]; omega
                      | true =>
                        rw [e3b] at k3r
                        have HC : Hid (cnt (fun j => !hb z3 j) (r + 1) = cnt (fun j => !hb z3 j) r) := (by rw [cnt]; simp [e3b] : cnt (fun j => !hb z3 j) (r + 1) = cnt (fun j => !hb z3 j) r)
                        by_cases hbn : hb z4 r = true ∧ 0 < n
                        · rw [hbn.1] at k4r
                          have hn1 : (n : Int) > 0 := by have := hbn.2; omega
                          have hn2 : Hid (0 < n) := hbn.2
                          obtain ⟨t, ht⟩ : ∃ t, Hid (t = r % n) := ⟨_, rfl⟩
                          have htn : t < n := by rw [ht.out]; exact Nat.mod_lt _ hn2.out
                          have hrem : Int.tmod (r : Int) (n : Int) = (t : Int) := by rw [ht.out]; exact (Int.tmod_eq_emod_of_nonneg (by omega)).trans (by omega)
                          have hmd : (ro A r).set t (co (ro A r) t ^^^ y) = mdS A z3 z4 y n r := by unfold mdS; rw [if_neg (by rw [e3b]; decide), if_pos hbn, ht.out]
                          have HW : Hid (plc (wrS z3 z4 n) (r + 1) = plc (wrS z3 z4 n) r ++ [r]) := (by
                            rw [plc_succ]
                            have h9 : wrS z3 z4 n r = true := by unfold wrS; rw [e3b, hbn.1]; simp [hbn.2]
                            rw [h9]; simp : plc (wrS z3 z4 n) (r + 1) = plc (wrS z3 z4 n) r ++ [r])
                          obtain ⟨G9, C9, g, c9, eG, c1, c2, f2, gb2, ggG, hoff, hset⟩ := hP.byte (i := r) (n := t) (by rw [hlenM.out]; exact hlt) (by rw [mdL_old hlt, hAr.out r hlt]; exact htn)
                          simp at eG
                          obtain ⟨rfl, eGl, rfl⟩ := eG
                          clear eGl
                          rw [mdL_old hlt] at c1 c2
                          rw [hAr.out r hlt] at c1
                          have hx9 : xa = some ⟨g, 0, none⟩ ∧ xc = c9 := by
                            rw [cx] at c1
                            simp at c1
                            exact c1
                          obtain ⟨rfl, rfl⟩ := hx9
                          have o8 := hset (co (ro A r) t ^^^ y)
                          have e8 : setL (mdL A z3 z4 y n s r) r t (co (ro A r) t ^^^ y) = mdL A z3 z4 y n s (r + 1) := by unfold setL; rw [mdL_old hlt]; exact mdL_step hlt hmd
                          rw [e8] at o8
                          have X := xor_u8 (co (ro A r) t) y
                          obtain ⟨wq, hwq⟩ : ∃ wq, wq = wr.setCell ⟨g, t, none⟩ (.int .u8 (((co (ro A r) t).toNat ^^^ y.toNat : Nat) : Int)) := ⟨_, rfl⟩
                          have O8 : OsP wq bb 22 5 (.slice (some ⟨G, 0, none⟩) s C) (mdL A z3 z4 y n s (r + 1)) (fun q => (Value.slice av (plc (wrS z3 z4 n) r).length cv).ownBlock = some q) := by rw [hwq, ← UInt8.toNat_xor]; exact o8
                          have I8 : OwnI wq bb 3 (.slice av (plc (wrS z3 z4 n) r).length cv) (plc (wrS z3 z4 n) r) := by rw [hwq]; exact World.ownsRow.kept hO (grown_set wr g t _) (ne_block hoff)
                          have B8 : Below bb u4 wq := by rw [hwq]; exact hB.setCell (p := ⟨g, t, none⟩) gb2 _
                          have S8 : bb ≤ wq.heap.size := by rw [hwq, ((Only.refl g wr).setCell t _).size]; exact hsz.out
                          have cGq : wr.cell? ⟨G, r, none⟩ = some (.slice (some ⟨g, 0, none⟩) n xc) := cx
                          have htn' : (t : Int) < (n : Int) := by omega
                          have hnz : ¬ (n : Int) = 0 := by omega
                          have hnN : ¬ n = 0 := by omega
                          have hnb : ((n : Int) == 0) = false := by simp; omega
                          clear e3b ox hput hP hO hB hmd hset o8 e8 c1 fx hbn hoff
                          go_wp2_with fail
                          refine wp_region_held_drew (S := fun wx => wx.cell? ⟨G, r, none⟩ = some (.slice (some ⟨g, 0, none⟩) n xc)) (by kernel_rfl) ?_ (fun hHeld => ?_)
                          · exact cGq
                          refine wpAnyH_take (i := 0) (v := ?_) rfl (by kernel_rfl) (by kernel_rfl) (by kernel_rfl) (fun _ _ _ h => h) (Or.inl ⟨by rfl, ?_⟩) (by assumption) ?_
                          rotate_left
                          · intro w hSw; (try dsimp only at hSw); go_simp; try with_reducible rfl
                          try simp only [Act.put, List.setIfInBounds_toArray, List.set_cons_zero, List.set_cons_succ]
                          refine wpAnyH_take (i := 1) (v := ?_) rfl (by kernel_rfl) (by kernel_rfl) (by kernel_rfl) (fun _ _ _ h => h) (Or.inl ⟨by rfl, ?_⟩) (by assumption) ?_
                          rotate_left
                          · intro w hSw; (try dsimp only at hSw); go_simp; try with_reducible rfl
                          try simp only [Act.put, List.setIfInBounds_toArray, List.set_cons_zero, List.set_cons_succ]
                          refine wpAnyH_take (i := 2) (v := ?_) rfl (by kernel_rfl) (by kernel_rfl) (by kernel_rfl) (fun _ _ _ h => h) (Or.inl ⟨by rfl, ?_⟩) (by assumption) ?_
                          rotate_left
                          · intro w hSw; (try dsimp only at hSw); go_simp; try with_reducible rfl
                          try simp only [Act.put, List.setIfInBounds_toArray, List.set_cons_zero, List.set_cons_succ]
                          refine wpAnyH_take (i := 3) (v := ?_) rfl (by kernel_rfl) (by kernel_rfl) (by kernel_rfl) (fun _ _ _ h => h) (Or.inl ⟨by rfl, ?_⟩) (by assumption) ?_
                          rotate_left
                          · intro w hSw; (try dsimp only at hSw); go_simp; try with_reducible rfl
                          try simp only [Act.put, List.setIfInBounds_toArray, List.set_cons_zero, List.set_cons_succ]
                          refine wpAnyH_take (i := 4) (v := ?_) rfl (by kernel_rfl) (by kernel_rfl) (by kernel_rfl) (fun _ _ _ h => h) (Or.inl ⟨by rfl, ?_⟩) (by assumption) ?_
                          rotate_left
                          · intro w hSw; (try dsimp only at hSw); go_simp; try with_reducible rfl
                          try simp only [Act.put, List.setIfInBounds_toArray, List.set_cons_zero, List.set_cons_succ]
                          refine wpAnyH_take (i := 5) (v := ?_) rfl (by kernel_rfl) (by kernel_rfl) (by kernel_rfl) (fun _ _ _ h => h) (Or.inl ⟨by rfl, ?_⟩) (by assumption) ?_
                          rotate_left
                          · intro w hSw; (try dsimp only at hSw); go_simp; try with_reducible rfl
                          try simp only [Act.put, List.setIfInBounds_toArray, List.set_cons_zero, List.set_cons_succ]
                          refine wpAnyH_take (i := 6) (v := ?_) rfl (by kernel_rfl) (by kernel_rfl) (by kernel_rfl) (fun _ _ _ h => h) (Or.inl ⟨by rfl, ?_⟩) (by assumption) ?_
                          rotate_left
                          · intro w hSw; (try dsimp only at hSw); go_simp; try with_reducible rfl
                          try simp only [Act.put, List.setIfInBounds_toArray, List.set_cons_zero, List.set_cons_succ]
                          refine wpAnyH_take (i := 7) (v := ?_) rfl (by kernel_rfl) (by kernel_rfl) (by kernel_rfl) (fun _ _ _ h => h) (Or.inl ⟨by rfl, ?_⟩) (by assumption) ?_
                          rotate_left
                          · intro w hSw; (try dsimp only at hSw); go_simp; try with_reducible rfl
                          try simp only [Act.put, List.setIfInBounds_toArray, List.set_cons_zero, List.set_cons_succ]
                          refine wpAnyH_take (i := 8) (v := ?_) rfl (by kernel_rfl) (by kernel_rfl) (by kernel_rfl) (fun _ _ _ h => h) (Or.inl ⟨by rfl, ?_⟩) (by assumption) ?_
                          rotate_left
                          · intro w hSw; (try dsimp only at hSw); go_simp; try with_reducible rfl
                          try simp only [Act.put, List.setIfInBounds_toArray, List.set_cons_zero, List.set_cons_succ]
                          refine wpAnyH_take (i := 9) (v := ?_) rfl (by kernel_rfl) (by kernel_rfl) (by kernel_rfl) (fun _ _ _ h => h) (Or.inl ⟨by rfl, ?_⟩) (by assumption) ?_
                          rotate_left
                          · intro w hSw; (try dsimp only at hSw); go_simp; try with_reducible rfl
                          try simp only [Act.put, List.setIfInBounds_toArray, List.set_cons_zero, List.set_cons_succ]
                          refine wpAnyH_take (i := 10) (v := ?_) rfl (by kernel_rfl) (by kernel_rfl) (by kernel_rfl) (fun _ _ _ h => h) (Or.inl ⟨by rfl, ?_⟩) (by assumption) ?_
                          rotate_left
                          · intro w hSw; (try dsimp only at hSw); go_simp; try with_reducible rfl
                          try simp only [Act.put, List.setIfInBounds_toArray, List.set_cons_zero, List.set_cons_succ]
                          refine wpAnyH_take (i := 11) (v := ?_) rfl (by kernel_rfl) (by kernel_rfl) (by kernel_rfl) (fun _ _ _ h => h) (Or.inl ⟨by rfl, ?_⟩) (by assumption) ?_
                          rotate_left
                          · intro w hSw; (try dsimp only at hSw); go_simp; try with_reducible rfl
                          try simp only [Act.put, List.setIfInBounds_toArray, List.set_cons_zero, List.set_cons_succ]
                          refine wpAnyH_take (i := 12) (v := ?_) rfl (by kernel_rfl) (by kernel_rfl) (by kernel_rfl) (fun _ _ _ h => h) (Or.inl ⟨by rfl, ?_⟩) (by assumption) ?_
                          rotate_left
                          · intro w hSw; (try dsimp only at hSw); go_simp; try with_reducible rfl
                          try simp only [Act.put, List.setIfInBounds_toArray, List.set_cons_zero, List.set_cons_succ]
                          refine wpAnyH_take (i := 13) (v := ?_) rfl (by kernel_rfl) (by kernel_rfl) (by kernel_rfl) (fun _ _ _ h => h) (Or.inl ⟨by rfl, ?_⟩) (by assumption) ?_
                          rotate_left
                          · intro w hSw; (try dsimp only at hSw); go_simp; try with_reducible rfl
                          try simp only [Act.put, List.setIfInBounds_toArray, List.set_cons_zero, List.set_cons_succ]
                          refine wpAnyH_take (i := 14) (v := ?_) rfl (by kernel_rfl) (by kernel_rfl) (by kernel_rfl) (fun _ _ _ h => h) (Or.inl ⟨by rfl, ?_⟩) (by assumption) ?_
                          rotate_left
                          · intro w hSw; (try dsimp only at hSw); go_simp; try with_reducible rfl
                          try simp only [Act.put, List.setIfInBounds_toArray, List.set_cons_zero, List.set_cons_succ]
                          refine wpAnyH_take (i := 15) (v := ?_) rfl (by kernel_rfl) (by kernel_rfl) (by kernel_rfl) (fun _ _ _ h => h) (Or.inl ⟨by rfl, ?_⟩) (by assumption) ?_
                          rotate_left
                          · intro w hSw; (try dsimp only at hSw); go_simp; try with_reducible rfl
                          try simp only [Act.put, List.setIfInBounds_toArray, List.set_cons_zero, List.set_cons_succ]
                          refine wpAnyH_take (i := 16) (v := ?_) rfl (by kernel_rfl) (by kernel_rfl) (by kernel_rfl) (fun _ _ _ h => h) (Or.inl ⟨by rfl, ?_⟩) (by assumption) ?_
                          rotate_left
                          · intro w hSw; (try dsimp only at hSw); go_simp; try with_reducible rfl
                          try simp only [Act.put, List.setIfInBounds_toArray, List.set_cons_zero, List.set_cons_succ]
                          refine wpAnyH_take (i := 17) (v := ?_) rfl (by kernel_rfl) (by kernel_rfl) (by kernel_rfl) (fun _ _ _ h => h) (Or.inl ⟨by rfl, ?_⟩) (by assumption) ?_
                          rotate_left
                          · intro w hSw; (try dsimp only at hSw); go_simp; try with_reducible rfl
                          try simp only [Act.put, List.setIfInBounds_toArray, List.set_cons_zero, List.set_cons_succ]
                          refine wpAnyH_take (i := 18) (v := ?_) rfl (by kernel_rfl) (by kernel_rfl) (by kernel_rfl) (fun _ _ _ h => h) (Or.inl ⟨by rfl, ?_⟩) (by assumption) ?_
                          rotate_left
                          · intro w hSw; (try dsimp only at hSw); go_simp; try with_reducible rfl
                          try simp only [Act.put, List.setIfInBounds_toArray, List.set_cons_zero, List.set_cons_succ]
                          refine wpAnyH_take (i := 19) (v := ?_) rfl (by kernel_rfl) (by kernel_rfl) (by kernel_rfl) (fun _ _ _ h => h) (Or.inl ⟨by rfl, ?_⟩) (by assumption) ?_
                          rotate_left
                          · intro w hSw; (try dsimp only at hSw); go_simp; try with_reducible rfl
                          try simp only [Act.put, List.setIfInBounds_toArray, List.set_cons_zero, List.set_cons_succ]
                          refine wpAnyH_take (i := 20) (v := ?_) rfl (by kernel_rfl) (by kernel_rfl) (by kernel_rfl) (fun _ _ _ h => h) (Or.inl ⟨by rfl, ?_⟩) (by assumption) ?_
                          rotate_left
                          · intro w hSw; (try dsimp only at hSw); go_simp; try with_reducible rfl
                          try simp only [Act.put, List.setIfInBounds_toArray, List.set_cons_zero, List.set_cons_succ]
                          refine wpAnyH_take (i := 21) (v := ?_) rfl (by kernel_rfl) (by kernel_rfl) (by kernel_rfl) (fun _ _ _ h => h) (Or.inl ⟨by rfl, ?_⟩) (by assumption) ?_
                          rotate_left
                          · intro w hSw; (try dsimp only at hSw); go_simp; try with_reducible rfl
                          try simp only [Act.put, List.setIfInBounds_toArray, List.set_cons_zero, List.set_cons_succ]
                          refine wpAnyH_take (i := 22) (v := ?_) rfl (by kernel_rfl) (by kernel_rfl) (by kernel_rfl) (fun _ _ _ h => h) (Or.inl ⟨by rfl, ?_⟩) (by assumption) ?_
                          rotate_left
                          · intro w hSw; (try dsimp only at hSw); go_simp; try with_reducible rfl
                          try simp only [Act.put, List.setIfInBounds_toArray, List.set_cons_zero, List.set_cons_succ]
                          refine wpAnyH_take (i := 24) (v := ?_) rfl (by kernel_rfl) (by kernel_rfl) (by kernel_rfl) (fun _ _ _ h => h) (Or.inl ⟨by rfl, ?_⟩) (by assumption) ?_
                          rotate_left
                          · intro w hSw; (try dsimp only at hSw); go_simp; try with_reducible rfl
                          try simp only [Act.put, List.setIfInBounds_toArray, List.set_cons_zero, List.set_cons_succ]
                          refine wpAnyH_ready (rs := [23]) (by kernel_rfl) (by simp) ?_
                          refine AllReadyH.cons rfl (fun K hK => ?_) AllReadyH.nil
                          go_simp
                          refine hK.out _ _ ?_ (fun hHeld => ?_)
                          · first | exact hHeld | exact cGq
                          clear hK K
                          try simp only [Act.put, List.setIfInBounds_toArray, List.set_cons_zero, List.set_cons_succ]
                          refine wpAnyH_take (i := 25) (v := ?_) rfl (by kernel_rfl) (by kernel_rfl) (by kernel_rfl) (fun _ _ _ h => h) (Or.inl ⟨by rfl, ?_⟩) (by assumption) ?_
                          rotate_left
                          · intro w hSw; (try dsimp only at hSw); go_simp; try with_reducible rfl
                          try simp only [Act.put, List.setIfInBounds_toArray, List.set_cons_zero, List.set_cons_succ]
                          refine wpAnyH_take (i := 26) (v := ?_) rfl (by kernel_rfl) (by kernel_rfl) (by kernel_rfl) (fun _ _ _ h => h) (Or.inl ⟨by rfl, ?_⟩) (by assumption) ?_
                          rotate_left
                          · intro w hSw; (try dsimp only at hSw); go_simp; try with_reducible rfl
                          try simp only [Act.put, List.setIfInBounds_toArray, List.set_cons_zero, List.set_cons_succ]
                          refine wpAnyH_ready (rs := [27]) (by kernel_rfl) (by simp) ?_
                          refine AllReadyH.cons rfl (fun K hK => ?_) AllReadyH.nil
                          go_simp
                          refine hK.out _ _ ?_ (fun hHeld => ?_)
                          · first | exact (World.cell?_setCell_far _ _ _ _ ggG).trans cGq | exact (World.cell?_setCell_far _ _ _ _ (Ne.symm ggG)).trans cGq | exact (World.cell?_setCell_far _ _ _ _ (Ne.symm ggG)).trans hHeld
                          clear hK K
                          try simp only [Act.put, List.setIfInBounds_toArray, List.set_cons_zero, List.set_cons_succ]
                          refine wpAnyH_done (by kernel_rfl) ?_ _
                          clear hHeld
                          all_goals rw [← hwq]
                          all_goals clear hwq c2 f2 X cGq cx
                          obtain ⟨wd, hwd⟩ : ∃ wd, wd = wq.drew := ⟨_, rfl⟩
                          have HX : Hid (OsP wd bb 22 5 (.slice (some ⟨G, 0, none⟩) s C) (mdL A z3 z4 y n s (r + 1)) (fun q => (Value.slice av (plc (wrS z3 z4 n) r).length cv).ownBlock = some q)) := (by rw [hwd]; obtain ⟨y1, y2, y3, y4⟩ := O8; exact ⟨y1, y2, ⟨y3.own, y3.diff, y3.out⟩, y4⟩ : OsP wd bb 22 5 (.slice (some ⟨G, 0, none⟩) s C) (mdL A z3 z4 y n s (r + 1)) (fun q => (Value.slice av (plc (wrS z3 z4 n) r).length cv).ownBlock = some q))
                          have HOd : OwnI wd bb 3 (.slice av (plc (wrS z3 z4 n) r).length cv) (plc (wrS z3 z4 n) r) := by rw [hwd]; exact I8
                          have HBd : Hid (Below bb u4 wd) := (by rw [hwd]; exact B8.drew : Below bb u4 wd)
                          have hszd : bb ≤ wd.heap.size := by rw [hwd]; exact S8
                          rw [← hwd]
                          clear hwd O8 I8 B8 S8
                          go_wp2_with (at_builtin; go_loud (refine wpList_append_int2 rfl (.tmp 153) (.tmp 155) 28 rfl bb 3 i0 Try.underlying28 hi hz0 hz1 hz2 (.slice av (plc (wrS z3 z4 n) r).length cv) (plc (wrS z3 z4 n) r) rfl HOd r _ 1 rfl (by have := hnl.out; omega) hszd ?_); intro v' w8 hv2 hg2 hb2)
                          have HO : Hid (OwnI w8 bb 3 v' (plc (wrS z3 z4 n) (r + 1))) := (by rw [HW.out]; exact hv2 : OwnI w8 bb 3 v' (plc (wrS z3 z4 n) (r + 1)))
                          have HP : Hid (OsP w8 bb 22 5 (.slice (some ⟨G, 0, none⟩) s C) (mdL A z3 z4 y n s (r + 1)) (fun q => v'.ownBlock = some q)) := HX.out.grown hg2 hb2
                          have HA := HBd.out.alloc hszd (.cells #[.int .i64 (r : Int)] 3)
                          have HSa : bb ≤ (World.alloc wd (.cells #[.int .i64 (r : Int)] 3)).heap.size := by simp; omega
                          have HB : Hid (Below bb u4 w8) := HA.grown hg2 HSa (fun q hq => (World.ownsRow.lt HOd q hq).1)
                          have HS : Hid (bb ≤ w8.heap.size) := Nat.le_trans HSa hg2.size
                          clear hv2 hg2 hb2 HOd HBd hszd HX HA HSa
                          go_wp2
                          go_roundw
                          case rel => exact ⟨r + 1, by omega, by go_num, by rw [HC.out], HP.out, HO.out, HB.out, HS⟩
                          case measure => simp [intOf]; omega
                        · have hmd : mdS A z3 z4 y n r = ro A r := by unfold mdS; rw [if_neg (by rw [e3b]; decide), if_neg hbn]
                          have HW : Hid (plc (wrS z3 z4 n) (r + 1) = plc (wrS z3 z4 n) r) := (by
                            rw [plc_succ]
                            have h9 : wrS z3 z4 n r = false := by
                              unfold wrS
                              rw [e3b, Bool.true_and]
                              cases q : hb z4 r
                              · rfl
                              · have : ¬ 0 < n := fun z => hbn ⟨q, z⟩
                                simp [this]
                            rw [h9]; simp : plc (wrS z3 z4 n) (r + 1) = plc (wrS z3 z4 n) r)
                          have HP : Hid (OsP wr bb 22 5 (.slice (some ⟨G, 0, none⟩) s C) (mdL A z3 z4 y n s (r + 1)) (fun q => (Value.slice av (plc (wrS z3 z4 n) r).length cv).ownBlock = some q)) := hP.as (mdL_keep hlt hmd).symm
                          have HO : Hid (OwnI wr bb 3 (.slice av (plc (wrS z3 z4 n) r).length cv) (plc (wrS z3 z4 n) (r + 1))) := (by rw [HW.out]; exact hO : OwnI wr bb 3 (.slice av (plc (wrS z3 z4 n) r).length cv) (plc (wrS z3 z4 n) (r + 1)))
                          have HB : Hid _ := hB
                          clear ox hput hP hO hB hmd e3b
                          cases e4b : hb z4 r with
                          | false =>
                            rw [e4b] at k4r
                            clear e4b hbn
                            go_wp2
                            go_roundw
                            case rel => exact ⟨r + 1, by omega, by go_num, by rw [HC.out], HP.out, HO.out, HB.out, hsz⟩
                            case measure => simp [intOf]; omega
                          | true =>
                            rw [e4b] at k4r
                            have hn0 : n = 0 := by
                              rcases Nat.eq_zero_or_pos n with q | q
                              · exact q
                              · exact absurd ⟨e4b, q⟩ hbn
                            have hn1 : ¬ (n : Int) > 0 := by omega
                            clear e4b hbn hn0
                            go_wp2
                            go_roundw
                            case rel => exact ⟨r + 1, by omega, by go_num, by rw [HC.out], HP.out, HO.out, HB.out, hsz⟩
                            case measure => simp [intOf]; omega
                    · have hge : ¬ (r : Int) < (s : Int) := by omega
                      have er : s = r := by omega
                      subst er
                      have hP0 := hP.as mdL_all
                      clear hP
                      obtain ⟨M, hM⟩ : ∃ M, Hid (M = mkL s (mdS A z3 z4 y n)) := ⟨_, rfl⟩
                      rw [← hM.out] at hP0
                      have Rm := hP0.os.rs
                      have hsm : Hid (∀ i, hb z3 i = true → (ro M i).length ≤ 300) := fun i hi9 => by
                        have h8 : i < s := by rw [← Lz3.out]; exact hb_in hi9
                        rw [hM.out, ro_mkL h8, mds_len (hAr.out i h8) hi9]; omega
                      obtain ⟨P, hP⟩ : ∃ P, Hid (P = plc (wrS z3 z4 n) s) := ⟨_, rfl⟩
                      have hpl : Hid (P.length = cnt (wrS z3 z4 n) s) := (by rw [hP.out, plc_length] : P.length = cnt (wrS z3 z4 n) s)
                      have hpn : P.length ≤ s := by rw [hpl.out]; exact cnt_le _ _
                      rw [← hP.out] at hO ⊢
                      have Rp := hO.rd (by omega)
                      obtain ⟨e0, he0⟩ : ∃ e0, Hid (e0 = cnt (fun j => !hb z3 j) s) := ⟨_, rfl⟩
                      have he1 : e0 ≤ s := by rw [he0.out]; exact cnt_le _ _
                      rw [← he0.out]
                      have hg1 : IntKind.i64.wrap (2 * (P.length : Int)) = 2 * (P.length : Int) := by rw [IntKind.wrap_i64]; omega
                      have hg2 : IntKind.i64.wrap (2 * (P.length : Int) + (e0 : Int)) = 2 * (P.length : Int) + (e0 : Int) := by rw [IntKind.wrap_i64]; omega
                      have q0 : ¬ (s : Int) < (s : Int) := by omega
                      rw [hbb.out] at hB
                      have F := F0.below hB
                      have w3 := w30.below hB
                      have Re := Re0.below hB
                      have B := Below.next BB0 hB
                      clear hP0 hO hge hlt hB hr hsz hlenM hnl hcl F0 w30 w40 Re0 BB0
                      by_cases hf : 2 * P.length + e0 ≤ m ∧ e0 ≠ s
                      · have q1 : ¬ 2 * (P.length : Int) + (e0 : Int) > (m : Int) := by omega
                        have q2 : ((e0 : Int) == (s : Int)) = false := by simp; omega
                        obtain ⟨e1, e2, e3⟩ := stripes10 h1 h2'.out Lz2.out HE.out hn.out.symm (by rw [Lz3.out, hs.out]) HY.out (bd := z4) (by rw [← hs.out, ← he0.out]; exact hf.2) (by rw [← hs.out, ← hpl.out, ← he0.out]; exact hf.1)
                        rw [← hs.out, ← hA.out, ← hM.out] at e1 e2 e3
                        rw [← hP.out] at e3
                        clear hf
                        go_wp2_with fail
                        refine (esh_any (k := (k : Int)) (m := (m : Int)) (F.below (by repeat (first | exact Below.refl _ _ | apply Below.drewN | apply Below.drew | apply Below.draws | apply below_lit))) (w3.below (by repeat (first | exact Below.refl _ _ | apply Below.drewN | apply Below.drew | apply Below.draws | apply below_lit))) (Rm.below (by repeat (first | exact Below.refl _ _ | apply Below.drewN | apply Below.drew | apply Below.draws | apply below_lit))) hsm.out).mono ?_
                        rintro e u6 ⟨va, vd, rfl, Ra, Oa, b⟩
                        rw [e1]
                        rw [e2] at Ra
                        rw [e3] at Oa
                        have Wa := Oa.rd (by omega)
                        clear Oa e1 e2 e3
                        have D : Below (World.heap wr |>.size) wr u6 := Below.next (by repeat (first | exact Below.refl _ _ | apply Below.drewN | apply Below.drew | apply Below.draws | apply below_lit)) b
                        replace F := F.below D
                        replace w3 := w3.below D
                        replace Re := Re.below D
                        replace Rm := Rm.below D
                        replace Rp := Rp.below D
                        replace B := Below.next B D
                        clear b D
                        obtain ⟨aa, ac, ea9⟩ := Ra.form
                        rw [hAl.out] at ea9
                        subst ea9
                        obtain ⟨da, dc, rfl⟩ := Wa.form
                        rw [toI_length] at Wa ⊢
                        go_wp2_with fail
                        refine (same106_t (Ra.below (by repeat (first | exact Below.refl _ _ | apply Below.drewN | apply Below.drew | apply Below.draws | apply below_lit))) (Re.below (by repeat (first | exact Below.refl _ _ | apply Below.drewN | apply Below.drew | apply Below.draws | apply below_lit))) rfl).mono ?_
                        rintro e u7 ⟨rfl, b⟩
                        have D : Below (World.heap u6 |>.size) u6 u7 := Below.next (by repeat (first | exact Below.refl _ _ | apply Below.drewN | apply Below.drew | apply Below.draws | apply below_lit)) b
                        replace F := F.below D
                        replace w3 := w3.below D
                        replace Re := Re.below D
                        replace Rm := Rm.below D
                        replace Rp := Rp.below D
                        replace Ra := Ra.below D
                        replace Wa := Wa.below D
                        replace B := Below.next B D
                        clear b D
                        go_wp2_with fail
                        refine (ints_t (Wa.below (by repeat (first | exact Below.refl _ _ | apply Below.drewN | apply Below.drew | apply Below.draws | apply below_lit))) (Rp.below (by repeat (first | exact Below.refl _ _ | apply Below.drewN | apply Below.drew | apply Below.draws | apply below_lit))) (by rw [toI_length]; omega) (by rw [toI_length]; omega) rfl).mono ?_
                        rintro e u8 ⟨rfl, b⟩
                        have D : Below (World.heap u7 |>.size) u7 u8 := Below.next (by repeat (first | exact Below.refl _ _ | apply Below.drewN | apply Below.drew | apply Below.draws | apply below_lit)) b
                        replace F := F.below D
                        replace w3 := w3.below D
                        replace Re := Re.below D
                        replace Rm := Rm.below D
                        replace Rp := Rp.below D
                        replace Ra := Ra.below D
                        replace Wa := Wa.below D
                        replace B := Below.next B D
                        clear b D
                        go_wp2
                        go_ret
                        exact ⟨rfl, Below.next B (by repeat (first | exact Below.refl _ _ | apply Below.drewN | apply Below.drew | apply Below.draws | apply below_lit))⟩
                      · by_cases q1 : 2 * (P.length : Int) + (e0 : Int) > (m : Int)
                        · clear hf
                          go_wp2
                          go_ret
                          exact ⟨rfl, Below.next B (by repeat (first | exact Below.refl _ _ | apply Below.drewN | apply Below.drew | apply Below.draws | apply below_lit))⟩
                        · have q2 : ((e0 : Int) == (s : Int)) = true := by simp; omega
                          clear hf
                          go_wp2
                          go_ret
                          exact ⟨rfl, Below.next B (by repeat (first | exact Below.refl _ _ | apply Below.drewN | apply Below.drew | apply Below.draws | apply below_lit))⟩
                · skip
                  go_wp2_with fail
                  refine (enc_err (by decide) (chkd_shard (F.below (by repeat (first | exact Below.refl _ _ | apply Below.drewN | apply Below.drew | apply Below.draws | apply below_lit))) h1 h2'.out (w2.below (by repeat (first | exact Below.refl _ _ | apply Below.drewN | apply Below.drew | apply Below.draws | apply below_lit))) rs_none (B := []) (fun e => hE (by have h9 := e.2; rwa [List.append_nil] at h9)) rfl rfl)).mono ?_
                  rintro e u4 ⟨ve, rfl, Re, b⟩
                  obtain ⟨ea, ec, rfl⟩ := Re.form
                  clear Re
                  have D : Below (World.heap u3 |>.size) u3 u4 := Below.next (by repeat (first | exact Below.refl _ _ | apply Below.drewN | apply Below.drew | apply Below.draws | apply below_lit)) b
                  replace w2 := w2.below D
                  replace w3 := w3.below D
                  replace w4 := w4.below D
                  replace F := F.below D
                  replace B := Below.next B D
                  clear b D
                  clear hE
                  go_wp2
                  go_ret
                  exact ⟨rfl, Below.next B (by repeat (first | exact Below.refl _ _ | apply Below.drewN | apply Below.drew | apply Below.draws | apply below_lit))⟩
          · have qz4 : ((z4.length : Int) != (s : Int)) = true := by simp; omega
            clear lz4
            go_wp2_with fail
            refine (ccheck_ok _ ok).mono ?_
            rintro e u3 ⟨rfl, b⟩
            have D : Below (World.heap u2 |>.size) u2 u3 := Below.next (by repeat (first | exact Below.refl _ _ | apply Below.drewN | apply Below.drew | apply Below.draws | apply below_lit)) b
            replace w2 := w2.below D
            replace w3 := w3.below D
            replace w4 := w4.below D
            replace F := F.below D
            replace B := Below.next B D
            clear b D
            clear ok
            go_wp2
            go_ret
            exact ⟨rfl, Below.next B (by repeat (first | exact Below.refl _ _ | apply Below.drewN | apply Below.drew | apply Below.draws | apply below_lit))⟩
        · have qz3 : ((z3.length : Int) != (s : Int)) = true := by simp; omega
          clear lz3
          go_wp2_with fail
          refine (ccheck_ok _ ok).mono ?_
          rintro e u3 ⟨rfl, b⟩
          have D : Below (World.heap u2 |>.size) u2 u3 := Below.next (by repeat (first | exact Below.refl _ _ | apply Below.drewN | apply Below.drew | apply Below.draws | apply below_lit)) b
          replace w2 := w2.below D
          replace w3 := w3.below D
          replace w4 := w4.below D
          replace F := F.below D
          replace B := Below.next B D
          clear b D
          clear ok
          go_wp2
          go_ret
          exact ⟨rfl, Below.next B (by repeat (first | exact Below.refl _ _ | apply Below.drewN | apply Below.drew | apply Below.draws | apply below_lit))⟩
      · have qz2 : ((z2.length : Int) != (k : Int)) = true := by simp; omega
        clear lz2
        go_wp2_with fail
        refine (ccheck_ok _ ok).mono ?_
        rintro e u3 ⟨rfl, b⟩
        have D : Below (World.heap u2 |>.size) u2 u3 := Below.next (by repeat (first | exact Below.refl _ _ | apply Below.drewN | apply Below.drew | apply Below.draws | apply below_lit)) b
        replace w2 := w2.below D
        replace w3 := w3.below D
        replace w4 := w4.below D
        replace F := F.below D
        replace B := Below.next B D
        clear b D
        clear ok
        go_wp2
        go_ret
        exact ⟨rfl, Below.next B (by repeat (first | exact Below.refl _ _ | apply Below.drewN | apply Below.drew | apply Below.draws | apply below_lit))⟩
  · skip
    go_wp2_with fail
    refine (ccheck_bad _ ok).mono ?_
    rintro e u3 ⟨rfl, b⟩
    have D : Below (World.heap u2 |>.size) u2 u3 := Below.next (by repeat (first | exact Below.refl _ _ | apply Below.drewN | apply Below.drew | apply Below.draws | apply below_lit)) b
    replace w2 := w2.below D
    replace w3 := w3.below D
    replace w4 := w4.below D
    replace F := F.below D
    replace B := Below.next B D
    clear b D
    clear ok
    go_wp2
    go_ret
    exact ⟨rfl, Below.next B (by repeat (first | exact Below.refl _ _ | apply Below.drewN | apply Below.drew | apply Below.draws | apply below_lit))⟩

/-! ### THE ROW's STEP: WRITTEN OUT: LEAVE IT -/
set_option maxRecDepth 100000 in
theorem lifted (os : Os) (started : os.Started) (H : Type) (enc : TypeId × Value → H) :
    ReturnsInHanded {} Try.checked os 7 .any (Rows.errdecStripesSpec.pre6 enc Try.prog Try.f7 Rows.errdecStripesRow.domain false) (Rows.errdecStripesSpec.post enc Try.prog Try.f7 false true false false) := by
  refine returnsInHanded_of_change (C := Try.checked) own started (by kernel_rfl) Try.func7
    (ChangeSpec.witness6 (enc := enc) (C := Try.checked) false ⟨#[], #[.int .i64 0, .int .i64 0, .slice none 0 0, .slice none 0 0, .slice none 0 0, .int .u8 0], []⟩ 8 (by kernel_rfl) (by kernel_rfl) (by kernel_rfl) (by kernel_rfl)) ?_
  intro W base args ds gs before hval0 hW hcnd _
  have hval : ∀ (j : Nat) t v, Try.f7.params[j]? = some t → args[j]? = some v → Value.okWide Try.prog W .any base t v := hval0
  have hW' := hW
  obtain ⟨p, q, hA0, hV, rfl, hfz, hnd⟩ := hW
  have hA : DataW.TrodAll enc Try.prog W 0 (fun _ => true) true Try.f7.params.toList args.toList ds p := hA0
  rw [Try.params7] at hA hval
  obtain ⟨v0, vs0, d0, ds0, p0, q0, hargs, rfl, rfl, h0, r0⟩ := trodAll_cons hA
  obtain ⟨v1, vs1, d1, ds1, p1, q1, rfl, rfl, rfl, h1, r1⟩ := trodAll_cons r0
  obtain ⟨v2, vs2, d2, ds2, p2, q2, rfl, rfl, rfl, h2, r2⟩ := trodAll_cons r1
  obtain ⟨v3, vs3, d3, ds3, p3, q3, rfl, rfl, rfl, h3, r3⟩ := trodAll_cons r2
  obtain ⟨v4, vs4, d4, ds4, p4, q4, rfl, rfl, rfl, h4, r4⟩ := trodAll_cons r3
  obtain ⟨v5, vs5, d5, ds5, p5, q5, rfl, rfl, rfl, h5, r5⟩ := trodAll_cons r4
  obtain ⟨rfl, rfl, rfl⟩ := trodAll_nil r5
  obtain rfl : args = #[v0, v1, v2, v3, v4, v5] := by cases args; simp_all
  obtain ⟨rfl, rfl⟩ := trodVars_none hV
  obtain ⟨a0, rfl, rfl, rfl, w0⟩ := open_int Try.underlying3 (hval 0 3 v0 rfl rfl) h0
  obtain ⟨a1, rfl, rfl, rfl, w1⟩ := open_int Try.underlying3 (hval 1 3 v1 rfl rfl) h1
  obtain ⟨a2, len2, cap2, rfl⟩ := okWide_slice Try.underlying36 (hval 2 36 v2 rfl rfl)
  have k2 := h2
  have lt2 : ∀ x ∈ p2, x.block < W.heap.size := by obtain ⟨m, hm⟩ := k2; exact DataW.trod_lt m _ _ _ hm
  obtain ⟨z2, w2⟩ : ∃ zs, Rs W (.slice a2 len2 cap2) zs := by
    obtain ⟨fuel, hf⟩ := h2
    rcases Go.Deep.open_int_rows Try.underlying36 Try.underlying22 Try.underlying5 (by kernel_rfl) (by kernel_rfl) hf with ⟨hcs, _⟩ | ⟨x, l, c, A, N, C, Z, hcs, _, hl, hm, _, hrows⟩
    · simp [Value.cells] at hcs
      obtain ⟨rfl, rfl, rfl⟩ := hcs
      exact ⟨[], rs_none⟩
    · simp [Value.cells] at hcs
      obtain ⟨rfl, rfl, rfl⟩ := hcs
      exact rs_rows hl hm hrows
  obtain ⟨a3, len3, cap3, rfl⟩ := okWide_slice Try.underlying23 (hval 3 23 v3 rfl rfl)
  have k3 := h3
  have lt3 : ∀ x ∈ p3, x.block < W.heap.size := by obtain ⟨m, hm⟩ := k3; exact DataW.trod_lt m _ _ _ hm
  obtain ⟨z3, w3⟩ : ∃ zs, RdB W (.slice a3 len3 cap3) zs := by
    obtain ⟨fuel, hf⟩ := h3
    rcases Go.Deep.open_bools Try.underlying23 Try.underlying4 (by kernel_rfl) hf with ⟨hcs, _⟩ | ⟨x, l, c, B, hcs, _, hl, hm, _, hcell⟩
    · simp [Value.cells] at hcs
      obtain ⟨rfl, rfl, rfl⟩ := hcs
      exact ⟨[], rdB_none⟩
    · simp [Value.cells] at hcs
      obtain ⟨rfl, rfl, rfl⟩ := hcs
      exact rdB_row hl hm hcell
  obtain ⟨a4, len4, cap4, rfl⟩ := okWide_slice Try.underlying23 (hval 4 23 v4 rfl rfl)
  have k4 := h4
  have lt4 : ∀ x ∈ p4, x.block < W.heap.size := by obtain ⟨m, hm⟩ := k4; exact DataW.trod_lt m _ _ _ hm
  obtain ⟨z4, w4⟩ : ∃ zs, RdB W (.slice a4 len4 cap4) zs := by
    obtain ⟨fuel, hf⟩ := h4
    rcases Go.Deep.open_bools Try.underlying23 Try.underlying4 (by kernel_rfl) hf with ⟨hcs, _⟩ | ⟨x, l, c, B, hcs, _, hl, hm, _, hcell⟩
    · simp [Value.cells] at hcs
      obtain ⟨rfl, rfl, rfl⟩ := hcs
      exact ⟨[], rdB_none⟩
    · simp [Value.cells] at hcs
      obtain ⟨rfl, rfl, rfl⟩ := hcs
      exact rdB_row hl hm hcell
  obtain ⟨a5, rfl, rfl, rfl, w5⟩ := open_int Try.underlying5 (hval 5 5 v5 rfl rfl) h5
  clear hA0 hval0
  refine (walk a0 a1 a2 len2 cap2 z2 a3 len3 cap3 z3 a4 len4 cap4 z4 a5 W w0 w1 w2 w3 w4 w5).mono fun e W' ⟨he, bel⟩ => ?_
  subst he
  exact ⟨_, rfl, _, _, _, [], _, [], hW', trodAll_mk1 (shut_bool Try.underlying4 _), (trodAll_cons_mk (shut_int Try.underlying3 w0) (trodAll_cons_mk (shut_int Try.underlying3 w1) (trodAll_cons_mk (Below.trod laidOut (by kernel_rfl) (of_decide_eq_true (by kernel_rfl)) k2 bel lt2) (trodAll_cons_mk (Below.trod laidOut (by kernel_rfl) (of_decide_eq_true (by kernel_rfl)) k3 bel lt3) (trodAll_cons_mk (Below.trod laidOut (by kernel_rfl) (of_decide_eq_true (by kernel_rfl)) k4 bel lt4) (trodAll_cons_mk (shut_int Try.underlying5 w5) trodAll_mk0)))))), rfl, bel.frame _, fun h => by cases h⟩

theorem over : Rows.errdecStripesRow.holds Try.pinned (OpenSpec.ofChange Rows.errdecStripesSpec) :=
  OpenClaim.holds_of_wide 7 Try.f7 rfl rfl rfl rfl rfl rfl rfl ⟨rfl, rfl, rfl, rfl, rfl⟩ rfl rfl rfl rfl rfl (by kernel_rfl) Try.func7 (by kernel_rfl)
    (of_decide_eq_true (by kernel_rfl)) (by unfold Func.isWrapper; first | (rw [if_pos (by decide +kernel)]; kernel_rfl) | (rw [if_neg (by decide +kernel)]; exact ⟨rfl, rfl⟩))
    (fun os started H enc _ => lifted os started H enc)

/-- ████ THE STATEMENT ████ -/
theorem proved : Rows.ErrdecStripesSaid := over
end Go.Proofs.Ytchfonofjbpmaaa.errdecStripes
namespace Go.Proofs.Ytchfonofjbpmaaa
theorem errdecStripes_holds : Rows.ErrdecStripesSaid := errdecStripes.proved
#print axioms errdecStripes_holds
end Go.Proofs.Ytchfonofjbpmaaa
