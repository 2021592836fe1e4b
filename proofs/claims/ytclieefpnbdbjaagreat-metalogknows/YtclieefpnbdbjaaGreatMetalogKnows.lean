/- PROVED: for every number disks and all slices l, fail, replace, hurt of integers the call MetalogKnows(disks, l, fail, replace, hurt) returns true, and its arguments read behind it as before; no conditions. -/
import Derived.ProofKit
import Derived.ShutString
import Derived.ChangeOld
import Derived.Test.YtclieefpnbdbjaaGreatTome44
namespace Go.Proofs.YtclieefpnbdbjaaGreat.metalogKnows
open Go.ChangeShapes Go.WideShapes Go.ChangeAt Go.RowKit
open Go.ChangeMaps (open_string shut_string)
set_option linter.unusedVariables false

theorem own : ownKnob Tryz.prog.godebug = none := by kernel_rfl
theorem laidOut : laidOutB Tryz.prog = true := by kernel_rfl

/-- WHAT THE WALK IS TOLD OF A SLICE OF INTEGERS THAT CAME IN: it is nil; or it leads to a row of 'cap' cells, the numbers 'zs' (the first 'len' are its elements, the rest its spare room), each fitting its kind. -/
def IsRow (k : IntKind) (w : World) (a : Option Addr) (len cap : Nat) (zs : List Int) : Prop :=
  (a = none ∧ len = 0 ∧ cap = 0 ∧ zs = []) ∨
  ∃ x, a = some x ∧ len ≤ cap ∧ cap ≤ maxLen ∧ zs.length = cap ∧ (∀ i, i < zs.length → w.cell? (x.add i) = some (.int k (zs.getD i 0))) ∧ ∀ n ∈ zs, (Lit.int k n).wf = true

open Gf
set_option linter.unusedSimpArgs false
theorem mk_ret {p : Prop} (h : p := by
  go_wp2
  go_ret
  exact ⟨rfl, B1⟩) : p := h
theorem knX_on {a : ArS} (h : a.off = false) : knX a = 0 ∧ knL a = (List.range a.D.length).map (knF a) := km_on h

set_option maxRecDepth 100000 in
set_option maxHeartbeats 4000000 in
theorem walk (a0 : Int) (a1 : Option Addr) (len1 cap1 : Nat) (z1 : List Int) (a2 : Option Addr) (len2 cap2 : Nat) (z2 : List Int) (a3 : Option Addr) (len3 cap3 : Nat) (z3 : List Int) (a4 : Option Addr) (len4 cap4 : Nat) (z4 : List Int) (w : World) (w0 : (Lit.int .i64 a0).wf = true) (w1 : IsRow .i64 w a1 len1 cap1 z1) (w2 : IsRow .i64 w a2 len2 cap2 z2) (w3 : IsRow .i64 w a3 len3 cap3 z3) (w4 : IsRow .i64 w a4 len4 cap4 z4) :
    Calls Tryz.prog 6 #[.int .i64 a0, .slice a1 len1 cap1, .slice a2 len2 cap2, .slice a3 len3 cap3, .slice a4 len4 cap4] w fun e w' => e = .returned (.bool true) ∧ Below w.heap.size w w' := by
  have HC4 := hidI (row_cap w4)
  obtain ⟨p1, rfl, R1, W1⟩ := rdI_row_wf w1
  obtain ⟨p2, rfl, R2, W2⟩ := rdI_row_wf w2
  obtain ⟨p3, rfl, R3, W3⟩ := rdI_row_wf w3
  obtain ⟨p4, rfl, R4, W4⟩ := rdI_row_wf w4
  have H1 : Hid (∀ W, Below w.heap.size w W → RdI W (.slice a1 p1.length cap1) p1) := fun W b => R1.below b
  have H2 : Hid (∀ W, Below w.heap.size w W → RdI W (.slice a2 p2.length cap2) p2) := fun W b => R2.below b
  have H3 : Hid (∀ W, Below w.heap.size w W → RdI W (.slice a3 p3.length cap3) p3) := fun W b => R3.below b
  have H4 : Hid (∀ W, Below w.heap.size w W → RdI W (.slice a4 p4.length cap4) p4) := fun W b => R4.below b
  have HW1 := hidI W1
  have HW2 := hidI W2
  have HW3 := hidI W3
  have HW4 := hidI W4
  clear w1 w2 w3 w4 R2 R3 R4 W1 W2 W3 W4
  have HR1 := hidI R1
  clear R1
  go_enter Tryz.func6, Tryz.ntmps6
  go_wp2_with fail
  refine awake18_any.mono ?_
  rintro e u1 ⟨rfl, B1⟩
  by_cases g1 : a0 < 1
  · exact mk_ret
  by_cases g2 : a0 > 8
  · exact mk_ret
  by_cases g3 : (p1.length : Int) > 20
  · exact mk_ret
  by_cases g4 : (p2.length : Int) > 20
  · exact mk_ret
  by_cases g5 : (p3.length : Int) > 20
  · exact mk_ret
  by_cases g6 : (p4.length : Int) > 20
  · exact mk_ret
  obtain ⟨m, rfl⟩ : ∃ m : Nat, a0 = (m : Int) := ⟨a0.toNat, by omega⟩
  have K := anew_is (w := u1) (n := (m : Int)) (s := 4) (m := m) (k := 4) rfl (by omega) (by omega) (by decide) (by decide) rfl
  go_wp2_with fail
  refine K.mono ?_
  rintro _ uA ⟨ab, GA, rfl, A1, X1, bA⟩
  have SA : ArB uA w.heap.size ab GA (newA m 4) := ⟨A1, fun k hk => Nat.le_trans B1.size (X1 k hk), Nat.le_trans B1.size bA.size⟩
  have CA := B1.step16 bA B1.size
  clear K A1 X1 bA B1
  have K := mlabelA_any SA.at_ (dv := .slice a1 p1.length cap1) (l := p1) (fun W t => HR1.out.below (CA.trans (t.below SA.low SA.size))) (by omega) HW1.out
  have HM : Hid (1 ≤ m ∧ m ≤ 8) := ⟨by omega, by omega⟩
  obtain ⟨aB, haB⟩ : ∃ aB, Hid (lbS (newA m 4) p1 = aB) := ⟨_, rfl⟩
  have lX : lbX (newA m 4) p1 = 0 := (lb_end (calm_new m 4)).1
  rw [lX, haB.out] at K
  have HL2 : Hid (p2.length ≤ 20) := by show _ ≤ _; omega
  have HL3 : Hid (p3.length ≤ 20) := by show _ ≤ _; omega
  have HL4 : Hid (p4.length ≤ 20) := by show _ ≤ _; omega
  have HL1 : Hid (p1.length ≤ 20) := by show _ ≤ _; omega
  go_wp2_with fail
  refine K.mono ?_
  rintro _ uB ⟨rfl, GB, AB, gB⟩
  have SB := SA.grew AB gB
  have CB := CA.trans (SA.bel gB)
  clear K SA CA AB gB lX HW1 HR1 g1 g2 g3 g4 g5 g6
  go_wp2_with fail
  go_loopw [14] (fun i wr => ∃ (r : Nat) (G : Nat → Prop), r ≤ p2.length ∧ i = .int .i64 (r : Int) ∧ Hid (ArB wr w.heap.size ab G (fkA aB p2 r)) ∧ Hid (Below w.heap.size w wr)) (fun i _ => p2.length - (intOf i).toNat)
  case atStart => exact ⟨0, GB, Nat.zero_le _, rfl, SB, CB⟩
  case round =>
    obtain ⟨r, G, hr, rfl, hS, hB⟩ := hrel
    by_cases hlt : r < p2.length
    · have hlt' : (r : Int) < (p2.length : Int) := by omega
      obtain ⟨b, off, rfl, hb, c0⟩ := (H2.out wr hB.out).at hlt
      have K := afail_any hS.out.at_ (HW2.out r hlt)
      obtain ⟨y, hy⟩ : ∃ y, Hid (p2.getD r 0 = y) := ⟨_, rfl⟩
      obtain ⟨a2', ha2'⟩ : ∃ a2', Hid (fkA aB p2 (r + 1) = a2') := ⟨_, rfl⟩
      rw [show faAS (fkA aB p2 r) (p2.getD r 0) = a2' from ha2'.out] at K
      rw [hy.out] at c0 K
      clear hy
      go_wp2_with fail
      refine K.mono ?_
      rintro _ w5 ⟨rfl, G5, A5, g5⟩
      have S5 : Hid (ArB w5 w.heap.size ab G5 (fkA aB p2 (r + 1))) := by rw [ha2'.out]; exact hS.out.grew A5 g5
      have B5 := hidI (hB.out.trans (hS.out.bel g5))
      clear K A5 g5 hS hB c0
      go_wp2
      go_roundw
      case rel => exact ⟨r + 1, G5, by omega, by go_num, S5, B5⟩
      case measure => simp [intOf]; omega
    · obtain rfl : r = p2.length := by omega
      have hge : ¬ (p2.length : Int) < (p2.length : Int) := by omega
      obtain ⟨aC, haC⟩ : ∃ aC, Hid (fkA aB p2 p2.length = aC) := ⟨_, rfl⟩
      rw [haC.out] at hS
      have SC := hS
      have CC := hB
      clear hS hB SB CB
      go_wp2_with fail
      go_loopw [15] (fun i wr => ∃ (r : Nat) (G : Nat → Prop), r ≤ p3.length ∧ i = .int .i64 (r : Int) ∧ Hid (ArB wr w.heap.size ab G (rkA aC p3 r)) ∧ Hid (Below w.heap.size w wr)) (fun i _ => p3.length - (intOf i).toNat)
      case atStart => exact ⟨0, G, Nat.zero_le _, rfl, SC, CC⟩
      case round =>
        obtain ⟨r, G, hr, rfl, hS, hB⟩ := hrel
        by_cases hlt : r < p3.length
        · have hlt' : (r : Int) < (p3.length : Int) := by omega
          obtain ⟨b, off, rfl, hb, c0⟩ := (H3.out wr hB.out).at hlt
          have K := arepl_any hS.out.at_ (HW3.out r hlt)
          obtain ⟨y, hy⟩ : ∃ y, Hid (p3.getD r 0 = y) := ⟨_, rfl⟩
          obtain ⟨a2', ha2'⟩ : ∃ a2', Hid (rkA aC p3 (r + 1) = a2') := ⟨_, rfl⟩
          rw [show rpAS (rkA aC p3 r) (p3.getD r 0) = a2' from ha2'.out] at K
          rw [hy.out] at c0 K
          clear hy
          go_wp2_with fail
          refine K.mono ?_
          rintro _ w5 ⟨rfl, G5, A5, g5⟩
          have S5 : Hid (ArB w5 w.heap.size ab G5 (rkA aC p3 (r + 1))) := by rw [ha2'.out]; exact hS.out.grew A5 g5
          have B5 := hidI (hB.out.trans (hS.out.bel g5))
          clear K A5 g5 hS hB c0
          go_wp2
          go_roundw
          case rel => exact ⟨r + 1, G5, by omega, by go_num, S5, B5⟩
          case measure => simp [intOf]; omega
        · obtain rfl : r = p3.length := by omega
          have hge : ¬ (p3.length : Int) < (p3.length : Int) := by omega
          obtain ⟨aD, haD⟩ : ∃ aD, Hid (rkA aC p3 p3.length = aD) := ⟨_, rfl⟩
          rw [haD.out] at hS
          have SD := hS
          have CD := hB
          clear hS hB SC CC
          go_wp2_with fail
          go_loopw [16] (fun i wr => ∃ (r : Nat) (G : Nat → Prop), r ≤ p4.length ∧ i = .int .i64 (r : Int) ∧ Hid (ArB wr w.heap.size ab G (ckA aD p4 r)) ∧ Hid (Below w.heap.size w wr)) (fun i _ => p4.length - (intOf i).toNat)
          case atStart => exact ⟨0, G, Nat.zero_le _, rfl, SD, CD⟩
          case round =>
            obtain ⟨r, G, hr, rfl, hS, hB⟩ := hrel
            by_cases hlt : r < p4.length
            · have hlt' : (r : Int) < (p4.length : Int) := by omega
              have hcap : r ≤ cap4 := by have := HC4.out; omega
              have RD := (H4.out wr hB.out)
              obtain ⟨b, off, rfl, hb, c0⟩ := RD.at hlt
              have RT := RD.hi18 (r := r) hr
              have rle : (r : Int) ≤ (cap4 : Int) := by omega
              obtain ⟨y, hy⟩ : ∃ y, Hid (p4.getD r 0 = y) := ⟨_, rfl⟩
              have wr64 : (Lit.int .i64 (r : Int)).wf = true := wf64 (by omega) (by have := HL4.out; omega)
              have KC := fun V (bV : Below wr.heap.size wr V) => acorr_any (hS.out.at_.below bV) (ad := 0) (at_ := (r : Int)) (HW4.out r hlt) (by decide) wr64 1
              obtain ⟨hin, hhin⟩ : ∃ hin, Hid (decide (y ∈ p4.take r) = hin) := ⟨_, rfl⟩
              have CK : Hid (ckA aD p4 (r + 1) = if hin = true then ckA aD p4 r else coAS (ckA aD p4 r) y 0 (r : Int) 1) := by
                show (if p4.getD r 0 ∈ p4.take r then ckA aD p4 r else coAS (ckA aD p4 r) (p4.getD r 0) 0 (r : Int) 1) = _
                rw [hy.out, ← hhin.out]
                by_cases q : y ∈ p4.take r
                · rw [if_pos q, if_pos (decide_eq_true q)]
                · rw [if_neg q, if_neg (by rw [decide_eq_false q]; decide)]
              rw [hy.out] at c0 KC
              clear hy
              have KM : ∀ V, Below wr.heap.size wr V → Calls Tryz.prog 30 #[.slice (some ⟨b, off, none⟩) r cap4, .int .i64 y] V fun e w' => e = .returned (.bool hin) ∧ w' = V := fun V bV => by
                have k := mamong_any (RT.below bV) (by rw [List.length_take]; have := HL4.out; omega) y
                rw [hhin.out] at k
                exact k
              have BDr : Below wr.heap.size wr wr.drew := (Below.refl _ _).drew
              have cD : wr.drew.cell? ⟨b, off + r, none⟩ = some (.int .i64 y) := c0
              clear RD RT
              go_upto_region 22 with fail
              go_cut [98] from 90 to 98 (fun s98 wx => s98 = .bool (!hin) ∧ Below wr.heap.size wr wx)
              case first =>
                clear KC CK hS hB
                refine wp_region_held_drew (S := fun wx => wx.cell? ⟨b, off + r, none⟩ = some (.int .i64 y)) (by kernel_rfl) cD (fun hHeld => ?_)
                refine tkH 0 ?_
                refine tkH 1 ?_
                refine tkH 2 ?_
                refine tkH 3 ?_
                refine tkH 4 ?_
                refine tkH 5 ?_
                refine tkH 6 ?_
                refine rnH 7 (fun K' hK => ?_)
                go_simp
                go_at_call 30
                refine (KM _ BDr).mono ?_
                rintro _ v1 ⟨rfl, hv1⟩
                subst hv1
                dsimp only
                refine koH hK cD fun hHeld => ?_
                clear hK K'
                refine tkH 8 ?_
                refine wpAnyH_done (by kernel_rfl) ?_ _
                go_wp2
                go_meet
                case rel => exact ⟨rfl, BDr⟩
              case rest =>
                obtain ⟨rfl, bC⟩ := hcut
                have cC := (bC.cell (p := ⟨b, off + r, none⟩) hb).trans c0
                have KC' := KC wc bC
                have SC' := hidI (hS.out.below bC)
                have BC' := hidI (hB.out.step16 bC hB.out.size)
                clear KC KM hS hB c0 cD BDr bC hhin
                cases hin with
                | true =>
                  have SX : Hid (ArB wc w.heap.size ab G (ckA aD p4 (r + 1))) := by rw [CK.out]; exact SC'.out
                  clear KC' SC' CK
                  go_wp2
                  go_roundw
                  case rel => exact ⟨r + 1, G, by omega, by go_num, SX, BC'⟩
                  case measure => simp [intOf]; omega
                | false =>
                  have CK' : Hid (ckA aD p4 (r + 1) = coAS (ckA aD p4 r) y 0 (r : Int) 1) := CK.out
                  obtain ⟨aE, haE⟩ : ∃ aE, Hid (coAS (ckA aD p4 r) y 0 (r : Int) 1 = aE) := ⟨_, rfl⟩
                  rw [haE.out] at CK' KC'
                  clear CK
                  go_wp2_with fail
                  refine KC'.mono ?_
                  rintro _ w5 ⟨rfl, G5, A5, g5⟩
                  have S5 : Hid (ArB w5 w.heap.size ab G5 (ckA aD p4 (r + 1))) := by rw [CK'.out]; exact SC'.out.grew A5 g5
                  have B5 := hidI (BC'.out.trans (SC'.out.bel g5))
                  clear KC' A5 g5 SC' BC' cC CK'
                  go_wp2
                  go_roundw
                  case rel => exact ⟨r + 1, G5, by omega, by go_num, S5, B5⟩
                  case measure => simp [intOf]; omega
            · obtain rfl : r = p4.length := by omega
              have hge : ¬ (p4.length : Int) < (p4.length : Int) := by omega
              obtain ⟨aE, haE⟩ : ∃ aE, Hid (ckA aD p4 p4.length = aE) := ⟨_, rfl⟩
              have KA := hidI (fun (i : Nat) (hi : i < m) => @knows_all m HM.out.1 (by have := HM.out.2; omega) p1 p2 p3 p4 i hi)
              rw [haB.out, haC.out, haD.out, haE.out] at KA
              have CE : Hid (Gf.Calm aE ∧ aE.D.length = m) := by
                obtain ⟨c1, l1⟩ := knows_calm (m := m) (lb := p1) (fa := p2) (re := p3) (hu := p4) HM.out.1 (by have := HM.out.2; omega)
                rw [haB.out, haC.out, haD.out, haE.out] at c1 l1
                exact ⟨c1, l1⟩
              rw [haE.out] at hS
              obtain ⟨kx, kl⟩ := knX_on CE.out.1.1
              have K := mknows_any hS.out.at_
              rw [kx, kl, CE.out.2] at K
              obtain ⟨KL, hKL⟩ : ∃ KL, Hid (KL = (List.range m).map (knF aE)) := ⟨_, rfl⟩
              have kn : KL.length = m := by rw [hKL.out]; simp
              have kb : Hid (∀ i, i < m → hb KL i = knF aE i) := fun i hi => by
                rw [hKL.out]
                simp [hb, hi]
              rw [← hKL.out] at K
              clear haB haC haD haE hKL kx kl HW2 HW3 HW4 HC4 SD CD hge hlt
              go_wp2_with fail
              refine K.mono ?_
              rintro _ uF ⟨kv, rfl, RK, FK, bF⟩
              obtain ⟨ka, kc, ekv⟩ := RK.form
              rw [kn] at ekv
              subst ekv
              have CF := hidI (hB.out.step16 bF hB.out.size)
              have RKH := hidI RK
              clear K hS hB RK FK bF
              go_wp2_with fail
              go_loopw [19] (fun i wr => ∃ (r : Nat), r ≤ m ∧ i = .int .i64 (r : Int) ∧ Hid (Below uF.heap.size uF wr)) (fun i _ => m - (intOf i).toNat)
              case atStart => exact ⟨0, Nat.zero_le _, rfl, Below.refl _ _⟩
              case round =>
                obtain ⟨r, hr, rfl, hF⟩ := hrel
                have CW := hidI (CF.out.step16 hF.out CF.out.size)
                by_cases hlt : r < m
                · have hlt' : (r : Int) < (m : Int) := by omega
                  have RKw := RKH.out.below hF.out
                  obtain ⟨b, off, rfl, hb', c0⟩ := RKw.at (i := r) (by rw [kn]; exact hlt)
                  rw [kb.out r hlt, KA.out r hlt] at c0
                  have DW := hidI (fun V (bV : Below wr.heap.size wr V) => CW.out.step16 bV CW.out.size)
                  obtain ⟨x1, hx1⟩ : ∃ x1, Hid (decide ((r : Int) ∈ p1) = x1) := ⟨_, rfl⟩
                  obtain ⟨x2, hx2⟩ : ∃ x2, Hid (decide ((r : Int) ∈ p2) = x2) := ⟨_, rfl⟩
                  obtain ⟨x3, hx3⟩ : ∃ x3, Hid (decide ((r : Int) ∈ p3) = x3) := ⟨_, rfl⟩
                  obtain ⟨x4, hx4⟩ : ∃ x4, Hid (decide ((r : Int) ∈ p4) = x4) := ⟨_, rfl⟩
                  have KM1 : ∀ V, Below wr.heap.size wr V → Calls Tryz.prog 30 #[.slice a1 p1.length cap1, .int .i64 (r : Int)] V fun e w' => e = .returned (.bool x1) ∧ w' = V := fun V bV => by
                    have k := mamong_any (H1.out V (DW.out V bV)) (by have := HL1.out; omega) (r : Int)
                    rw [hx1.out] at k; exact k
                  have KM2 : ∀ V, Below wr.heap.size wr V → Calls Tryz.prog 30 #[.slice a2 p2.length cap2, .int .i64 (r : Int)] V fun e w' => e = .returned (.bool x2) ∧ w' = V := fun V bV => by
                    have k := mamong_any (H2.out V (DW.out V bV)) (by have := HL2.out; omega) (r : Int)
                    rw [hx2.out] at k; exact k
                  have KM3 : ∀ V, Below wr.heap.size wr V → Calls Tryz.prog 30 #[.slice a3 p3.length cap3, .int .i64 (r : Int)] V fun e w' => e = .returned (.bool x3) ∧ w' = V := fun V bV => by
                    have k := mamong_any (H3.out V (DW.out V bV)) (by have := HL3.out; omega) (r : Int)
                    rw [hx3.out] at k; exact k
                  have KM4 : ∀ V, Below wr.heap.size wr V → Calls Tryz.prog 30 #[.slice a4 p4.length cap4, .int .i64 (r : Int)] V fun e w' => e = .returned (.bool x4) ∧ w' = V := fun V bV => by
                    have k := mamong_any (H4.out V (DW.out V bV)) (by have := HL4.out; omega) (r : Int)
                    rw [hx4.out] at k; exact k
                  rw [hx1.out, hx2.out, hx3.out, hx4.out] at c0
                  have BD : Below wr.heap.size wr wr.drew := (Below.refl _ _).drew
                  obtain ⟨vv, hvv⟩ : ∃ vv, vv = (x1 && (!x2 && (!x3 && !x4))) := ⟨_, rfl⟩
                  rw [← hvv] at c0
                  have cD : wr.drew.cell? ⟨b, off + r, none⟩ = some (.bool vv) := c0
                  clear hx1 hx2 hx3 hx4 DW RKw KA kb
                  go_upto_region 30 with fail
                  go_cut [149] from 124 to 149 (fun s149 wx => s149 = .bool false ∧ Below wr.heap.size wr wx)
                  case first =>
                    refine wp_region_held_drew (S := fun wx => wx.cell? ⟨b, off + r, none⟩ = some (.bool vv)) (by kernel_rfl) cD (fun hHeld => ?_)
                    refine tkH 0 ?_
                    refine tkH 1 ?_
                    refine tkH 2 ?_
                    refine tkH 3 ?_
                    refine tkH 4 ?_
                    refine tkH 5 ?_
                    refine rnH 6 (fun K' hK => ?_)
                    go_simp
                    go_at_call 30
                    refine (KM1 _ BD).mono ?_
                    rintro _ v1 ⟨rfl, hv1⟩
                    subst hv1
                    dsimp only
                    refine koH hK cD fun hHeld => ?_
                    clear hK K'
                    refine tkH 7 ?_
                    cases x1 with
                    | false =>
                      obtain rfl : vv = false := by rw [hvv]; rfl
                      clear hvv
                      refine skH 8 ?_
                      refine skH 9 ?_
                      refine skH 10 ?_
                      refine skH 11 ?_
                      refine tkH 12 ?_
                      refine tkH 13 ?_
                      refine skH 14 ?_
                      refine skH 15 ?_
                      refine skH 16 ?_
                      refine skH 17 ?_
                      refine tkH 18 ?_
                      refine tkH 19 ?_
                      refine skH 20 ?_
                      refine skH 21 ?_
                      refine skH 22 ?_
                      refine skH 23 ?_
                      refine tkH 24 ?_
                      refine tkH 25 ?_
                      refine wpAnyH_done (by kernel_rfl) ?_ _
                      go_wp2
                      go_meet
                      case rel => exact ⟨rfl, BD⟩
                    | true =>
                      refine tkH 8 ?_
                      refine tkH 9 ?_
                      refine rnH 10 (fun K' hK => ?_)
                      go_simp
                      go_at_call 30
                      refine (KM2 _ BD).mono ?_
                      rintro _ v1 ⟨rfl, hv1⟩
                      subst hv1
                      dsimp only
                      refine koH hK cD fun hHeld => ?_
                      clear hK K'
                      refine tkH 11 ?_
                      refine tkH 12 ?_
                      refine tkH 13 ?_
                      cases x2 with
                      | true =>
                        obtain rfl : vv = false := by rw [hvv]; rfl
                        clear hvv
                        refine skH 14 ?_
                        refine skH 15 ?_
                        refine skH 16 ?_
                        refine skH 17 ?_
                        refine tkH 18 ?_
                        refine tkH 19 ?_
                        refine skH 20 ?_
                        refine skH 21 ?_
                        refine skH 22 ?_
                        refine skH 23 ?_
                        refine tkH 24 ?_
                        refine tkH 25 ?_
                        refine wpAnyH_done (by kernel_rfl) ?_ _
                        go_wp2
                        go_meet
                        case rel => exact ⟨rfl, BD⟩
                      | false =>
                        refine tkH 14 ?_
                        refine tkH 15 ?_
                        refine rnH 16 (fun K' hK => ?_)
                        go_simp
                        go_at_call 30
                        refine (KM3 _ BD).mono ?_
                        rintro _ v1 ⟨rfl, hv1⟩
                        subst hv1
                        dsimp only
                        refine koH hK cD fun hHeld => ?_
                        clear hK K'
                        refine tkH 17 ?_
                        refine tkH 18 ?_
                        refine tkH 19 ?_
                        cases x3 with
                        | true =>
                          obtain rfl : vv = false := by rw [hvv]; rfl
                          clear hvv
                          refine skH 20 ?_
                          refine skH 21 ?_
                          refine skH 22 ?_
                          refine skH 23 ?_
                          refine tkH 24 ?_
                          refine tkH 25 ?_
                          refine wpAnyH_done (by kernel_rfl) ?_ _
                          go_wp2
                          go_meet
                          case rel => exact ⟨rfl, BD⟩
                        | false =>
                          refine tkH 20 ?_
                          refine tkH 21 ?_
                          refine rnH 22 (fun K' hK => ?_)
                          go_simp
                          go_at_call 30
                          refine (KM4 _ BD).mono ?_
                          rintro _ v1 ⟨rfl, hv1⟩
                          subst hv1
                          dsimp only
                          refine koH hK cD fun hHeld => ?_
                          clear hK K'
                          refine tkH 23 ?_
                          refine tkH 24 ?_
                          cases x4 with
                          | true =>
                            obtain rfl : vv = false := by rw [hvv]; rfl
                            clear hvv
                            refine tkH 25 ?_
                            refine wpAnyH_done (by kernel_rfl) ?_ _
                            go_wp2
                            go_meet
                            case rel => exact ⟨rfl, BD⟩
                          | false =>
                            obtain rfl : vv = true := by rw [hvv]; rfl
                            clear hvv
                            refine tkH 25 ?_
                            refine wpAnyH_done (by kernel_rfl) ?_ _
                            go_wp2
                            go_meet
                            case rel => exact ⟨rfl, BD⟩
                  case rest =>
                    obtain ⟨rfl, bC⟩ := hcut
                    have F2 := hidI (hF.out.step16 bC hF.out.size)
                    clear KM1 KM2 KM3 KM4 c0 cD BD bC
                    go_wp2
                    go_roundw
                    case rel => exact ⟨r + 1, by omega, by go_num, F2⟩
                    case measure => simp [intOf]; omega
                · obtain rfl : r = m := by omega
                  have hge : ¬ (r : Int) < (r : Int) := by omega
                  go_wp2
                  go_ret
                  exact ⟨rfl, CW.out⟩

/-! ### THE ROW's STEP: WRITTEN OUT: LEAVE IT -/
set_option maxRecDepth 100000 in
theorem lifted (os : Os) (started : os.Started) (H : Type) (enc : TypeId × Value → H) :
    ReturnsInHanded {} Tryz.checked os 6 .any (Rows.metalogKnowsSpec.pre6 enc Tryz.prog Tryz.f6 Rows.metalogKnowsRow.domain false) (Rows.metalogKnowsSpec.post enc Tryz.prog Tryz.f6 false true false false) := by
  refine returnsInHanded_of_change (C := Tryz.checked) own started (by kernel_rfl) Tryz.func6
    (ChangeSpec.witness6 (enc := enc) (C := Tryz.checked) false ⟨#[], #[.int .i64 0, .slice none 0 0, .slice none 0 0, .slice none 0 0, .slice none 0 0], []⟩ 8 (by kernel_rfl) (by kernel_rfl) (by kernel_rfl) (by kernel_rfl)) ?_
  intro W base args ds gs before hval0 hW hcnd _
  have hval : ∀ (j : Nat) t v, Tryz.f6.params[j]? = some t → args[j]? = some v → Value.okWide Tryz.prog W .any base t v := hval0
  have hW' := hW
  obtain ⟨p, q, hA0, hV, rfl, hfz, hnd⟩ := hW
  have hA : DataW.TrodAll enc Tryz.prog W 0 (fun _ => true) true Tryz.f6.params.toList args.toList ds p := hA0
  rw [Tryz.params6] at hA hval
  obtain ⟨v0, vs0, d0, ds0, p0, q0, hargs, rfl, rfl, h0, r0⟩ := trodAll_cons hA
  obtain ⟨v1, vs1, d1, ds1, p1, q1, rfl, rfl, rfl, h1, r1⟩ := trodAll_cons r0
  obtain ⟨v2, vs2, d2, ds2, p2, q2, rfl, rfl, rfl, h2, r2⟩ := trodAll_cons r1
  obtain ⟨v3, vs3, d3, ds3, p3, q3, rfl, rfl, rfl, h3, r3⟩ := trodAll_cons r2
  obtain ⟨v4, vs4, d4, ds4, p4, q4, rfl, rfl, rfl, h4, r4⟩ := trodAll_cons r3
  obtain ⟨rfl, rfl, rfl⟩ := trodAll_nil r4
  obtain rfl : args = #[v0, v1, v2, v3, v4] := by cases args; simp_all
  obtain ⟨rfl, rfl⟩ := trodVars_none hV
  obtain ⟨a0, rfl, rfl, rfl, w0⟩ := open_int Tryz.underlying3 (hval 0 3 v0 rfl rfl) h0
  obtain ⟨a1, len1, cap1, rfl⟩ := okWide_slice Tryz.underlying35 (hval 1 35 v1 rfl rfl)
  have k1 := h1
  have lt1 : ∀ x ∈ p1, x.block < W.heap.size := by obtain ⟨m, hm⟩ := k1; exact DataW.trod_lt m _ _ _ hm
  obtain ⟨z1, w1⟩ : ∃ zs, IsRow .i64 W a1 len1 cap1 zs := by
    obtain ⟨fuel, hf⟩ := h1
    rcases open_ints Tryz.underlying35 Tryz.underlying3 (by kernel_rfl) hf with ⟨hcs, _⟩ | ⟨x, l, c, zs, hcs, _, hl, hm, hz, _, hcell, hwz⟩
    · simp [Value.cells] at hcs
      obtain ⟨rfl, rfl, rfl⟩ := hcs
      exact ⟨[], .inl ⟨rfl, rfl, rfl, rfl⟩⟩
    · simp [Value.cells] at hcs
      obtain ⟨rfl, rfl, rfl⟩ := hcs
      exact ⟨zs, .inr ⟨_, rfl, hl, hm, by simpa using hz, hcell, hwz⟩⟩
  obtain ⟨a2, len2, cap2, rfl⟩ := okWide_slice Tryz.underlying35 (hval 2 35 v2 rfl rfl)
  have k2 := h2
  have lt2 : ∀ x ∈ p2, x.block < W.heap.size := by obtain ⟨m, hm⟩ := k2; exact DataW.trod_lt m _ _ _ hm
  obtain ⟨z2, w2⟩ : ∃ zs, IsRow .i64 W a2 len2 cap2 zs := by
    obtain ⟨fuel, hf⟩ := h2
    rcases open_ints Tryz.underlying35 Tryz.underlying3 (by kernel_rfl) hf with ⟨hcs, _⟩ | ⟨x, l, c, zs, hcs, _, hl, hm, hz, _, hcell, hwz⟩
    · simp [Value.cells] at hcs
      obtain ⟨rfl, rfl, rfl⟩ := hcs
      exact ⟨[], .inl ⟨rfl, rfl, rfl, rfl⟩⟩
    · simp [Value.cells] at hcs
      obtain ⟨rfl, rfl, rfl⟩ := hcs
      exact ⟨zs, .inr ⟨_, rfl, hl, hm, by simpa using hz, hcell, hwz⟩⟩
  obtain ⟨a3, len3, cap3, rfl⟩ := okWide_slice Tryz.underlying35 (hval 3 35 v3 rfl rfl)
  have k3 := h3
  have lt3 : ∀ x ∈ p3, x.block < W.heap.size := by obtain ⟨m, hm⟩ := k3; exact DataW.trod_lt m _ _ _ hm
  obtain ⟨z3, w3⟩ : ∃ zs, IsRow .i64 W a3 len3 cap3 zs := by
    obtain ⟨fuel, hf⟩ := h3
    rcases open_ints Tryz.underlying35 Tryz.underlying3 (by kernel_rfl) hf with ⟨hcs, _⟩ | ⟨x, l, c, zs, hcs, _, hl, hm, hz, _, hcell, hwz⟩
    · simp [Value.cells] at hcs
      obtain ⟨rfl, rfl, rfl⟩ := hcs
      exact ⟨[], .inl ⟨rfl, rfl, rfl, rfl⟩⟩
    · simp [Value.cells] at hcs
      obtain ⟨rfl, rfl, rfl⟩ := hcs
      exact ⟨zs, .inr ⟨_, rfl, hl, hm, by simpa using hz, hcell, hwz⟩⟩
  obtain ⟨a4, len4, cap4, rfl⟩ := okWide_slice Tryz.underlying35 (hval 4 35 v4 rfl rfl)
  have k4 := h4
  have lt4 : ∀ x ∈ p4, x.block < W.heap.size := by obtain ⟨m, hm⟩ := k4; exact DataW.trod_lt m _ _ _ hm
  obtain ⟨z4, w4⟩ : ∃ zs, IsRow .i64 W a4 len4 cap4 zs := by
    obtain ⟨fuel, hf⟩ := h4
    rcases open_ints Tryz.underlying35 Tryz.underlying3 (by kernel_rfl) hf with ⟨hcs, _⟩ | ⟨x, l, c, zs, hcs, _, hl, hm, hz, _, hcell, hwz⟩
    · simp [Value.cells] at hcs
      obtain ⟨rfl, rfl, rfl⟩ := hcs
      exact ⟨[], .inl ⟨rfl, rfl, rfl, rfl⟩⟩
    · simp [Value.cells] at hcs
      obtain ⟨rfl, rfl, rfl⟩ := hcs
      exact ⟨zs, .inr ⟨_, rfl, hl, hm, by simpa using hz, hcell, hwz⟩⟩
  clear hA0 hval0
  refine (walk a0 a1 len1 cap1 z1 a2 len2 cap2 z2 a3 len3 cap3 z3 a4 len4 cap4 z4 W w0 w1 w2 w3 w4).mono fun e W' ⟨he, bel⟩ => ?_
  subst he
  exact ⟨_, rfl, _, _, _, [], _, [], hW', trodAll_mk1 (shut_bool Tryz.underlying4 _), (trodAll_cons_mk (shut_int Tryz.underlying3 w0) (trodAll_cons_mk (Below.trod laidOut (by kernel_rfl) (of_decide_eq_true (by kernel_rfl)) k1 bel lt1) (trodAll_cons_mk (Below.trod laidOut (by kernel_rfl) (of_decide_eq_true (by kernel_rfl)) k2 bel lt2) (trodAll_cons_mk (Below.trod laidOut (by kernel_rfl) (of_decide_eq_true (by kernel_rfl)) k3 bel lt3) (trodAll_cons_mk (Below.trod laidOut (by kernel_rfl) (of_decide_eq_true (by kernel_rfl)) k4 bel lt4) trodAll_mk0))))), rfl, bel.frame _, fun h => by cases h⟩

theorem over : Rows.metalogKnowsRow.holds Tryz.pinned (OpenSpec.ofChange Rows.metalogKnowsSpec) :=
  OpenClaim.holds_of_wide 6 Tryz.f6 rfl rfl rfl rfl rfl rfl rfl ⟨rfl, rfl, rfl, rfl, rfl⟩ rfl rfl rfl rfl rfl (by kernel_rfl) Tryz.func6 (by kernel_rfl)
    (of_decide_eq_true (by kernel_rfl)) (by unfold Func.isWrapper; first | (rw [if_pos (by decide +kernel)]; kernel_rfl) | (rw [if_neg (by decide +kernel)]; exact ⟨rfl, rfl⟩))
    (fun os started H enc _ => lifted os started H enc)

/-- ████ THE STATEMENT ████ -/
theorem proved : Rows.MetalogKnowsSaid := over
end Go.Proofs.YtclieefpnbdbjaaGreat.metalogKnows
namespace Go.Proofs.YtclieefpnbdbjaaGreat
theorem metalogKnows_holds : Rows.MetalogKnowsSaid := metalogKnows.proved
#print axioms metalogKnows_holds
end Go.Proofs.YtclieefpnbdbjaaGreat
