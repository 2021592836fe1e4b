/- TEXTS JOINED: ErCA, ErCC, CaCG, ErCE, ErCF. -/
import Derived.Test.YtchfonofjbpmaaaTome4
import Derived.WalkMore
import Derived.Test.YtchfonofjbpmaaaTome21
import Derived.BigQuiet
import Derived.Deep.OwnRows
import Derived.Deep.RegionHeld3
import Derived.Test.YtchfonofjbpmaaaTome16
import Derived.Test.YtchfonofjbpmaaaTome19
/-
  THE PROGRAM's 'oneLength' (package erase) BY CONTRACT.
-/

namespace Go.Proofs.Ytchfonofjbpmaaa.Gf
set_option linter.unusedVariables false
set_option linter.unusedSimpArgs false
open Go.RowKit

/-- the length of the first one that is there, of the first i; of none -1 -/
def fl7 (h : List Bool) (L : List (List UInt8)) (i : Nat) : Int := if (thr h i).length = 0 then -1 else (((ro L ((thr h i).getD 0 0)).length : Nat) : Int)
theorem fl7_zero (h : List Bool) (L : List (List UInt8)) : fl7 h L 0 = -1 := rfl
theorem fl7_no {h : List Bool} {L : List (List UInt8)} {i : Nat} (e : hb h i = false) : fl7 h L (i + 1) = fl7 h L i := by unfold fl7; rw [thr_no e]
theorem fl7_first {h : List Bool} {L : List (List UInt8)} {i : Nat} (e : hb h i = true) (e2 : (thr h i).length = 0) : fl7 h L i = -1 ∧ fl7 h L (i + 1) = (((ro L i).length : Nat) : Int) := by
  have e3 : thr h i = [] := List.length_eq_zero_iff.1 e2
  unfold fl7
  rw [if_pos e2, thr_yes e, e3]
  exact ⟨rfl, rfl⟩
theorem fl7_keep {h : List Bool} {L : List (List UInt8)} {i : Nat} (e : hb h i = true) (e2 : (thr h i).length ≠ 0) : fl7 h L (i + 1) = fl7 h L i ∧ ∃ j, j < i ∧ hb h j = true ∧ fl7 h L i = (((ro L j).length : Nat) : Int) := by
  unfold fl7
  rw [if_neg e2, thr_yes e, if_neg (by rw [List.length_append]; omega), getD_append_left (by omega)]
  have hm : (thr h i).getD 0 0 ∈ thr h i := by
    have : (thr h i).getD 0 0 = (thr h i)[0] := by simp [List.getD, Nat.pos_of_ne_zero e2]
    rw [this]; exact List.getElem_mem _
  exact ⟨rfl, _, (thr_mem hm).1, (thr_mem hm).2, rfl⟩

set_option maxRecDepth 100000 in
set_option maxHeartbeats 2000000 in
theorem eone_any {va vb : Value} {h : List Bool} {L : List (List UInt8)} {w : World} (hH : RdB w va h) (hL : Rs w vb L) (hlen : h.length = L.length) : Calls Try.prog 47 #[va, vb] w fun e w' => e = .returned (.bool (evenB h L)) ∧ w' = w := by
  obtain ⟨a, c, rfl⟩ := hH.form
  obtain ⟨a', c', rfl⟩ := hL.form
  rw [hlen] at hH ⊢
  have hl := hL.len
  unfold maxLen at hl
  have hlen' : Hid (h.length = L.length) := hlen
  clear hlen
  go_enter Try.func47, Try.ntmps47
  go_wp2
  go_loop [5, 10] (fun x i => ∃ k : Nat, k ≤ L.length ∧ i = .int .i64 k ∧ x = .int .i64 (fl7 h L k) ∧ Hid (∀ j, j < k → hb h j = true → (((ro L j).length : Nat) : Int) = fl7 h L k)) (fun _ i => L.length - (intOf i).toNat)
  case atStart => exact ⟨0, by omega, rfl, rfl, fun j hj => by omega⟩
  case round =>
    obtain ⟨k, hk, rfl, rfl, hI⟩ := hrel
    by_cases hlt : k < L.length
    · obtain ⟨b, off, rfl, _, c1⟩ := hH.at (i := k) (by rw [hlen'.out]; exact hlt)
      obtain ⟨b', off', xa, xc, rfl, _, c2, r2⟩ := hL.at hlt
      have hlt' : (k : Int) < (L.length : Int) := by omega
      cases e : hb h k with
      | false =>
        rw [e] at c1
        have HI : Hid (∀ j, j < k + 1 → hb h j = true → (((ro L j).length : Nat) : Int) = fl7 h L (k + 1)) := fun j hj hj2 => by
          rw [fl7_no e]
          by_cases e2 : j = k
          · subst e2; rw [e] at hj2; cases hj2
          · exact hI.out j (by omega) hj2
        have HX : Hid (fl7 h L (k + 1) = fl7 h L k) := fl7_no e
        clear hI hH hL r2 e
        go_wp2
        go_round
        case rel => exact ⟨k + 1, by omega, by go_num, by rw [HX.out], HI⟩
        case measure => simp [intOf]; omega
      | true =>
        rw [e] at c1
        by_cases e0 : (thr h k).length = 0
        · obtain ⟨f1, f2⟩ := fl7_first (L := L) e e0
          have HI : Hid (∀ j, j < k + 1 → hb h j = true → (((ro L j).length : Nat) : Int) = fl7 h L (k + 1)) := fun j hj hj2 => by
            rw [f2]
            by_cases e2 : j = k
            · rw [e2]
            · exfalso
              have h1 := pl7_at hj2
              have h2 := thr_mono (h := h) (show j + 1 ≤ k by omega)
              rw [thr_yes hj2, List.length_append] at h2
              simp at h2
              omega
          have HX : Hid (fl7 h L (k + 1) = (((ro L k).length : Nat) : Int)) := f2
          rw [f1]
          have hn : (((ro L k).length : Int) != ((ro L k).length : Int)) = false := by simp
          clear hI hH hL r2 e e0 f1 f2
          go_wp2
          go_round
          case rel => exact ⟨k + 1, by omega, by go_num, by rw [HX.out], HI⟩
          case measure => simp [intOf]; omega
        · obtain ⟨f1, j0, hj0, hh0, f2⟩ := fl7_keep (L := L) e e0
          have HX : Hid (fl7 h L (k + 1) = (((ro L j0).length : Nat) : Int)) := f1.trans f2
          have hI2 : Hid (∀ j, j < k → hb h j = true → (((ro L j).length : Nat) : Int) = fl7 h L (k + 1)) := fun j hj hj2 => by rw [f1]; exact hI.out j hj hj2
          rw [f2]
          obtain ⟨n0, hn0⟩ : ∃ n0, Hid (n0 = (ro L j0).length) := ⟨_, rfl⟩
          rw [← hn0.out] at HX ⊢
          have hng : ¬ (n0 : Int) < 0 := by omega
          by_cases e3 : (ro L k).length = n0
          · have HI : Hid (∀ j, j < k + 1 → hb h j = true → (((ro L j).length : Nat) : Int) = fl7 h L (k + 1)) := fun j hj hj2 => by
              by_cases e2 : j = k
              · rw [e2, HX.out, e3]
              · exact hI2.out j (by omega) hj2
            have hn : (((ro L k).length : Int) != (n0 : Int)) = false := by simp [e3]
            clear hI hI2 hH hL r2 e e0 f1 f2 e3
            go_wp2
            go_round
            case rel => exact ⟨k + 1, by omega, by go_num, by rw [HX.out], HI⟩
            case measure => simp [intOf]; omega
          · have hn : (((ro L k).length : Int) != (n0 : Int)) = true := by simp; omega
            have E : Hid (evenB h L = false) := evenB_no fun ev => e3 (by rw [hn0.out]; exact ev k j0 e hh0)
            clear hI hI2 hH hL r2 e e0 f1 f2 e3
            go_wp2
            go_ret
            exact ⟨by rw [E.out]; rfl, rfl⟩
    · have E : Hid (evenB h L = true) := evenB_yes fun i j hi hj => by
        have h1 := (pl7_at hi).1
        have h2 := (pl7_at hj).1
        have := hlen'.out
        have k1 := hI.out i (by omega) hi
        have k2 := hI.out j (by omega) hj
        omega
      have hge : ¬ (k : Int) < (L.length : Int) := by omega
      clear hI hH hL
      go_wp2
      go_ret
      exact ⟨by rw [E.out]; rfl, rfl⟩

end Go.Proofs.Ytchfonofjbpmaaa.Gf

/-
  THE PROGRAM's 'addTimes' AND 'making' (package erase) BY CONTRACT, and the closure that 'making' makes.
-/



namespace Go.Proofs.Ytchfonofjbpmaaa.Gf
set_option linter.unusedVariables false
set_option linter.unusedSimpArgs false
open Go.RowKit

theorem addR_nought {f : Nat → UInt8} {q : List UInt8} {n t : Nat} : addR f 0 q n t = f t := by
  unfold addR
  by_cases h : t < n
  · rw [if_pos h, zero_mu, x_zero]
  · rw [if_neg h]

set_option maxRecDepth 100000 in
set_option maxHeartbeats 2000000 in
/-- a shard, times a number, is added to a row -/
theorem eadd_any {w : World} {base u g n c b : Nat} {f : Nat → UInt8} {vq : Value} {q : List UInt8} (a : UInt8) (hF : FieldAt w b) (hbg : b ≠ g)
    (hR : RowF w base u g n c f) (hq : Rd w vq q) (hap : Apart g vq) (hn : q.length = n) (hL : n ≤ 1000000) {y : Int} (hy : y = ((a.toNat : Nat) : Int)) :
    Calls Try.prog 77 #[.pointer (some ⟨b, 0, none⟩), .slice (some ⟨g, 0, none⟩) n c, .int .u8 y, vq] w fun e w' => e = .returned (.tuple #[]) ∧ Only g w w' ∧ RowF w' base u g n c (addR f a q n) := by
  subst hy
  obtain ⟨qa, qc, rfl⟩ := hq.form
  rw [hn]
  by_cases ha : a = 0
  · have HR : Hid (RowF w base u g n c (addR f a q n)) := hR.congr fun t _ => by rw [ha]; exact addR_nought.symm
    have hz : (((a.toNat : Nat) : Int) == 0) = true := by rw [eq_u8_zero]; exact decide_eq_true ha
    clear hq hF hR ha
    go_enter Try.func77, Try.ntmps77
    go_wp2
    exact bodyPost_ret (v := .tuple #[]) (by simp [results, Try.results77, go_sem]) rfl ⟨rfl, Only.refl _ _, HR.out⟩
  · have hz : (((a.toNat : Nat) : Int) == 0) = false := by rw [eq_u8_zero]; exact decide_eq_false ha
    clear ha
    go_enter Try.func77, Try.ntmps77
    go_wp2
    clear hz
    go_loopw [14] (fun i wr => ∃ k : Nat, k ≤ n ∧ i = .int .i64 k ∧ Only g w wr ∧ RowF wr base u g n c (addR f a q k)) (fun i _ => n - (intOf i).toNat)
    case atStart => exact ⟨0, by omega, rfl, Only.refl _ _, by rw [addR_zero]; exact hR⟩
    case round =>
      obtain ⟨k, hk, rfl, hO, hRk⟩ := hrel
      by_cases hlt : k < n
      · have hq2 := hq.only hap hO
        rw [hn] at hq2
        obtain ⟨qb, qo, rfl, _, ct⟩ := hq2.byte (i := k) (by omega)
        have c1 := hRk.cell hlt
        have f1 := hRk.unfrozen k
        have e1 : addR f a q k k = f k := if_neg (by omega)
        rw [e1] at c1
        have E := xor_u8 (f k) (mu a (co q k))
        have HN : Hid (RowF (wr.setCell ⟨g, k, none⟩ (.int .u8 (((f k).toNat ^^^ (mu a (co q k)).toNat : Nat) : Int))) base u g n c (addR f a q (k + 1))) := by
          rw [← UInt8.toNat_xor]
          exact hRk.store hlt _ fun s => addR_step _ _ _ _ _
        have HO : Hid (Only g w (wr.setCell ⟨g, k, none⟩ (.int .u8 (((f k).toNat ^^^ (mu a (co q k)).toNat : Nat) : Int)))) := hO.setCell k _
        have hFr := hF.only hbg hO
        have hlt' : (k : Int) < (n : Int) := by omega
        clear hRk hO hR e1 hq hap hn hq2 hF
        go_wp2
        go_region_with ((go_at_call 45; refine (fmu_quiet (hFr.drewN _) a (co q k) rfl rfl).mono ?_; rintro e w' ⟨rfl, d, rfl⟩))
        all_goals go_wp2
        all_goals
          go_roundw
          case rel => exact ⟨k + 1, by omega, by go_num, HO.out.drewN _, HN.out.drewN _⟩
          case measure => simp [intOf]; omega
      · have e : k = n := by omega
        subst e
        have hge : ¬ (k : Int) < (k : Int) := by omega
        clear hq
        go_wp2
        go_end0
        exact ⟨rfl, hO, hRk⟩

/-- what 'making' lays: its four variables -/
structure Mk7 (w : World) (b fb mb pb sb : Nat) (r c : Int) (vs vp vl : Value) : Prop where
  cf : w.cell? ⟨fb, 0, none⟩ = some (.pointer (some ⟨b, 0, none⟩))
  bx : Box w mb r c vs
  cp : w.cell? ⟨pb, 0, none⟩ = some vp
  cs : w.cell? ⟨sb, 0, none⟩ = some vl
  lf : fb < w.heap.size
  lm : mb < w.heap.size
  lp : pb < w.heap.size
  ls : sb < w.heap.size
theorem Mk7.below {w w' : World} {b fb mb pb sb : Nat} {r c : Int} {vs vp vl : Value} (h : Mk7 w b fb mb pb sb r c vs vp vl) (hb : Below w.heap.size w w') : Mk7 w' b fb mb pb sb r c vs vp vl :=
  ⟨(hb.cell (p := ⟨fb, 0, none⟩) h.lf).trans h.cf, h.bx.below h.lm hb, (hb.cell (p := ⟨pb, 0, none⟩) h.lp).trans h.cp, (hb.cell (p := ⟨sb, 0, none⟩) h.ls).trans h.cs, Nat.lt_of_lt_of_le h.lf hb.size, Nat.lt_of_lt_of_le h.lm hb.size, Nat.lt_of_lt_of_le h.lp hb.size, Nat.lt_of_lt_of_le h.ls hb.size⟩

set_option maxRecDepth 100000 in
set_option maxHeartbeats 1000000 in
theorem emak_any {b n1 n2 n3 c1 c2 c3 : Nat} {a1 a2 a3 : Option Addr} {r c : Int} (w : World) : Calls Try.prog 50 #[.pointer (some ⟨b, 0, none⟩), .agg #[.int .i64 r, .int .i64 c, .slice a1 n1 c1], .slice a2 n2 c2, .slice a3 n3 c3] w fun e w' =>
    ∃ fb mb pb sb, e = .returned (.func (.func 76) #[] #[.pointer (some ⟨sb, 0, none⟩), .pointer (some ⟨pb, 0, none⟩), .pointer (some ⟨fb, 0, none⟩), .pointer (some ⟨mb, 0, none⟩)]) ∧ Mk7 w' b fb mb pb sb r c (.slice a1 n1 c1) (.slice a2 n2 c2) (.slice a3 n3 c3) ∧ Below w.heap.size w w' := by
  go_enter Try.func50, Try.ntmps50
  go_wp2
  go_ret
  refine ⟨w.heap.size, w.heap.size + 1, w.heap.size + 1 + 1, w.heap.size + 1 + 1 + 1, rfl, ⟨by go_simp, ⟨by go_simp, by go_simp, by go_simp⟩, by go_simp, by go_simp, by simp <;> omega, by simp <;> omega, by simp <;> omega, by simp <;> omega⟩, by repeat (first | exact Below.refl _ _ | apply below_lit)⟩

set_option maxRecDepth 100000 in
set_option maxHeartbeats 4000000 in
/-- a data shard, made anew -/
theorem emak1_any {w : World} {b fb mb pb sb k j n : Nat} {V : Mx} {zs : List Nat} {L : List (List UInt8)} {vs vp vl : Value} (hF : FieldAt w b) (hM : Mk7 w b fb mb pb sb (k : Int) (k : Int) vs vp vl) (hV : Rd w vs (flat k k V)) (hp : RdI w vp (toI zs)) (hz : zs.length = k) (hs : Rs w vl L)
    (hin : ∀ i, i < k → zs.getD i 0 < L.length) (hlen : ∀ i, i < k → (ro L (zs.getD i 0)).length = n) (hn : n ≤ 300) (hk : k ≤ 256) (hj : j < k) {x : Int} (hx : x = (j : Int)) :
    Calls Try.prog 76 #[.int .i64 x, .pointer (some ⟨sb, 0, none⟩), .pointer (some ⟨pb, 0, none⟩), .pointer (some ⟨fb, 0, none⟩), .pointer (some ⟨mb, 0, none⟩)] w fun e w' =>
      ∃ g, e = .returned (.slice (some ⟨g, 0, none⟩) n n) ∧ w.heap.size ≤ g ∧ RowF w' w.heap.size 5 g n n (dwd V (fun i => zs.getD i 0) L j k) ∧ Below w.heap.size w w' := by
  subst hx
  have hmk := run_make_row' (P := Try.prog) 22 5 (.int .u8 0) 1 Try.underlying22 info_u8 rfl .i64 .i64 n (by omega) (by omega)
  have hz' : Hid (zs.length = k) := hz
  have hin' : Hid _ := hin
  have hlen' : Hid _ := hlen
  obtain ⟨va, vc, rfl⟩ := hV.form
  obtain ⟨qa, qc, rfl⟩ := hp.form
  obtain ⟨la, lc, rfl⟩ := hs.form
  rw [toI_length, hz] at hp hM
  rw [flat_length] at hV hM
  obtain ⟨N, hN⟩ : ∃ N, Hid (N = k * k) := ⟨_, rfl⟩
  rw [← hN.out] at hV hM
  have hp0 := hp
  obtain ⟨pb', po, rfl, hpb, cp0⟩ := hp0.at (i := 0) (by rw [toI_length, hz]; omega)
  rw [toI_getD, Nat.add_zero] at cp0
  have hi0 := hin 0 (by omega)
  have hl0 := hlen 0 (by omega)
  obtain ⟨t0, ht0⟩ : ∃ t0, Hid (t0 = zs.getD 0 0) := ⟨_, rfl⟩
  rw [← ht0.out] at cp0 hi0 hl0
  obtain ⟨sb', so, xa, xc, rfl, hsb, cs0, _⟩ := hs.at hi0
  rw [hl0] at cs0
  have hi0' : (t0 : Int) < (L.length : Int) := by omega
  have h0k : (0 : Int) < (k : Int) := by omega
  have m1 := hM.cs
  have m2 := hM.cp
  clear hin hlen hz hl0
  go_enter Try.func76, Try.ntmps76
  go_wp2_with fail
  go_region
  have B1 : Below w.heap.size w (w.alloc (.cells (madeCells #[.int .u8 0] n) 5)).drew := ((Below.refl _ _).alloc (Nat.le_refl _) _).drew
  clear hmk m1 m2 cs0 cp0
  obtain ⟨g, hg⟩ : ∃ g, Hid (g = w.heap.size) := ⟨_, rfl⟩
  have R1 : RowF (w.alloc (.cells (madeCells #[.int .u8 0] n) 5)).drew w.heap.size 5 g n n (fun _ => 0) := by rw [hg.out]; exact (RowF.laid w (base := w.heap.size) (e := 5) (n := n) (Nat.le_refl _) (by omega)).drew
  rw [← hg.out]
  have hbg : b ≠ g := by rw [hg.out]; have := hF.lt; omega
  have hap := fun (v : Value) (q : List UInt8) (r : Rd w v q) => r.apart (g := g) (by rw [hg.out]; exact Nat.le_refl _)
  have HS : Hid (∀ i, i < k → ∃ xa xc, w.cell? ⟨sb', so + zs.getD i 0, none⟩ = some (.slice xa n xc) ∧ Rd w (.slice xa n xc) (ro L (zs.getD i 0))) := fun i hi => by
    obtain ⟨xa, xc, c1, r1⟩ := hs.get (hin'.out i hi)
    rw [hlen'.out i hi] at c1 r1
    exact ⟨xa, xc, c1, r1⟩
  have HAP : Hid (∀ (v : Value) (q : List UInt8), Rd w v q → Apart g v) := fun v q r => r.apart (by rw [hg.out]; exact Nat.le_refl _)
  have HP : Hid (∀ i, i < k → w.cell? ⟨pb', po + i, none⟩ = some (.int .i64 ((zs.getD i 0 : Nat) : Int))) := fun i hi => by
    have := hp.get (i := i) (by rw [toI_length, hz'.out]; exact hi)
    rwa [toI_getD] at this
  have HVc : Hid (∀ T, T < N → ∃ ab ao, va = some ⟨ab, ao, none⟩ ∧ ab < w.heap.size ∧ w.cell? ⟨ab, ao + T, none⟩ = some (.int .u8 ((co (flat k k V) T).toNat : Nat))) := fun T hT => hV.byte (i := T) (by rw [flat_length, ← hN.out]; exact hT)
  have lpb := hM.lp
  have lfb := hM.lf
  have lmb := hM.lm
  have lsb := hM.ls
  have m2 := (B1.cell (p := ⟨pb, 0, none⟩) lpb).trans hM.cp
  clear hap hV hp hp0 hs
  generalize (w.alloc (.cells (madeCells #[.int .u8 0] n) 5)).drew = w1 at *
  go_wp2
  go_loopw [20] (fun x wr => ∃ i : Nat, i ≤ k ∧ x = .int .i64 i ∧ Only g w1 wr ∧ RowF wr w.heap.size 5 g n n (dwd V (fun i => zs.getD i 0) L j i)) (fun x _ => k - (intOf x).toNat)
  case atStart => exact ⟨0, by omega, rfl, Only.refl _ _, R1⟩
  case round =>
    obtain ⟨i, hi, rfl, hO, hR⟩ := hrel
    clear R1
    have b8 : Below w.heap.size w wr := B1.trans (hO.below (by rw [hg.out]; exact Nat.le_refl _))
    by_cases hlt : i < k
    · have hlt' : (i : Int) < (k : Int) := by omega
      have hM8 := hM.below b8
      have m1 := hM8.cs
      have m3 := hM8.cf
      have x1 := hM8.bx.c1
      have x2 := hM8.bx.c2
      obtain ⟨xa, xc, cj, rj⟩ := HS.out i hlt
      have hap : Apart g (.slice xa n xc) := HAP.out _ _ rj
      have hti := hin'.out i hlt
      have hle := hlen'.out i hlt
      have cpi := (b8.cell (p := ⟨pb', po + i, none⟩) hpb).trans (HP.out i hlt)
      obtain ⟨t, ht⟩ : ∃ t, Hid (t = zs.getD i 0) := ⟨_, rfl⟩
      have HD : Hid (∀ n, dwd V (fun i => zs.getD i 0) L j (i + 1) n = dwd V (fun i => zs.getD i 0) L j i n ^^^ mu (V j i) (co (ro L t) n)) := fun n => by rw [ht.out]; exact dwd_succ _ _ _ _ _ _
      rw [← ht.out] at cj rj hti cpi hle
      have hti' : (t : Int) < (L.length : Int) := by omega
      have cj8 := (b8.cell (p := ⟨sb', so + t, none⟩) hsb).trans cj
      have rj8 := rj.below b8
      obtain ⟨T, hT⟩ : ∃ T, Hid (T = j * k + i) := ⟨_, rfl⟩
      have hTN : T < N := by rw [hT.out, hN.out]; exact place_lt hj hlt
      have hNs : N ≤ 65536 := by rw [hN.out]; exact mul_small (by omega) (by omega)
      obtain ⟨o', ho'⟩ : ∃ o', Hid (o' = j * k) := ⟨_, rfl⟩
      have hoT : o' + i = T := by rw [ho'.out, hT.out]
      have g1 : (j : Int) * (k : Int) = (o' : Int) := by rw [ho'.out]; exact_mod_cast rfl
      have g2 : (o' : Int) + (i : Int) = (T : Int) := by omega
      have v1 : IntKind.i64.wrap (o' : Int) = (o' : Int) := by rw [IntKind.wrap_i64]; omega
      have v2 : IntKind.i64.wrap (T : Int) = (T : Int) := by rw [IntKind.wrap_i64]; omega
      obtain ⟨ab, ao, eva, hab, ca⟩ := HVc.out T hTN
      have eT : co (flat k k V) T = V j i := by rw [hT.out]; exact en_flat V hj hlt
      rw [eT] at ca
      subst eva
      have ca8 := (b8.cell (p := ⟨ab, ao + T, none⟩) hab).trans ca
      have hTN' : (T : Int) < (N : Int) := by omega
      have hF8 := hF.below b8
      have hle' : Hid _ := hle
      have hO8 : Hid _ := hO
      have hR8 : Hid _ := hR
      have b8' : Hid _ := b8
      clear hle cj rj ca eT hoT hO hR hM8 b8 hM hF m2
      have hng : fb ≠ g ∧ mb ≠ g ∧ sb ≠ g ∧ ab ≠ g ∧ sb' ≠ g := by have := hg.out; omega
      obtain ⟨ng1, ng2, ng3, ng4, ng5⟩ := hng
      have P1 := And.intro m3 (And.intro x1 (And.intro x2 (And.intro m1 (And.intro ca8 cj8))))
      have Q1 : Hid (∀ W, Only g wr W → W.cell? ⟨fb, 0, none⟩ = some (.pointer (some ⟨b, 0, none⟩)) ∧ W.cell? ⟨mb, 1, none⟩ = some (.int .i64 (k : Int)) ∧ W.cell? ⟨mb, 2, none⟩ = some (.slice (some ⟨ab, ao, none⟩) N vc) ∧ W.cell? ⟨sb, 0, none⟩ = some (.slice (some ⟨sb', so, none⟩) L.length lc) ∧ W.cell? ⟨ab, ao + T, none⟩ = some (.int .u8 ((V j i).toNat : Nat)) ∧ W.cell? ⟨sb', so + t, none⟩ = some (.slice xa n xc)) := fun W o => ⟨(o.cell (p := ⟨fb, 0, none⟩) ng1).trans m3, (o.cell (p := ⟨mb, 1, none⟩) ng2).trans x1, (o.cell (p := ⟨mb, 2, none⟩) ng2).trans x2, (o.cell (p := ⟨sb, 0, none⟩) ng3).trans m1, (o.cell (p := ⟨ab, ao + T, none⟩) ng4).trans ca8, (o.cell (p := ⟨sb', so + t, none⟩) ng5).trans cj8⟩
      have HC : ∀ W, Only g wr W → RowF W w.heap.size 5 g n n (dwd V (fun i => zs.getD i 0) L j i) → Calls Try.prog 77 #[.pointer (some ⟨b, 0, none⟩), .slice (some ⟨g, 0, none⟩) n n, .int .u8 ((V j i).toNat : Nat), .slice xa n xc] W fun e w' => e = .returned (.tuple #[]) ∧ Only g wr w' ∧ RowF w' w.heap.size 5 g n n (addR (dwd V (fun i => zs.getD i 0) L j i) (V j i) (ro L t) n) := fun W o r =>
        (eadd_any (V j i) (hF8.only hbg o) hbg r (rj8.only hap o) hap hle'.out (by omega) rfl).mono fun e w' ⟨h1, h2, h3⟩ => ⟨h1, o.trans h2, h3⟩
      clear hF8 rj8 hap m1 m3 x1 x2 ca8 cj8
      go_wp2
      go_region_held3 (fun wx => wx.cell? ⟨fb, 0, none⟩ = some (.pointer (some ⟨b, 0, none⟩)) ∧ wx.cell? ⟨mb, 1, none⟩ = some (.int .i64 (k : Int)) ∧ wx.cell? ⟨mb, 2, none⟩ = some (.slice (some ⟨ab, ao, none⟩) N vc) ∧ wx.cell? ⟨sb, 0, none⟩ = some (.slice (some ⟨sb', so, none⟩) L.length lc) ∧ wx.cell? ⟨ab, ao + T, none⟩ = some (.int .u8 ((V j i).toNat : Nat)) ∧ wx.cell? ⟨sb', so + t, none⟩ = some (.slice xa n xc)) (first | exact P1 | exact Q1.out _ (by assumption)) ((go_at_call 77; go_loud (refine (HC _ (Only.refl g wr).drew (RowF.drew hR8.out)).mono ?_); rintro e w9 ⟨rfl, hO9, hR9⟩; replace P1 := Q1.out _ hO9))
      have HN1 : Hid (RowF w9 w.heap.size 5 g n n (dwd V (fun i => zs.getD i 0) L j (i + 1))) := hR9.congr fun s hs => by rw [HD.out]; exact if_pos hs
      have HN2 : Hid (Only g w1 w9) := hO8.out.trans hO9
      clear hO9 hR9 cpi HC P1 Q1
      go_wp2
      go_roundw
      case rel => exact ⟨i + 1, by omega, by go_num, HN2.out, HN1.out⟩
      case measure => simp [intOf]; omega
    · have hge : ¬ (i : Int) < (k : Int) := by omega
      have ei : i = k := by omega
      rw [ei] at hR
      clear ei hM hF
      go_wp2
      go_ret
      exact ⟨g, rfl, by rw [hg.out]; exact Nat.le_refl _, hR, b8⟩

end Go.Proofs.Ytchfonofjbpmaaa.Gf

/-
  THE PROGRAM's 'Generator' BY CONTRACT.
-/

namespace Go.Proofs.Ytchfonofjbpmaaa.Gf
set_option linter.unusedVariables false
set_option linter.unusedSimpArgs false
open Go.RowKit

theorem enters_gen1 : Hid (∀ (args : Array Value) (w : World), Sem.run Try.prog (callFunc 73 args) w = .ok (.enter 73 args) w) := enters_of Try.func73 (by kernel_rfl) rfl

set_option maxRecDepth 100000 in
set_option maxHeartbeats 1000000 in
theorem cgen_bad {b : Nat} {k m : Int} {w : World} (hF : FieldAt w b) (h : ¬ OkC k m) : Calls Try.prog 46 #[.pointer (some ⟨b, 0, none⟩), .int .i64 k, .int .i64 m] w (MakesErr w 50) := by
  go_enter Try.func46, Try.ntmps46
  go_wp2_with fail
  refine (ccf_bad _ h).mono ?_
  rintro e w2 ⟨rfl, rfl⟩
  clear h
  go_wp2
  refine bodyPost_ret (v := .tuple #[.agg #[.int .i64 0, .int .i64 0, .slice none 0 0], .int .i64 50]) (by simp [results, Try.results46, go_sem]) rfl ⟨_, rfl, rd_none, ((Below.refl _ _).alloc (Nat.le_refl _) _).alloc (by simp) _⟩

set_option maxRecDepth 100000 in
set_option maxHeartbeats 1000000 in
/-- Generator's closure fills a row. -/
theorem gen_fill {w : World} {b kb fb kb2 pb k i o cap g m base : Nat} {f : Nat → UInt8} (hF : FieldAt w b) (hb : b ≠ g) (hl : Fills w b k kb fb) (hk : kb ≠ g) (hf : fb ≠ g)
    (c2 : w.cell? ⟨kb2, 0, none⟩ = some (.int .i64 (k : Int))) (cp : w.cell? ⟨pb, 0, none⟩ = some (.func (.func 99) #[] #[.pointer (some ⟨kb, 0, none⟩), .pointer (some ⟨fb, 0, none⟩)]))
    (hi : i < 256) (hn : k ≤ 256) (hom : o + k ≤ m) (R : RowF w base 5 g m m f) {x : Int} (hx : x = (i : Int)) :
    Calls Try.prog 73 #[.int .i64 x, .slice (some ⟨g, o, none⟩) k cap, .pointer (some ⟨kb2, 0, none⟩), .pointer (some ⟨pb, 0, none⟩)] w fun e w' => e = .returned (.tuple #[]) ∧ Only g w w' ∧
      RowF w' base 5 g m m (if i < k then fun t => if t = o + i then 1 else f t else putAt f o k (fun j => parF k (i - k) j)) := by
  subst hx
  by_cases hik : i < k
  · have hik' : (i : Int) < (k : Int) := by omega
    rw [if_pos hik]
    have c4 := R.cell (show o + i < m by omega)
    have f4 := R.unfrozen (o + i)
    have HN : Hid (RowF (w.setCell ⟨g, o + i, none⟩ (.int .u8 1)) base 5 g m m (fun t => if t = o + i then 1 else f t)) := R.store (show o + i < m by omega) 1 (fun _ => rfl)
    have HT : Hid (Only g w (w.setCell ⟨g, o + i, none⟩ (.int .u8 1))) := (Only.refl _ _).setCell _ _
    clear R hF
    go_enter Try.func73, Try.ntmps73
    go_wp2
    exact bodyPost_ret (v := .tuple #[]) (by simp [results, Try.results73, go_sem]) rfl ⟨rfl, HT.out, HN.out⟩
  · have hik' : ¬ (i : Int) < (k : Int) := by omega
    rw [if_neg hik]
    obtain ⟨d, hd⟩ : ∃ d, Hid (d = i - k) := ⟨_, rfl⟩
    have g1 : (i : Int) - (k : Int) = (d : Int) := by have := hd.out; omega
    rw [← hd.out]
    go_enter Try.func73, Try.ntmps73
    go_wp2_with fail
    refine (prow_fill (i := d) (n := k) (base := base) hF hb hl.ck hk hl.cf hf (by have := hd.out; omega) (Nat.le_refl _) hn hom R rfl).mono ?_
    rintro e w' ⟨rfl, hO, hR⟩
    go_wp2
    go_end0
    exact ⟨rfl, hO, hR⟩

set_option maxRecDepth 100000 in
set_option maxHeartbeats 2000000 in
theorem cgen_ok {b : Nat} {w : World} (k m : Nat) (hF : FieldAt w b) (h1 : 1 ≤ k) (h2 : k + m ≤ 256) {x y : Int} (hx : x = (k : Int)) (hy : y = (m : Int)) :
    Calls Try.prog 46 #[.pointer (some ⟨b, 0, none⟩), .int .i64 x, .int .i64 y] w (MakesM w (k + m) k (genF k)) := by
  subst hx hy
  obtain ⟨s, hs⟩ : ∃ s, Hid (s = k + m) := ⟨_, rfl⟩
  have g1 : (k : Int) + (m : Int) = (s : Int) := by have := hs.out; omega
  have hs2 : s ≤ 256 := by rw [hs.out]; exact h2
  have w0 : IntKind.i64.wrap (s : Int) = (s : Int) := by rw [IntKind.wrap_i64]; omega
  rw [← hs.out]
  go_enter Try.func46, Try.ntmps46
  go_wp2_with fail
  refine (ccf_ok _ (okC_mk h1 h2)).mono ?_
  rintro e w2 ⟨rfl, rfl⟩
  go_wp2_with fail
  refine (prow_make k _ rfl).mono ?_
  rintro e w1 ⟨kb, fb, rfl, hfl, b1⟩
  have C0 : w1.cell? ⟨w.heap.size, 0, none⟩ = some (.int .i64 (k : Int)) := (b1.cell (p := ⟨w.heap.size, 0, none⟩) (by simp <;> omega)).trans (by simp)
  have X3 : Box w1 (w.heap.size + 1) 0 0 (.slice none 0 0) := Below.box b1 (by simp <;> omega) ⟨by simp, by simp, by simp⟩
  have F3 : Free w1 (w.heap.size + 1) := Below.free b1 (by simp <;> omega) ⟨by simp, by simp, by simp⟩
  have B1 : Below w.heap.size w w1 := Below.next (((Below.refl _ _).alloc (Nat.le_refl _) _).alloc (by simp) _) b1
  have hF1 := hF.below B1
  have hs1 : w.heap.size + 1 < w1.heap.size := by have := b1.size; simp at this; omega
  clear b1
  have hA : Below w1.heap.size w1 (w1.alloc (.cells #[.func (.func 99) #[] #[.pointer (some ⟨kb, 0, none⟩), .pointer (some ⟨fb, 0, none⟩)]] 105)) := (Below.refl _ _).alloc (Nat.le_refl _) _
  have CP : (w1.alloc (.cells #[.func (.func 99) #[] #[.pointer (some ⟨kb, 0, none⟩), .pointer (some ⟨fb, 0, none⟩)]] 105)).cell? ⟨w1.heap.size, 0, none⟩ = some (.func (.func 99) #[] #[.pointer (some ⟨kb, 0, none⟩), .pointer (some ⟨fb, 0, none⟩)]) := by simp
  have hpl : w1.heap.size < (w1.alloc (.cells #[.func (.func 99) #[] #[.pointer (some ⟨kb, 0, none⟩), .pointer (some ⟨fb, 0, none⟩)]] 105)).heap.size := by simp
  have C0w := C0
  replace C0 := (hA.cell (p := ⟨w.heap.size, 0, none⟩) (by show w.heap.size < _; omega)).trans C0
  replace X3 := X3.below (by omega) hA
  replace F3 := F3.below (by omega) hA
  replace B1 := Below.next B1 hA
  replace hF1 := hF1.below hA
  replace hfl := hfl.below hA
  clear hA
  go_wp2_with fail
  generalize w1.alloc (.cells #[.func (.func 99) #[] #[.pointer (some ⟨kb, 0, none⟩), .pointer (some ⟨fb, 0, none⟩)]] 105) = w5 at *
  refine (made_any s k w5 hs2 (by omega) h1 (genF k) enters_gen1 ?_ rfl rfl).mono ?_
  · intro g M i o W hi hM ho hg hB R
    have hf2 := hfl.below hB
    refine (gen_fill (i := i) (hF1.below hB) (by have := hF1.lt; omega) hf2 (by have := hfl.lk; omega) (by have := hfl.lf; omega) ((hB.cell (p := ⟨w.heap.size, 0, none⟩) (by show w.heap.size < _; omega)).trans C0) ((hB.cell (p := ⟨w1.heap.size, 0, none⟩) hpl).trans CP) (by omega) (by omega) (by rw [ho.out, hM.out, ← Nat.succ_mul]; exact Nat.mul_le_mul_right k hi) R rfl).mono ?_
    rintro e w' ⟨rfl, hO, hR⟩
    refine ⟨rfl, hO.turn, hR.congr ?_⟩
    rw [hM.out]
    by_cases hik : i < k
    · rw [if_pos hik]
      refine upR_row (fun t ht hne => if_neg fun e => hne ?_) (fun j hj => ?_)
      · rw [e, ho.out]; exact place_div hik
      · show (if i * k + j = o + i then (1 : UInt8) else pl k (upR (genF k) i) (i * k + j)) = genF k i j
        rw [upR_at hj, ho.out]
        unfold genF
        rw [if_pos hik]
        by_cases e : j = i
        · subst e; rw [if_pos rfl, one_self]
        · rw [if_neg (by omega), one_ne (fun h => e h.symm)]
    · rw [if_neg hik]
      refine upR_row (fun t ht hne => putAt_out (not_in_row ho.out (by omega) hne (Nat.le_refl _))) (fun j hj => ?_)
      rw [ho.out, putAt_in hj]
      unfold genF
      rw [if_neg hik]
  · rintro e w4 ⟨g, M, rfl, hg, hR, b4⟩
    have X4 := X3.below (by omega) b4
    have F4 := F3.below (by omega) b4
    have B4 : Below w.heap.size w w4 := Below.next B1 b4
    have x30 := X4.c0
    have x31 := X4.c1
    have x32 := X4.c2
    have f30 := F4.f0
    have f31 := F4.f1
    have f32 := F4.f2
    go_wp2
    have O1 : Only (w.heap.size + 1) w4 (((w4.setCell ⟨w.heap.size + 1, 0, none⟩ (.int .i64 (s : Int))).setCell ⟨w.heap.size + 1, 1, none⟩ (.int .i64 (k : Int))).setCell ⟨w.heap.size + 1, 2, none⟩ (.slice (some ⟨g, 0, none⟩) M M)) :=
      (((Only.refl _ _).setCell 0 _).setCell 1 _).setCell 2 _
    refine bodyPost_ret (v := .tuple #[.agg #[.int .i64 (s : Int), .int .i64 (k : Int), .slice (some ⟨g, 0, none⟩) M M], .int .i64 0]) (by simp [results, Try.results46, go_sem, x30, x31, x32, f30, f31, f32]) rfl ⟨_, rfl, hR.only (apart_block (by omega)) O1, B4.trans (O1.below (by omega))⟩

end Go.Proofs.Ytchfonofjbpmaaa.Gf

/-
  THE PROGRAM's 'Decode' (package erase) BY CONTRACT.
-/



namespace Go.Proofs.Ytchfonofjbpmaaa.Gf
set_option linter.unusedVariables false
set_option linter.unusedSimpArgs false
open Go.RowKit

/-- the first r data shards -/
def decP (k : Nat) (V : Mx) (p : Nat → Nat) (L : List (List UInt8)) (r : Nat) : List (List UInt8) := mkL k (fun j => if j < r then dsh k V p L j else [])
theorem decP_zero (k : Nat) (V : Mx) (p : Nat → Nat) (L : List (List UInt8)) : decP k V p L 0 = mkL k (fun _ => []) := mkL_congr fun i hi => if_neg (by omega)
theorem decP_all (k : Nat) (V : Mx) (p : Nat → Nat) (L : List (List UInt8)) : decP k V p L k = decD k V p L := mkL_congr fun i hi => if_pos hi
theorem decP_length (k : Nat) (V : Mx) (p : Nat → Nat) (L : List (List UInt8)) (r : Nat) : (decP k V p L r).length = k := mkL_length _ _
theorem decP_step {k : Nat} {V : Mx} {p : Nat → Nat} {L : List (List UInt8)} {r : Nat} (h : r < k) : (decP k V p L r).set r (dsh k V p L r) = decP k V p L (r + 1) := by
  refine ro_ext (by rw [List.length_set, decP_length, decP_length]) fun i hi => ?_
  rw [List.length_set, decP_length] at hi
  unfold decP
  rw [ro_set (by rw [mkL_length]; exact h), ro_mkL hi, ro_mkL hi]
  by_cases e : i = r
  · subst e; rw [if_pos rfl, if_pos (by omega)]
  · rw [if_neg e]
    by_cases h2 : i < r
    · rw [if_pos h2, if_pos (by omega)]
    · rw [if_neg h2, if_neg (by omega)]

set_option maxRecDepth 100000 in
set_option maxHeartbeats 1000000 in
theorem edec_bad {b : Nat} {k m : Int} {va vl : Value} {w : World} (hF : FieldAt w b) (h : ¬ OkC k m) : Calls Try.prog 26 #[.pointer (some ⟨b, 0, none⟩), .int .i64 k, .int .i64 m, va, vl] w (MakesRs w 50 []) := by
  go_enter Try.func26, Try.ntmps26
  go_wp2_with fail
  refine (cgen_bad hF h).mono ?_
  rintro e w2 ⟨vs, rfl, hR, b2⟩
  obtain ⟨sa, sc, rfl⟩ := hR.form
  clear h hF hR
  go_wp2
  exact bodyPost_ret (v := .tuple #[.slice none 0 0, .int .i64 50]) (by simp [results, Try.results26, go_sem]) rfl ⟨_, rfl, rs_none, below_lit b2 _⟩

set_option maxRecDepth 100000 in
set_option maxHeartbeats 2000000 in
theorem edec_shard {b : Nat} {k m : Nat} {va vl : Value} {h : List Bool} {L : List (List UInt8)} {w : World} (hF : FieldAt w b) (h1 : 1 ≤ k) (h2 : k + m ≤ 256) (hH : RdB w va h) (hL : Rs w vl L) (hno : ¬ OkH k m h L) {x y : Int} (hx : x = (k : Int)) (hy : y = (m : Int)) :
    Calls Try.prog 26 #[.pointer (some ⟨b, 0, none⟩), .int .i64 x, .int .i64 y, va, vl] w (MakesRs w 60 []) := by
  subst hx hy
  obtain ⟨a1, c1, rfl⟩ := hH.form
  obtain ⟨a2, c2, rfl⟩ := hL.form
  obtain ⟨s, hs⟩ : ∃ s, Hid (s = k + m) := ⟨_, rfl⟩
  have g1 : (k : Int) + (m : Int) = (s : Int) := by have := hs.out; omega
  have gw : IntKind.i64.wrap (s : Int) = (s : Int) := by have := hs.out; rw [IntKind.wrap_i64]; omega
  have hno' : Hid (¬ (h.length = s ∧ L.length = s ∧ EvenH h L)) := fun ⟨p1, p2, p3⟩ => hno ⟨by rw [p1]; omega, by rw [p2]; omega, p3⟩
  clear hno
  go_enter Try.func26, Try.ntmps26
  go_wp2_with fail
  refine (cgen_ok k m hF h1 h2 rfl rfl).mono ?_
  rintro e w2 ⟨vs, rfl, hR, b2⟩
  obtain ⟨sa, sc, rfl⟩ := hR.form
  generalize (flat (k + m) k (genF k)).length = N at *
  rw [show ((k + m : Nat) : Int) = (s : Int) by rw [hs.out]]
  have B2 : Below w.heap.size w (w2.alloc (.cells #[.int .i64 (s : Int), .int .i64 (k : Int), .slice sa N sc] 74)) := below_lit b2 _
  by_cases p1 : h.length = s
  · have q1 : ((h.length : Int) != (s : Int)) = false := by simp [p1]
    have p1' : Hid _ := p1
    clear p1
    by_cases p2 : L.length = s
    · have q2 : ((L.length : Int) != (s : Int)) = false := by simp [p2]
      have E : evenB h L = false := evenB_no fun e => hno'.out ⟨p1'.out, p2, e⟩
      have p2' : Hid _ := p2
      have hH2 := hH.below B2
      have hL2 := hL.below B2
      clear p2 hF hR b2 hH hL
      go_wp2_with fail
      refine (eone_any hH2 hL2 (by rw [p1'.out, p2'.out])).mono ?_
      rintro e w3 ⟨rfl, rfl⟩
      rw [E]
      clear hH2 hL2 E
      go_wp2
      exact bodyPost_ret (v := .tuple #[.slice none 0 0, .int .i64 60]) (by simp [results, Try.results26, go_sem]) rfl ⟨_, rfl, rs_none, B2⟩
    · have q2 : ((L.length : Int) != (s : Int)) = true := by simp; omega
      clear p2 hF hR b2 hH hL
      go_wp2
      exact bodyPost_ret (v := .tuple #[.slice none 0 0, .int .i64 60]) (by simp [results, Try.results26, go_sem]) rfl ⟨_, rfl, rs_none, B2⟩
  · have q1 : ((h.length : Int) != (s : Int)) = true := by simp; omega
    clear p1 hF hR b2 hH hL
    go_wp2
    exact bodyPost_ret (v := .tuple #[.slice none 0 0, .int .i64 60]) (by simp [results, Try.results26, go_sem]) rfl ⟨_, rfl, rs_none, B2⟩

set_option maxRecDepth 100000 in
set_option maxHeartbeats 2000000 in
theorem edec_few {b : Nat} {k m : Nat} {va vl : Value} {h : List Bool} {L : List (List UInt8)} {w : World} (hF : FieldAt w b) (h1 : 1 ≤ k) (h2 : k + m ≤ 256) (hH : RdB w va h) (hL : Rs w vl L) (hok : OkH k m h L) (hf : (thr h h.length).length < k) {x y : Int} (hx : x = (k : Int)) (hy : y = (m : Int)) :
    Calls Try.prog 26 #[.pointer (some ⟨b, 0, none⟩), .int .i64 x, .int .i64 y, va, vl] w (MakesRs w 70 []) := by
  subst hx hy
  obtain ⟨a1, c1, rfl⟩ := hH.form
  obtain ⟨a2, c2, rfl⟩ := hL.form
  obtain ⟨s, hs⟩ : ∃ s, Hid (s = k + m) := ⟨_, rfl⟩
  have g1 : (k : Int) + (m : Int) = (s : Int) := by have := hs.out; omega
  have gw : IntKind.i64.wrap (s : Int) = (s : Int) := by have := hs.out; rw [IntKind.wrap_i64]; omega
  have p1 : Hid (h.length = s) := by show _ = _; have := hok.1; omega
  have p2 : Hid (L.length = s) := by show _ = _; have := hok.2.1; omega
  have E : evenB h L = true := evenB_yes hok.2.2
  have q0 : ((s : Int) != (s : Int)) = false := by simp
  have hl7 : Hid ((pls7 h k).length = (thr h h.length).length) := by show _ = _; rw [pls7_all (by omega)]
  clear hok
  rw [p1.out] at hH ⊢
  rw [p2.out] at hL ⊢
  go_enter Try.func26, Try.ntmps26
  go_wp2_with fail
  refine (cgen_ok k m hF h1 h2 rfl rfl).mono ?_
  rintro e w2 ⟨vs, rfl, hR, b2⟩
  obtain ⟨sa, sc, rfl⟩ := hR.form
  generalize (flat (k + m) k (genF k)).length = N at *
  rw [show ((k + m : Nat) : Int) = (s : Int) by rw [hs.out]]
  have B2 : Below w.heap.size w (w2.alloc (.cells #[.int .i64 (s : Int), .int .i64 (k : Int), .slice sa N sc] 74)) := below_lit b2 _
  have hH2 := hH.below B2
  have hL2 := hL.below B2
  clear hF hR b2 hH hL
  go_wp2_with fail
  refine (eone_any hH2 hL2 (by rw [p1.out, p2.out])).mono ?_
  rintro e w3 ⟨rfl, rfl⟩
  rw [E]
  clear E hL2
  go_wp2_with fail
  refine (efirst_any hH2 (by omega) rfl).mono ?_
  rintro e w4 ⟨v4, rfl, hO4, b4⟩
  have B4 := Below.next B2 b4
  obtain ⟨pa, pc, rfl⟩ := hO4.form
  rw [hl7.out]
  have hf' : (((thr h h.length).length : Nat) : Int) < (k : Int) := by omega
  clear hO4 hH2 B2 b4 hf
  go_wp2
  exact bodyPost_ret (v := .tuple #[.slice none 0 0, .int .i64 70]) (by simp [results, Try.results26, go_sem]) rfl ⟨_, rfl, rs_none, B4⟩

end Go.Proofs.Ytchfonofjbpmaaa.Gf

/-
  THE PROGRAM's 'Decode' (package erase) BY CONTRACT: where shards enough are there.
-/


namespace Go.Proofs.Ytchfonofjbpmaaa.Gf
set_option linter.unusedVariables false
set_option linter.unusedSimpArgs false
open Go.RowKit

theorem dsh_of {k j n : Nat} {V : Mx} {h : List Bool} {L : List (List UInt8)} (hn : (ro L (pl7 h 0)).length = n) : upto (dwd V (fun i => (pls7 h k).getD i 0) L j k) n = dsh k V (pl7 h) L j := by
  unfold dsh
  rw [hn]
  refine upto_congr fun t _ => ?_
  unfold dwd
  exact S_congr fun i hi => by show mu (V j i) (co (ro L ((pls7 h k).getD i 0)) t) = _; rw [pls7_getD hi]

set_option maxRecDepth 100000 in
set_option maxHeartbeats 4000000 in
theorem edec_ok {b : Nat} {k m : Nat} {va vl : Value} {h : List Bool} {L : List (List UInt8)} {w : World} (hF : FieldAt w b) (h1 : 1 ≤ k) (h2 : k + m ≤ 256) (hH : RdB w va h) (hL : Rs w vl L) (hok : OkH k m h L) (hS : SmallH h L) (hf : k ≤ (thr h h.length).length) {x y : Int} (hx : x = (k : Int)) (hy : y = (m : Int)) :
    Calls Try.prog 26 #[.pointer (some ⟨b, 0, none⟩), .int .i64 x, .int .i64 y, va, vl] w fun e w' => IsInv k (rowsF k (pl7 h)) (invF k (pl7 h)) ∧ MakesRs w 0 (encL m k (parF k) (decD k (invF k (pl7 h)) (pl7 h) L)) e w' := by
  subst hx hy
  obtain ⟨i1, hj, hy0, hy1, hy2⟩ := info_parts info_shard
  obtain ⟨a1, c1, rfl⟩ := hH.form
  obtain ⟨a2, c2, rfl⟩ := hL.form
  obtain ⟨s, hs⟩ : ∃ s, Hid (s = k + m) := ⟨_, rfl⟩
  have g1 : (k : Int) + (m : Int) = (s : Int) := by have := hs.out; omega
  have gw : IntKind.i64.wrap (s : Int) = (s : Int) := by have := hs.out; rw [IntKind.wrap_i64]; omega
  have p1 : Hid (h.length = s) := by show _ = _; have := hok.1; omega
  have p2 : Hid (L.length = s) := by show _ = _; have := hok.2.1; omega
  have E : evenB h L = true := evenB_yes hok.2.2
  have q0 : ((s : Int) != (s : Int)) = false := by simp
  have hl7 : Hid ((pls7 h k).length = k) := pls7_length hf
  have hth : Hid (∀ i, i < k → pl7 h i < L.length ∧ hb h (pl7 h i) = true) := fun i hi => by
    have := pl7_in (h := h) (i := i) (by omega)
    have q1 := p1.out
    have q2 := p2.out
    exact ⟨by omega, this.2⟩
  obtain ⟨n, hn⟩ : ∃ n, Hid (n = (ro L (pl7 h 0)).length) := ⟨_, rfl⟩
  have hn3 : n ≤ 300 := by rw [hn.out]; exact hS.2 _ (hth.out 0 (by omega)).2
  have hlen : Hid (∀ i, i < k → (ro L ((pls7 h k).getD i 0)).length = n) := fun i hi => by rw [pls7_getD hi, hn.out]; exact hok.2.2 _ _ (hth.out i hi).2 (hth.out 0 (by omega)).2
  have hin : Hid (∀ i, i < k → (pls7 h k).getD i 0 < L.length) := fun i hi => by rw [pls7_getD hi]; exact (hth.out i hi).1
  have hf' : Hid _ := hf
  clear hok hS hf
  rw [p1.out] at hH ⊢
  rw [p2.out] at hL ⊢
  go_enter Try.func26, Try.ntmps26
  go_wp2_with fail
  refine (cgen_ok k m hF h1 h2 rfl rfl).mono ?_
  rintro e w2 ⟨vs, rfl, hR, b2⟩
  have HG := hR
  obtain ⟨sa, sc, rfl⟩ := hR.form
  obtain ⟨N, hN⟩ : ∃ N, Hid (N = (flat (k + m) k (genF k)).length) := ⟨_, rfl⟩
  rw [← hN.out] at HG ⊢
  rw [show ((k + m : Nat) : Int) = (s : Int) by rw [hs.out]]
  have A2 : Below w2.heap.size w2 (w2.alloc (.cells #[.int .i64 (s : Int), .int .i64 (k : Int), .slice sa N sc] 74)) := (Below.refl _ _).alloc (Nat.le_refl _) _
  have B2 : Below w.heap.size w (w2.alloc (.cells #[.int .i64 (s : Int), .int .i64 (k : Int), .slice sa N sc] 74)) := below_lit b2 _
  have X2 := Box.new w2 (s : Int) (k : Int) (.slice sa N sc) 74
  have l2 : w2.heap.size < (w2.alloc (.cells #[.int .i64 (s : Int), .int .i64 (k : Int), .slice sa N sc] 74)).heap.size := by simp
  have hH2 := hH.below B2
  have hL2 := hL.below B2
  have hF2 := hF.below B2
  replace HG := HG.below A2
  clear hF hR b2 hH hL A2
  go_wp2_with fail
  refine (eone_any hH2 hL2 (by rw [p1.out, p2.out])).mono ?_
  rintro e w3 ⟨rfl, rfl⟩
  rw [E]
  clear E
  go_wp2_with fail
  refine (efirst_any hH2 (by omega) rfl).mono ?_
  rintro e w4 ⟨v4, rfl, hO4, b4⟩
  generalize w2.alloc (.cells #[.int .i64 (s : Int), .int .i64 (k : Int), .slice sa N sc] 74) = w3 at *
  have B4 := Below.next B2 b4
  have hL4 := hL2.below b4
  have hF4 := hF2.below b4
  have HG4 := HG.below b4
  have X4 := X2.below l2 b4
  have l4 : w2.heap.size < w4.heap.size := Nat.lt_of_lt_of_le l2 b4.size
  have hP4 := hO4.rd (by rw [hl7.out]; omega)
  obtain ⟨pa, pc, rfl⟩ := hO4.form
  rw [hl7.out] at hP4 ⊢
  have hge : ¬ (k : Int) < (k : Int) := by omega
  have x40 := X4.c0
  have x41 := X4.c1
  have x42 := X4.c2
  clear hO4 hH2 hL2 hF2 B2 b4 HG X2 l2
  go_wp2_with fail
  refine (eund_ok (k := k) (m := m) (h := h) hF4 ⟨_, by rw [hs.out], HG4⟩ hP4 h1 h2 (by rw [p1.out, hs.out]) hf'.out).mono ?_
  rintro e w5 ⟨hinv, vi5, rfl, hV5, b5⟩
  have hinv' : Hid _ := hinv
  clear hinv x40 x41 x42 X4
  have B5 := Below.next B4 b5
  have hL5 := hL4.below b5
  have hF5 := hF4.below b5
  have hP5 := hP4.below b5
  obtain ⟨ia, ic, rfl⟩ := hV5.form
  obtain ⟨I, hI⟩ : ∃ I, Hid (I = (flat k k (invF k (pl7 h))).length) := ⟨_, rfl⟩
  rw [← hI.out] at hV5 ⊢
  have A5 : Below w5.heap.size w5 (w5.alloc (.cells #[.int .i64 (k : Int), .int .i64 (k : Int), .slice ia I ic] 74)) := (Below.refl _ _).alloc (Nat.le_refl _) _
  have B6 : Below w.heap.size w (w5.alloc (.cells #[.int .i64 (k : Int), .int .i64 (k : Int), .slice ia I ic] 74)) := below_lit B5 _
  have hL6 := hL5.below A5
  have hF6 := hF5.below A5
  have hP6 := hP5.below A5
  have hV6 := hV5.below A5
  clear hL4 hF4 hP4 HG4 B4 b5 hL5 hF5 hP5 hV5 B5 A5 l4
  go_wp2_with fail
  refine (emak_any _).mono ?_
  rintro e w7 ⟨fb, mb, pb, sb, rfl, hM7, b7⟩
  generalize w5.alloc (.cells #[.int .i64 (k : Int), .int .i64 (k : Int), .slice ia I ic] 74) = w6 at *
  have HB7 : Hid _ := Below.next B6 b7
  have HL7 : Hid _ := hL6.below b7
  have HF7 : Hid _ := hF6.below b7
  have HP7 : Hid _ := hP6.below b7
  have HV7 : Hid _ := hV6.below b7
  have HM7 : Hid _ := hM7
  clear hL6 hF6 hP6 hV6 B6 b7 hM7
  go_wp2_with (at_make; go_loud (refine wpList_make_full _ rfl (.tmp 71) (.tmp 71) 36 rfl w7.heap.size 22 i1 (.slice none 0 0) 1 Try.underlying36 hj hy0 hy1 _ _ _ _ k rfl rfl (by omega) (by omega) (by rw [hy2]; omega) (by unfold maxLen; omega) (Nat.le_refl _) ?_); intro w8 hown8 hgrow8)
  have O8 : Hid (Os w8 w7.heap.size 22 5 (.slice (some ⟨w7.heap.size, 0, none⟩) k k) (decP k (invF k (pl7 h)) (pl7 h) L 0)) := by
    show Os _ _ _ _ _ _
    rw [decP_zero]
    exact Os.blank hown8 (fun y hy => by rw [Nat.mul_one, show Value.cells (.slice none 0 0) = #[.slice none 0 0] from rfl, toList_madeCells_one] at hy; exact List.eq_of_mem_replicate hy)
  have B8 : Hid (Below w7.heap.size w7 w8) := (Below.refl _ _).grown hgrow8 (Nat.le_refl _) (fun q hq => by cases hq)
  clear hown8 hgrow8
  obtain ⟨G, hG⟩ : ∃ G, Hid (G = w7.heap.size) := ⟨_, rfl⟩
  obtain ⟨B, hB⟩ : ∃ B, Hid (B = w7.heap.size) := ⟨_, rfl⟩
  rw [← hG.out]
  have O8' : Hid (Os w8 B 22 5 (.slice (some ⟨G, 0, none⟩) k k) (decP k (invF k (pl7 h)) (pl7 h) L 0)) := by show Os _ _ _ _ _ _; rw [hG.out, hB.out]; exact O8.out
  have B8' : Hid (Below B w7 w8) := by show Below _ _ _; rw [hB.out]; exact B8.out
  clear O8 B8
  go_wp2
  go_loopw [75] (fun i wr => ∃ r : Nat, r ≤ k ∧ i = .int .i64 r ∧ Os wr B 22 5 (.slice (some ⟨G, 0, none⟩) k k) (decP k (invF k (pl7 h)) (pl7 h) L r) ∧ Below B w7 wr) (fun i _ => k - (intOf i).toNat)
  case atStart => exact ⟨0, by omega, rfl, O8'.out, B8'.out⟩
  case round =>
    obtain ⟨r, hr, rfl, hO, hBw⟩ := hrel
    clear O8' B8'
    have bw : Below w7.heap.size w7 wr := by rw [← hB.out]; exact hBw
    by_cases hlt : r < k
    · have hlt' : (r : Int) < (k : Int) := by omega
      have hO' : Hid _ := hO
      have hBw' : Hid _ := hBw
      clear hO hBw
      go_wp2_with fail
      refine (emak1_any (zs := pls7 h k) (L := L) (n := n) (HF7.out.below bw) (HM7.out.below bw) (Rd.below HV7.out bw) (RdI.below HP7.out bw) hl7.out (Rs.below HL7.out bw) hin.out hlen.out hn3 (by omega) hlt rfl).mono ?_
      rintro e w9 ⟨g, rfl, hg, hR9, b9⟩
      have hdl : r < (decP k (invF k (pl7 h)) (pl7 h) L r).length := by rw [decP_length]; exact hlt
      obtain ⟨y, cy, fy, hG9, hBG, hGr⟩ := Os.spot hO'.out b9 hdl
      have hgG : g ≠ G := by omega
      have hsz : B ≤ wr.heap.size := by have := hB.out; have := hBw'.out.size; omega
      have R10 := OwnP.rowF ((hR9.base hsz).other (a := ⟨G, r, none⟩) hgG (.slice (some ⟨g, 0, none⟩) n n))
      rw [dsh_of hn.out.symm] at R10
      have HO : Hid (Os (w9.setCell ⟨G, r, none⟩ (.slice (some ⟨g, 0, none⟩) n n)) B 22 5 (.slice (some ⟨G, 0, none⟩) k k) (decP k (invF k (pl7 h)) (pl7 h) L (r + 1))) := by
        show Os _ _ _ _ _ _
        rw [← decP_step hlt]
        exact Os.put hO'.out b9 hdl rfl hg (Only.refl _ _) R10
      have HB : Hid (Below B w7 (w9.setCell ⟨G, r, none⟩ (.slice (some ⟨g, 0, none⟩) n n))) := (hBw'.out.trans (b9.mono hsz)).setCell (p := ⟨G, r, none⟩) hBG _
      clear hR9 b9 R10 hO' hBw' hdl
      go_wp2
      go_roundw
      case rel => exact ⟨r + 1, by omega, by go_num, HO.out, HB.out⟩
      case measure => simp [intOf]; omega
    · have hge2 : ¬ (r : Int) < (k : Int) := by omega
      have er : r = k := by omega
      rw [er, decP_all] at hO
      have hRs := hO.rs
      have BB := Below.next HB7.out bw
      clear er hO hBw
      go_wp2_with fail
      refine (enc_ok (HF7.out.below bw) h1 h2 hRs (decD_length _ _ _ _) (decD_even h1) (decD_small (by omega) (by rw [← hn.out]; exact hn3)) rfl rfl).mono ?_
      rintro e w9 ⟨v9, rfl, hR9, b9⟩
      obtain ⟨oa, oc, rfl⟩ := hR9.form
      have HBn : Hid (Below w.heap.size w w9) := Below.next BB b9
      generalize (encL m k (parF k) (decD k (invF k (pl7 h)) (pl7 h) L)).length = oL at *
      clear hRs b9 BB bw
      go_wp2
      exact bodyPost_ret (v := .tuple #[.slice oa oL oc, .int .i64 0]) (by simp [results, Try.results26, go_sem]) rfl ⟨hinv'.out, _, rfl, hR9, HBn.out⟩

/-- whatever comes in -/
theorem edec_any {b : Nat} {k m : Int} {va vl : Value} {h : List Bool} {L : List (List UInt8)} {w : World} (hF : FieldAt w b) (hH : RdB w va h) (hL : Rs w vl L) (hS : SmallH h L) :
    Calls Try.prog 26 #[.pointer (some ⟨b, 0, none⟩), .int .i64 k, .int .i64 m, va, vl] w fun e w' => (decX k m h L = 0 → ∀ q : Nat, k = (q : Int) → IsInv q (rowsF q (pl7 h)) (invF q (pl7 h))) ∧ MakesRs w (decX k m h L) (decR k m h L) e w' := by
  rcases dec_cases k m h L with c | ⟨c, d⟩ | ⟨c, d, f⟩ | ⟨c, d, f⟩
  · rw [(decX_bad c).1, (decX_bad c).2]
    exact (edec_bad hF c).mono fun e w' r => ⟨fun q => absurd q (by decide), r⟩
  · rw [(decX_shard c d).1, (decX_shard c d).2]
    obtain ⟨k, m, rfl, rfl, h1, h2⟩ := c.nat
    exact (edec_shard hF h1 h2 hH hL d rfl rfl).mono fun e w' r => ⟨fun q => absurd q (by decide), r⟩
  · rw [(decX_few c d f).1, (decX_few c d f).2]
    obtain ⟨k, m, rfl, rfl, h1, h2⟩ := c.nat
    exact (edec_few hF h1 h2 hH hL d (by omega) rfl rfl).mono fun e w' r => ⟨fun q => absurd q (by decide), r⟩
  · obtain ⟨k, m, rfl, rfl, h1, h2⟩ := c.nat
    rw [(decX_ok c d (by omega)).1, (decX_ok c d (by omega)).2]
    exact (edec_ok hF h1 h2 hH hL d hS (by omega) rfl rfl).mono fun e w' r => ⟨fun _ q hq => by rw [show q = k by omega]; exact r.1, r.2⟩

end Go.Proofs.Ytchfonofjbpmaaa.Gf

