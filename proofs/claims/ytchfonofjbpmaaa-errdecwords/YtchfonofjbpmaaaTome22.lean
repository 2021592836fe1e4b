/- TEXTS JOINED: WdFew, WdRefW. -/
import Derived.Test.YtchfonofjbpmaaaTome14
import Derived.Test.YtchfonofjbpmaaaTome11
import Derived.Test.YtchfonofjbpmaaaTome20
import Derived.Test.YtchfonofjbpmaaaTome8
import Derived.Test.YtchfonofjbpmaaaTome7
import Derived.Test.YtchfonofjbpmaaaTome16
/-
  'few' OF THE STATEMENTS OF LAYER 10 BY CONTRACT.
-/

namespace Go.Proofs.Ytchfonofjbpmaaa.Gf
set_option linter.unusedVariables false
set_option linter.unusedSimpArgs false
open Go.RowKit

def Few10 (w : World) (e : Ending) (w' : World) : Prop := ∃ t, e = .returned (.bool t) ∧ Below w.heap.size w w'

set_option maxRecDepth 100000 in
set_option maxHeartbeats 1000000 in
theorem few10_any (k m : Int) (w : World) : Calls Try.prog 11 #[.int .i64 k, .int .i64 m] w (Few10 w) := by
  by_cases ok : OkC k m
  · have gw : IntKind.i64.wrap (k + m) = k + m := by rw [IntKind.wrap_i64]; have := ok.1; have := ok.2.1; have := ok.2.2; omega
    go_enter Try.func11, Try.ntmps11
    go_wp2_with fail
    refine (ccheck_ok _ ok).mono ?_
    rintro e w2 ⟨rfl, b2⟩
    clear ok
    by_cases h9 : k + m ≤ 9
    · go_wp2
      go_ret
      exact ⟨_, rfl, b2⟩
    · go_wp2
      go_ret
      exact ⟨_, rfl, b2⟩
  · go_enter Try.func11, Try.ntmps11
    go_wp2_with fail
    refine (ccheck_bad _ ok).mono ?_
    rintro e w2 ⟨rfl, b2⟩
    clear ok
    go_wp2
    go_ret
    exact ⟨_, rfl, b2⟩

end Go.Proofs.Ytchfonofjbpmaaa.Gf

/-
  THE DOCUMENT's ANSWER FOR LAYER 10 (package aumbryref10) BY CONTRACT: 'Word'.
-/



namespace Go.Proofs.Ytchfonofjbpmaaa.Gf
set_option linter.unusedVariables false
set_option linter.unusedSimpArgs false
open Go.RowKit

/-- what is left: a word, places, an error -/
def MakesW10 (w : World) (X : Int) (R : List UInt8) (P : List Nat) (e : Ending) (w' : World) : Prop := ∃ va vd, e = .returned (.tuple #[va, vd, .int .i64 X]) ∧ Rd w' va R ∧ OwnI w' w.heap.size 3 vd P ∧ Below w.heap.size w w' ∧ Far w.heap.size va
theorem nilW10 {w w' : World} {x : Int} (b : Below w.heap.size w w') {X : Int} {R : List UInt8} {P : List Nat} (h : X = x ∧ R = [] ∧ P = []) : MakesW10 w X R P (.returned (.tuple #[.slice none 0 0, .slice none 0 0, .int .i64 x])) w' := by
  obtain ⟨rfl, rfl, rfl⟩ := h
  exact ⟨_, _, rfl, Or.inl ⟨none, 0, rfl, rfl, Nat.zero_le _, fun _ => rfl⟩, OwnI.nil _ _ _, b, far_none⟩

/-- a set of places, as it lies in memory -/
def gW10 (v : Value) (w : World) (i : Nat) : Nat :=
  match v with
  | .slice (some a) _ _ => (intOf ((w.cell? ⟨a.block, i, none⟩).getD undef)).toNat
  | _ => 0
/-- how many sets are still ahead, at most -/
def mea10 (s r : Nat) (o : Value) (mo : Value) (w : World) : Nat :=
  match mo with
  | .bool true => (s + 1) ^ r - rkF s (gW10 o w) r
  | _ => 0
theorem mea_t (s r : Nat) (o : Value) (w : World) : mea10 s r o (.bool true) w = (s + 1) ^ r - rkF s (gW10 o w) r := rfl
theorem mea_f (s r : Nat) (o : Value) (w : World) : mea10 s r o (.bool false) w = 0 := rfl
theorem rk_congr {n : Nat} {g h : Nat → Nat} {t : Nat} (e : ∀ i, i < t → g i = h i) : rkF n g t = rkF n h t := by
  induction t with
  | zero => rfl
  | succ t ih => rw [rkF, rkF, ih fun i hi => e i (by omega), e t (by omega)]
theorem rk_own {w : World} {base e n t : Nat} {v : Value} {g : Nat → Nat} (h : OwnI w base e v (stL g t)) : rkF n (gW10 v w) t = rkF n g t := by
  obtain ⟨a, c, rfl⟩ := h.form
  refine rk_congr fun i hi => ?_
  obtain ⟨q, rfl, _, _, hc⟩ := h.cell (i := i) (by rw [stL_length]; exact hi)
  rw [stL_getD hi] at hc
  show (intOf ((w.cell? ⟨q, i, none⟩).getD undef)).toNat = g i
  rw [hc]
  simp [intOf]
set_option maxRecDepth 100000 in
set_option maxHeartbeats 4000000 in
theorem rword_main {k m s : Nat} {v vm : Value} {z : List UInt8} {ms : List Bool} {w : World} (h1 : 1 ≤ k) (h2 : k + m ≤ 256) (hz : Rd w v z) (hM : RdB w vm ms) (hs0 : s = k + m) (p1 : z.length = s) (p2 : ms.length = s) :
    Calls Try.prog 13 #[.int .i64 (k : Int), .int .i64 (m : Int), v, vm] w (MakesW10 w (wdX k m z ms) (wdR k m z ms) (wdP k m z ms)) := by
  have ok : OkC (k : Int) (m : Int) := ⟨by omega, by omega, by omega⟩
  obtain ⟨i0, hi, hz0, hz1, hz2⟩ := info_parts info_int
  obtain ⟨za, zc, rfl⟩ := hz.form
  obtain ⟨ma, mc, rfl⟩ := hM.form
  have g1 : (k : Int) + (m : Int) = (s : Int) := by omega
  have gw : IntKind.i64.wrap (s : Int) = (s : Int) := by rw [IntKind.wrap_i64]; omega
  have q1 : ((z.length : Int) != (s : Int)) = false := by simp [p1]
  have q2 : ((ms.length : Int) != (s : Int)) = false := by simp [p2]
  have p1' : Hid _ := p1
  have p2' : Hid _ := p2
  have hs0' : Hid _ := hs0
  clear p1 p2 hs0
  go_enter Try.func13, Try.ntmps13
  go_wp2_with fail
  refine (rccheck_ok _ ok).mono ?_
  rintro e u1 ⟨rfl, rfl⟩
  go_wp2_with fail
  refine (rcnt_any hM).mono ?_
  rintro e u2 ⟨rfl, rfl⟩
  obtain ⟨e0, he0⟩ : ∃ e0, Hid (e0 = cnt (hb ms) ms.length) := ⟨_, rfl⟩
  rw [← he0.out]
  have he2 : e0 ≤ 256 := by rw [he0.out]; have := cnt_le (hb ms) ms.length; have := p2'.out; have := hs0'.out; omega
  go_wp2_with fail
  go_loopw [13] (fun x wr => ∃ t : Nat, t ≤ m + 1 ∧ x = .int .i64 (t : Int) ∧ Below u2.heap.size u2 wr ∧ Hid (∀ t' g, t' < t → Inc s t' g → Vain k m z ms t' g)) (fun x _ => m + 1 - (intOf x).toNat)
  case atStart => exact ⟨0, by omega, rfl, Below.refl _ _, fun t' g h => by omega⟩
  case round =>
    obtain ⟨t, ht, rfl, hB, hV⟩ := hrel
    have gt1 : IntKind.i64.wrap (2 * (t : Int)) = 2 * (t : Int) := by rw [IntKind.wrap_i64]; omega
    have gt2 : IntKind.i64.wrap (2 * (t : Int) + (e0 : Int)) = 2 * (t : Int) + (e0 : Int) := by rw [IntKind.wrap_i64]; omega
    by_cases hle : 2 * t + e0 ≤ m
    · have hle' : 2 * (t : Int) + (e0 : Int) ≤ (m : Int) := by omega
      obtain ⟨wo, hwo⟩ : ∃ wo, wo = wr := ⟨_, rfl⟩
      subst hwo
      go_wp2_with fail
      go_loopw [14, 15] (fun o i wz => ∃ r : Nat, r ≤ t ∧ i = .int .i64 (r : Int) ∧ OwnI wz u2.heap.size 3 o (stL (fun j => j) r) ∧ Below u2.heap.size u2 wz) (fun _ i _ => t - (intOf i).toNat)
      case atStart => exact ⟨0, by omega, rfl, OwnI.nil _ _ _, hB⟩
      case round =>
        obtain ⟨r, hr, rfl, hO, hB2⟩ := hrel
        have hsz := hB2.size
        have hsl : Hid _ := stL_length (fun j => j) r
        obtain ⟨av, cv, ev⟩ := hO.form
        rw [hsl.out] at ev
        subst ev
        by_cases hlt : r < t
        · have hlt' : (r : Int) < (t : Int) := by omega
          have E' : Hid _ := stL_succ (fun j => j) r
          clear hz hM hB
          go_wp2_with (at_builtin; go_loud (refine wpList_append_int rfl (.tmp 57) (.tmp 59) 28 rfl u2.heap.size 3 i0 Try.underlying28 hi hz0 hz1 hz2 (.slice av r cv) (stL (fun j => j) r) rfl hO r _ 1 rfl (by rw [hsl.out]; omega) hsz ?_); intro v' w9 hv2 hb2)
          have HO : Hid (OwnI w9 u2.heap.size 3 v' (stL (fun j => j) (r + 1))) := by show OwnI _ _ _ _ _; rw [E'.out]; exact hv2
          have HB : Hid (Below u2.heap.size u2 w9) := hB2.trans hb2
          clear hO hv2 hb2 hB2
          go_wp2
          go_roundw
          case rel => exact ⟨r + 1, by omega, by go_num, HO.out, HB.out⟩
          case measure => simp [intOf]; omega
        · have hge : ¬ (r : Int) < (t : Int) := by omega
          have er : r = t := by omega
          subst er
          obtain ⟨wp, hwp⟩ : ∃ wp, wp = wr := ⟨_, rfl⟩
          subst hwp
          have hrs : r ≤ s := by have := hs0'.out; omega
          go_wp2_with fail
          go_loopw [14, 16] (fun o mo wz => Below u2.heap.size u2 wz ∧ ((mo = .bool true ∧ ∃ g, Hid (Inc s r g) ∧ OwnI wz u2.heap.size 3 o (stL g r) ∧ Hid (∀ T, Inc s r T → Lx r T g → Vain k m z ms r T)) ∨ (mo = .bool false ∧ (∃ oa on oc, o = .slice oa on oc) ∧ Hid (∀ T, Inc s r T → Vain k m z ms r T)))) (fun o mo wz => mea10 s r o mo wz)
          case atStart => exact ⟨hB2, Or.inl ⟨rfl, fun j => j, first_inc hrs, hO, fun T hT hl => absurd hl (nx_first hT)⟩⟩
          case round =>
            clear hO
            obtain ⟨hB3, ⟨rfl, g, hI, hO, hT⟩ | ⟨rfl, ⟨oa, on, oc, rfl⟩, hT⟩⟩ := hrel
            · have hlen : Hid _ := stL_length g r
              obtain ⟨av, cv, ev⟩ := hO.form
              rw [hlen.out] at ev
              subst ev
              have R1 := hO.rd (by rw [hlen.out]; omega)
              have hrk : Hid (rkF s (gW10 (.slice av r cv) wr) r = rkF s g r) := rk_own hO
              have hlt9 : Hid (rkF s g r < (s + 1) ^ r) := rk_lt fun i hi => Nat.le_of_lt (hI.out.lt i hi)
              have C1 := rtried_any (T := stL g r) h1 h2 (by rw [p1'.out, hs0'.out]) (by rw [p2'.out, hs0'.out]) (hz.below hB3) (hM.below hB3) R1 (fun i hi9 => by rw [hlen.out] at hi9; rw [stL_getD hi9, ← hs0'.out]; exact hI.out.lt i hi9) (by rw [hlen.out, ← hs0'.out, ← p2'.out, ← he0.out]; omega) rfl rfl
              by_cases hd : cnt (tryW k m z ms (stL g r)) (k + m) ≤ (stL g r).length
              · rw [decide_eq_true hd] at C1
                have hN := try_near h1 h2 (show ms.length = k + m by rw [p2'.out, hs0'.out]) (show z.length = k + m by rw [p1'.out, hs0'.out]) (T := stL g r) (by rw [hlen.out, ← hs0'.out, ← p2'.out, ← he0.out]; exact hle) hd
                have hW := wd_ok ok ⟨by rw [p1'.out, g1], by rw [p2'.out, g1]⟩ hN
                have hLe := try_len h1 (hs := wth ms (stL g r)) (z := z) (by rw [wth_length, p2'.out, hs0'.out]) (by rw [p1'.out, hs0'.out]) (wth_there (by rw [p2'.out, hs0'.out]) (by rw [hlen.out, ← hs0'.out, ← p2'.out, ← he0.out]; omega))
                have EE : Hid (wdX k m z ms = 0 ∧ wdR k m z ms = tryL k m (wth ms (stL g r)) z ∧ wdP k m z ms = plc (tryW k m z ms (stL g r)) (k + m)) := ⟨hW.1, hW.2.1.trans (by rw [← hLe]; exact upto_co _), hW.2.2⟩
                clear hW hLe hN hd hT hV hI hrk hlt9 R1 hO hz hM hB2 hB
                go_wp2_with fail
                refine C1.mono ?_
                rintro e w9 ⟨va, vd, rfl, Ra, Rd9, b9, f9⟩
                obtain ⟨aa, ac, rfl⟩ := Ra.form
                obtain ⟨da, dc, rfl⟩ := Rd9.form
                have HR : Hid (Rd w9 _ _ ∧ OwnI w9 u2.heap.size 3 _ _ ∧ Below u2.heap.size u2 w9 ∧ Far u2.heap.size _) := And.intro Ra (And.intro (ownsRow_base Rd9 hB3.size) (And.intro (Below.next hB3 b9) (f9.mono hB3.size)))
                clear f9 Ra Rd9 b9 hB3 C1
                go_wp2
                exact bodyPost_ret (v := .tuple #[.slice aa (tryL k m (wth ms (stL g r)) z).length ac, .slice da (plc (tryW k m z ms (stL g r)) (k + m)).length dc, .int .i64 0]) (by simp [results, Try.results13, go_sem]) rfl ⟨_, _, by rw [EE.out.1], by rw [EE.out.2.1]; exact HR.out.1, by rw [EE.out.2.2]; exact HR.out.2.1, HR.out.2.2.1, HR.out.2.2.2⟩
              · rw [decide_eq_false hd] at C1
                have HVn : Hid (Vain k m z ms r g) := by
                  show r < cnt (tryW k m z ms (stL g r)) (k + m)
                  rw [hlen.out] at hd
                  omega
                clear hd
                go_wp2_with fail
                refine C1.mono ?_
                rintro e w9 ⟨va, vd, rfl, Ra, Rd9, b9, f9⟩
                obtain ⟨aa, ac, rfl⟩ := Ra.form
                obtain ⟨da, dc, rfl⟩ := Rd9.form
                have hO9 : OwnI w9 u2.heap.size 3 (.slice av r cv) (stL g r) := owns_later hO b9
                have B9 := Below.next hB3 b9
                clear f9 Ra Rd9 b9 C1 R1 hO
                generalize (tryL k m (wth ms (stL g r)) z).length = n1
                generalize (plc (tryW k m z ms (stL g r)) (k + m)).length = n2
                have C2 := rnext_any hO9 hI.out (by omega) (by omega) (x := (s : Int)) rfl
                go_wp2_with fail
                refine C2.mono ?_
                rintro e w8 ⟨b8, h8⟩
                have B8 := Below.next B9 b8
                rcases h8 with ⟨i, hi1, hi2, hi3, v8, rfl, O8⟩ | ⟨hi3, rfl⟩
                · have O8' : OwnI w8 u2.heap.size 3 v8 (stL (nxF g i) r) := ownsRow_base O8 B9.size
                  obtain ⟨na, nc, ev⟩ := O8'.form
                  rw [stL_length] at ev
                  subst ev
                  have HI : Hid _ := nx_inc hI.out hi1 hi2
                  have HT : Hid _ := tried_next (Bad := Vain k m z ms r) hi1 hi3 (fun a b e h => h.congr e) hT.out HVn.out
                  have HRk : Hid (rkF s (gW10 (.slice na r nc) w8) r = rkF s (nxF g i) r) := rk_own O8'
                  have HLt : Hid (rkF s g r < rkF s (nxF g i) r) := rk_lx (fun j hj => Nat.le_of_lt (hI.out.lt j hj)) (nx_lx hi1)
                  have HL2 : Hid (rkF s (nxF g i) r < (s + 1) ^ r) := rk_lt fun j hj => Nat.le_of_lt (HI.out.lt j hj)
                  have HO : Hid _ := O8'
                  have HB : Hid _ := B8
                  clear O8 O8' C2 b8 B8 B9 hO9 hi1 hi2 hi3 hT hI
                  go_wp2
                  go_roundw
                  case rel => exact ⟨HB.out, Or.inl ⟨rfl, _, HI, HO.out, HT⟩⟩
                  case measure =>
                    show mea10 s r (.slice na r nc) (.bool true) w8 < mea10 s r (.slice av r cv) (.bool true) wr
                    rw [mea_t, mea_t, HRk.out, hrk.out]
                    have := HLt.out
                    have := HL2.out
                    omega
                · have HT : Hid _ := tried_all (Bad := Vain k m z ms r) hi3 (fun a b e h => h.congr e) hT.out HVn.out
                  have HB : Hid _ := B8
                  clear C2 b8 B8 B9 hO9 hi3 hT hI
                  go_wp2
                  go_roundw
                  case rel => exact ⟨HB.out, Or.inr ⟨rfl, ⟨_, _, _, rfl⟩, HT⟩⟩
                  case measure =>
                    show mea10 s r (.slice none 0 0) (.bool false) w8 < mea10 s r (.slice av r cv) (.bool true) wr
                    rw [mea_t, mea_f, hrk.out]
                    have := hlt9.out
                    omega
            · have HV : Hid (∀ t' g, t' < r + 1 → Inc s t' g → Vain k m z ms t' g) := fun t' g h hi9 => by
                by_cases q : t' = r
                · rw [q] at hi9 ⊢; exact hT.out g hi9
                · exact hV.out t' g (by omega) hi9
              clear hT hV hz hM hB2 hB
              go_wp2
              go_roundw
              case rel => exact ⟨r + 1, by omega, by go_num, hB3, HV⟩
              case measure => simp [intOf]; omega
    · have hle' : ¬ 2 * (t : Int) + (e0 : Int) ≤ (m : Int) := by omega
      have EE : Hid _ := wd_many (z := z) (ms := ms) ok ⟨by rw [p1'.out, g1], by rw [p2'.out, g1]⟩ (vain_none h1 h2 (by rw [p2'.out, hs0'.out]) (by rw [p1'.out, hs0'.out]) (fun t' g h hi => by
        refine hV.out t' g ?_ (by rw [hs0'.out]; exact hi)
        rw [← hs0'.out, ← p2'.out, ← he0.out] at h
        omega))
      clear hV hz hM
      go_wp2
      exact bodyPost_ret (v := .tuple #[.slice none 0 0, .slice none 0 0, .int .i64 100]) (by simp [results, Try.results13, go_sem]) rfl (nilW10 hB EE.out)

set_option maxRecDepth 100000 in
set_option maxHeartbeats 2000000 in
theorem rword_any {k m : Int} {v vm : Value} {z : List UInt8} {ms : List Bool} {w : World} (hz : Rd w v z) (hM : RdB w vm ms) : Calls Try.prog 13 #[.int .i64 k, .int .i64 m, v, vm] w (MakesW10 w (wdX k m z ms) (wdR k m z ms) (wdP k m z ms)) := by
  by_cases c : OkC k m
  · obtain ⟨k, m, rfl, rfl, h1, h2⟩ := c.nat
    obtain ⟨s, hs⟩ : ∃ s, Hid (s = k + m) := ⟨_, rfl⟩
    by_cases p1 : z.length = s
    · by_cases p2 : ms.length = s
      · exact rword_main h1 h2 hz hM hs.out p1 p2
      · have EE : Hid _ := wd_shard (z := z) (ms := ms) c (fun h => p2 (by have := h.2; have := hs.out; omega))
        obtain ⟨za, zc, rfl⟩ := hz.form
        obtain ⟨ma, mc, rfl⟩ := hM.form
        have g1 : (k : Int) + (m : Int) = (s : Int) := by have := hs.out; omega
        have gw : IntKind.i64.wrap (s : Int) = (s : Int) := by have := hs.out; rw [IntKind.wrap_i64]; omega
        have q1 : ((z.length : Int) != (s : Int)) = false := by simp [p1]
        have q2 : ((ms.length : Int) != (s : Int)) = true := by simp; omega
        clear p1 p2 hz hM
        go_enter Try.func13, Try.ntmps13
        go_wp2_with fail
        refine (rccheck_ok _ c).mono ?_
        rintro e u1 ⟨rfl, rfl⟩
        clear c
        go_wp2
        exact bodyPost_ret (v := .tuple #[.slice none 0 0, .slice none 0 0, .int .i64 60]) (by simp [results, Try.results13, go_sem]) rfl (nilW10 (Below.refl _ _) EE.out)
    · have EE : Hid _ := wd_shard (z := z) (ms := ms) c (fun h => p1 (by have := h.1; have := hs.out; omega))
      obtain ⟨za, zc, rfl⟩ := hz.form
      obtain ⟨ma, mc, rfl⟩ := hM.form
      have g1 : (k : Int) + (m : Int) = (s : Int) := by have := hs.out; omega
      have gw : IntKind.i64.wrap (s : Int) = (s : Int) := by have := hs.out; rw [IntKind.wrap_i64]; omega
      have q1 : ((z.length : Int) != (s : Int)) = true := by simp; omega
      clear p1 hz hM
      go_enter Try.func13, Try.ntmps13
      go_wp2_with fail
      refine (rccheck_ok _ c).mono ?_
      rintro e u1 ⟨rfl, rfl⟩
      clear c
      go_wp2
      exact bodyPost_ret (v := .tuple #[.slice none 0 0, .slice none 0 0, .int .i64 60]) (by simp [results, Try.results13, go_sem]) rfl (nilW10 (Below.refl _ _) EE.out)
  · have EE : Hid _ := wd_bad (z := z) (ms := ms) c
    obtain ⟨za, zc, rfl⟩ := hz.form
    obtain ⟨ma, mc, rfl⟩ := hM.form
    clear hz hM
    go_enter Try.func13, Try.ntmps13
    go_wp2_with fail
    refine (rccheck_bad _ c).mono ?_
    rintro e u1 ⟨rfl, rfl⟩
    clear c
    go_wp2
    exact bodyPost_ret (v := .tuple #[.slice none 0 0, .slice none 0 0, .int .i64 50]) (by simp [results, Try.results13, go_sem]) rfl (nilW10 (Below.refl _ _) EE.out)

end Go.Proofs.Ytchfonofjbpmaaa.Gf

