/- TEXTS JOINED: VoRefC. -/
import Derived.Test.YtgahaebfgmbckaaGreatTome29
import Derived.Test.YtgahaebfgmbckaaGreatTome37
namespace Go.Proofs.YtgahaebfgmbckaaGreat.Gf
set_option linter.unusedVariables false
set_option linter.unusedSimpArgs false
open Go.RowKit
/-- a vote is told, its data one of those that were said -/
def OneV (L : List SaV) (vd : Value) : Prop := vd = .slice none 0 0 ∨ ∃ c, c ∈ L ∧ vd = c.vs
def Votes17 (w : World) (L : List SaV) (v : VoS) (e : Ending) (w' : World) : Prop := ∃ vd, e = .returned (aggV v vd) ∧ Rd w vd v.da ∧ OneV L vd ∧ Below w.heap.size w w'
theorem votV_is {S : List SaS} {K : List Bool} {r : Nat} (hi : (sF S r).is = false) : votV S K (r + 1) = { votV S K r with wi := wiF S K (r + 1) } := by
  rw [votV, if_neg fun k => by rw [hi] at k; exact absurd k.1 (by decide)]
theorem votV_no {S : List SaS} {K : List Bool} {r : Nat} (hb : betV (votV S K r) (sF S r).ep (sF S r).da (cpV S (sF S r).ep (sF S r).da) = false) : votV S K (r + 1) = { votV S K r with wi := wiF S K (r + 1) } := by
  rw [votV, if_neg fun k => by rw [hb] at k; exact absurd k.2 (by decide)]
theorem votV_yes {S : List SaS} {K : List Bool} {r : Nat} (hi : (sF S r).is = true) (hb : betV (votV S K r) (sF S r).ep (sF S r).da (cpV S (sF S r).ep (sF S r).da) = true) : votV S K (r + 1) = ⟨true, (sF S r).ep, (sF S r).da, cpV S (sF S r).ep (sF S r).da, wiF S K (r + 1)⟩ := by
  rw [votV, if_pos ⟨hi, hb⟩]
/-- a vote in its variable, and what a disk says beside it -/
structure SeeV (w1 : World) (g b o : Nat) (W : World) (V : VoS) (vd : Value) (c : SaV) : Prop where
  bx : BoxV w1 g W V vd
  z0 : W.cell? ⟨b, o, none⟩ = some (.bool c.s.is)
  z1 : W.cell? ⟨b, o + 1, none⟩ = some (.bool c.s.no)
  z2 : W.cell? ⟨b, o + 2, none⟩ = some (.int .i64 c.s.ep)
  z3 : W.cell? ⟨b, o + 3, none⟩ = some c.vs
theorem SeeV.drewN {w1 : World} {g b o : Nat} {W : World} {V : VoS} {vd : Value} {c : SaV} (h : SeeV w1 g b o W V vd c) (n : Nat) : SeeV w1 g b o (W.drewN n) V vd c := ⟨h.bx.drewN n, h.z0, h.z1, h.z2, h.z3⟩
theorem SeeV.set {w1 : World} {g b o : Nat} {W : World} {V V' : VoS} {vd vd' : Value} {c : SaV} {j : Nat} {x : Value} (h : SeeV w1 g b o W V vd c) (hb : b ≠ g) (k : BoxV w1 g (W.setCell ⟨g, j, none⟩ x) V' vd') : SeeV w1 g b o (W.setCell ⟨g, j, none⟩ x) V' vd' c := by
  have o1 : Only g W (W.setCell ⟨g, j, none⟩ x) := (Only.refl _ _).setCell _ _
  exact ⟨k, (o1.cell (p := ⟨b, o, none⟩) hb).trans h.z0, (o1.cell (p := ⟨b, o + 1, none⟩) hb).trans h.z1, (o1.cell (p := ⟨b, o + 2, none⟩) hb).trans h.z2, (o1.cell (p := ⟨b, o + 3, none⟩) hb).trans h.z3⟩
/-- the round's end, the vote as it was (but for the witness) -/
theorem vt_keep {p : Prop} (h : p := by
  go_wp2
  go_roundw
  case rel => exact ⟨r + 1, _, by omega, by go_num, BE.out, RE.out, OV⟩
  case measure => simp [intOf]; omega) : p := h
/-- a better one is put into the variable -/
theorem vt_put {p : Prop} (h : p := by
  have BP : Hid (BoxV w1 g ((((Wd.setCell ⟨g, 0, none⟩ (.bool true)).setCell ⟨g, 1, none⟩ (.int .i64 se)).setCell ⟨g, 2, none⟩ (.slice va sd.length vc)).setCell ⟨g, 3, none⟩ (.int .i64 ((n : Nat) : Int))) (votV S K (r + 1)) (.slice va sd.length vc)) := by show BoxV _ _ _ _ _; rw [EY.out]; exact ST.bx.put se (.slice va sd.length vc) n sd
  have RP : Hid (Rd w (.slice va sd.length vc) (votV S K (r + 1)).da) := by show Rd _ _ _; rw [EY.out]; exact Rv.out
  have f0 := fz 0
  have f1 := fz 1
  have f2 := fz 2
  have f3 := fz 3
  clear ST WI CP XS XV NO YF HR Rv EY fz
  go_wp2
  go_roundw
  case rel => exact ⟨r + 1, _, by omega, by go_num, BP.out, RP.out, ON⟩
  case measure => simp [intOf]; omega) : p := h
/-- it stays -/
theorem vt_stay {p : Prop} (h : p := by
  have BE : Hid (BoxV w1 g Wd (votV S K (r + 1)) (.slice da vda.length dc)) := by show BoxV _ _ _ _ _; rw [EN.out]; exact ST.bx
  have RE : Hid (Rd w (.slice da vda.length dc) (votV S K (r + 1)).da) := by show Rd _ _ _; rw [EN.out]; exact HR.out
  clear ST WI CP XS XV NO YF HR Rv EN
  exact vt_keep) : p := h
/-- a disk says something: how often, and is it better? -/
theorem vt_tail {p : Prop} (h : p := by
  have KC := CP.out Wc ST.bx.on
  obtain ⟨⟨c0, c1, c2, c3, c4, fz, on⟩, z0, z1, z2, z3⟩ := id ST
  simp only at c0 c1 c2 c3 c4 z0 z1 z2 z3
  try go_wp2_with fail
  go_quiet ((go_at_call 75; go_loud (exact Calls.quiet_of (KC _))))
  clear KC c0 c1 c2 c3 c4 fz on z0 z1 z2 z3
  replace ST := ST.drewN nq
  generalize Wc.drewN nq = Wd at ST
  obtain ⟨⟨c0, c1, c2, c3, c4, fz, on⟩, z0, z1, z2, z3⟩ := id ST
  simp only at c0 c1 c2 c3 c4 z0 z1 z2 z3
  cases vh with
  | false =>
    have EY : Hid (votV S K (r + 1) = ⟨true, se, sd, n, vx⟩) := YF.out vx (bet_no rfl _ _ _) W1.out
    go_wp2_with fail
    go_quiet (fail)
    clear c0 c1 c2 c3 c4 fz on z0 z1 z2 z3
    replace ST := ST.drewN nq
    generalize Wd.drewN nq = Wx at ST
    clear nq
    obtain ⟨Wd, hWd⟩ : ∃ X, X = Wx := ⟨_, rfl⟩
    subst hWd
    obtain ⟨⟨c0, c1, c2, c3, c4, fz, on⟩, z0, z1, z2, z3⟩ := id ST
    simp only at c0 c1 c2 c3 c4 z0 z1 z2 z3
    go_wp2_with fail
    go_quiet (fail)
    clear c0 c1 c2 c3 c4 fz on z0 z1 z2 z3
    replace ST := ST.drewN nq
    generalize Wd.drewN nq = Wx at ST
    clear nq
    obtain ⟨Wd, hWd⟩ : ∃ X, X = Wx := ⟨_, rfl⟩
    subst hWd
    obtain ⟨⟨c0, c1, c2, c3, c4, fz, on⟩, z0, z1, z2, z3⟩ := id ST
    simp only at c0 c1 c2 c3 c4 z0 z1 z2 z3
    exact vt_put
  | true =>
    by_cases q1 : ve < se
    · have EY : Hid (votV S K (r + 1) = ⟨true, se, sd, n, vx⟩) := YF.out vx ((bet_gt rfl).2 (Or.inl q1)) W1.out
      have d1 : decide (se > ve) = true := decide_eq_true q1
      have d2 : decide (ve < se) = true := decide_eq_true q1
      have d3 : (se == ve) = false := beq_eq_false_iff_ne.2 (by omega)
      have d4 : ¬ se = ve := by omega
      go_wp2_with fail
      go_quiet (fail)
      clear c0 c1 c2 c3 c4 fz on z0 z1 z2 z3
      replace ST := ST.drewN nq
      generalize Wd.drewN nq = Wx at ST
      clear nq
      obtain ⟨Wd, hWd⟩ : ∃ X, X = Wx := ⟨_, rfl⟩
      subst hWd
      obtain ⟨⟨c0, c1, c2, c3, c4, fz, on⟩, z0, z1, z2, z3⟩ := id ST
      simp only at c0 c1 c2 c3 c4 z0 z1 z2 z3
      go_wp2_with fail
      go_quiet (fail)
      clear c0 c1 c2 c3 c4 fz on z0 z1 z2 z3
      replace ST := ST.drewN nq
      generalize Wd.drewN nq = Wx at ST
      clear nq
      obtain ⟨Wd, hWd⟩ : ∃ X, X = Wx := ⟨_, rfl⟩
      subst hWd
      obtain ⟨⟨c0, c1, c2, c3, c4, fz, on⟩, z0, z1, z2, z3⟩ := id ST
      simp only at c0 c1 c2 c3 c4 z0 z1 z2 z3
      exact vt_put
    have d1 : decide (se > ve) = false := decide_eq_false q1
    have d2 : decide (ve < se) = false := decide_eq_false q1
    by_cases q2 : se = ve
    rotate_left
    · have EN : Hid (votV S K (r + 1) = ⟨true, ve, vda, vco, vx⟩) := NO.out vx (by
        cases e : betV ⟨true, ve, vda, vco, vw⟩ se sd n with
        | false => rfl
        | true =>
          rcases (bet_gt rfl).1 e with k | ⟨k, _⟩
          · exact absurd k q1
          · exact absurd k q2) W1.out
      have d3 : (se == ve) = false := beq_eq_false_iff_ne.2 q2
      go_wp2_with fail
      go_quiet (fail)
      clear c0 c1 c2 c3 c4 fz on z0 z1 z2 z3
      replace ST := ST.drewN nq
      generalize Wd.drewN nq = Wx at ST
      clear nq
      obtain ⟨Wd, hWd⟩ : ∃ X, X = Wx := ⟨_, rfl⟩
      subst hWd
      obtain ⟨⟨c0, c1, c2, c3, c4, fz, on⟩, z0, z1, z2, z3⟩ := id ST
      simp only at c0 c1 c2 c3 c4 z0 z1 z2 z3
      go_wp2_with fail
      go_quiet (fail)
      clear c0 c1 c2 c3 c4 fz on z0 z1 z2 z3
      replace ST := ST.drewN nq
      generalize Wd.drewN nq = Wx at ST
      clear nq
      obtain ⟨Wd, hWd⟩ : ∃ X, X = Wx := ⟨_, rfl⟩
      subst hWd
      obtain ⟨⟨c0, c1, c2, c3, c4, fz, on⟩, z0, z1, z2, z3⟩ := id ST
      simp only at c0 c1 c2 c3 c4 z0 z1 z2 z3
      exact vt_stay
    subst q2
    have BG : Hid (betV ⟨true, se, vda, vco, vw⟩ se sd n = true ↔ (vco < n ∨ (n = vco ∧ Op.bytesLess sd vda = true))) := by
      refine (bet_gt rfl).trans ⟨fun k => ?_, fun k => Or.inr ⟨rfl, k⟩⟩
      rcases k with k | ⟨_, k⟩
      · exact absurd k q1
      · exact k
    go_wp2_with fail
    go_quiet (fail)
    clear c0 c1 c2 c3 c4 fz on z0 z1 z2 z3
    replace ST := ST.drewN nq
    generalize Wd.drewN nq = Wx at ST
    clear nq
    obtain ⟨Wd, hWd⟩ : ∃ X, X = Wx := ⟨_, rfl⟩
    subst hWd
    obtain ⟨⟨c0, c1, c2, c3, c4, fz, on⟩, z0, z1, z2, z3⟩ := id ST
    simp only at c0 c1 c2 c3 c4 z0 z1 z2 z3
    go_wp2_with fail
    go_quiet (fail)
    clear c0 c1 c2 c3 c4 fz on z0 z1 z2 z3
    replace ST := ST.drewN nq
    generalize Wd.drewN nq = Wx at ST
    clear nq
    obtain ⟨Wd, hWd⟩ : ∃ X, X = Wx := ⟨_, rfl⟩
    subst hWd
    obtain ⟨⟨c0, c1, c2, c3, c4, fz, on⟩, z0, z1, z2, z3⟩ := id ST
    simp only at c0 c1 c2 c3 c4 z0 z1 z2 z3
    by_cases q3 : vco < n
    · have EY : Hid (votV S K (r + 1) = ⟨true, se, sd, n, vx⟩) := YF.out vx (BG.out.2 (Or.inl q3)) W1.out
      have d3 : decide ((n : Int) > (vco : Int)) = true := decide_eq_true (by omega)
      have d4 : decide ((vco : Int) < (n : Int)) = true := decide_eq_true (by omega)
      have d5 : (vco : Int) < (n : Int) := by omega
      clear BG
      go_wp2_with fail
      go_quiet (fail)
      clear c0 c1 c2 c3 c4 fz on z0 z1 z2 z3
      replace ST := ST.drewN nq
      generalize Wd.drewN nq = Wx at ST
      clear nq
      obtain ⟨Wd, hWd⟩ : ∃ X, X = Wx := ⟨_, rfl⟩
      subst hWd
      obtain ⟨⟨c0, c1, c2, c3, c4, fz, on⟩, z0, z1, z2, z3⟩ := id ST
      simp only at c0 c1 c2 c3 c4 z0 z1 z2 z3
      exact vt_put
    have d3 : decide ((n : Int) > (vco : Int)) = false := decide_eq_false (by omega)
    have d4 : decide ((vco : Int) < (n : Int)) = false := decide_eq_false (by omega)
    by_cases q4 : n = vco
    rotate_left
    · have EN : Hid (votV S K (r + 1) = ⟨true, se, vda, vco, vx⟩) := NO.out vx (by
        cases e : betV ⟨true, se, vda, vco, vw⟩ se sd n with
        | false => rfl
        | true =>
          rcases BG.out.1 e with k | ⟨k, _⟩
          · exact absurd k q3
          · exact absurd k q4) W1.out
      have d5 : ((n : Int) == (vco : Int)) = false := beq_eq_false_iff_ne.2 (by omega)
      have d6 : (n == vco) = false := beq_eq_false_iff_ne.2 q4
      clear BG
      go_wp2_with fail
      go_quiet (fail)
      clear c0 c1 c2 c3 c4 fz on z0 z1 z2 z3
      replace ST := ST.drewN nq
      generalize Wd.drewN nq = Wx at ST
      clear nq
      obtain ⟨Wd, hWd⟩ : ∃ X, X = Wx := ⟨_, rfl⟩
      subst hWd
      obtain ⟨⟨c0, c1, c2, c3, c4, fz, on⟩, z0, z1, z2, z3⟩ := id ST
      simp only at c0 c1 c2 c3 c4 z0 z1 z2 z3
      exact vt_stay
    subst q4
    have E1 := XS.out Wd ST.bx.on
    have E2 := XV.out Wd ST.bx.on
    cases hless : Op.bytesLess sd vda with
    | true =>
      have EY : Hid (votV S K (r + 1) = ⟨true, se, sd, n, vx⟩) := YF.out vx (BG.out.2 (Or.inr ⟨rfl, hless⟩)) W1.out
      clear BG
      go_wp2_with fail
      go_quiet (fail)
      clear c0 c1 c2 c3 c4 fz on z0 z1 z2 z3
      replace ST := ST.drewN nq
      generalize Wd.drewN nq = Wx at ST
      clear nq
      obtain ⟨Wd, hWd⟩ : ∃ X, X = Wx := ⟨_, rfl⟩
      subst hWd
      obtain ⟨⟨c0, c1, c2, c3, c4, fz, on⟩, z0, z1, z2, z3⟩ := id ST
      simp only at c0 c1 c2 c3 c4 z0 z1 z2 z3
      clear E1 E2
      exact vt_put
    | false =>
      have EN : Hid (votV S K (r + 1) = ⟨true, se, vda, n, vx⟩) := NO.out vx (by
        cases e : betV ⟨true, se, vda, n, vw⟩ se sd n with
        | false => rfl
        | true =>
          rcases BG.out.1 e with k | ⟨_, k⟩
          · exact absurd k q3
          · rw [hless] at k; cases k) W1.out
      clear BG
      go_wp2_with fail
      go_quiet (fail)
      clear c0 c1 c2 c3 c4 fz on z0 z1 z2 z3
      replace ST := ST.drewN nq
      generalize Wd.drewN nq = Wx at ST
      clear nq
      obtain ⟨Wd, hWd⟩ : ∃ X, X = Wx := ⟨_, rfl⟩
      subst hWd
      obtain ⟨⟨c0, c1, c2, c3, c4, fz, on⟩, z0, z1, z2, z3⟩ := id ST
      simp only at c0 c1 c2 c3 c4 z0 z1 z2 z3
      clear E1 E2
      exact vt_stay) : p := h
set_option maxRecDepth 100000 in
set_option maxHeartbeats 4000000 in
theorem rvote17_any {w : World} {v u : Value} {L : List SaV} {K : List Bool} (h : RdSa w v L) (hl : L.length ≤ 1000000) (hk : RdB w u K) : Calls Tryz.prog 41 #[v, u] w (Votes17 w L (votS (sL L) K)) := by
  obtain ⟨a, c, ev⟩ := h.form
  subst ev
  obtain ⟨ua, uc, eu⟩ := hk.form
  subst eu
  obtain ⟨w0, hw0⟩ : ∃ w0, w0 = w.alloc (.cells #[.bool false, .int .i64 0, .slice none 0 0, .int .i64 0, .bool false] 45) := ⟨_, rfl⟩
  obtain ⟨g, hg⟩ : ∃ g, Hid (g = w.heap.size + 1) := ⟨_, rfl⟩
  obtain ⟨w1, hw1⟩ : ∃ w1, w1 = w0.alloc (.cells #[.bool false, .int .i64 0, .slice none 0 0, .int .i64 0, .bool false] 45) := ⟨_, rfl⟩
  have s0 : w0.heap.size = w.heap.size + 1 := by rw [hw0]; simp
  have BX : BoxV w1 g w1 noV (.slice none 0 0) := by rw [hw1]; exact BoxV.made w0 (by rw [hg.out, s0])
  have b0 : Below w.heap.size w w0 := by rw [hw0]; exact belR _ _
  have b1 : Below w0.heap.size w0 w1 := by rw [hw1]; exact belR _ _
  have B1 : Below w.heap.size w w1 := b0.step16 b1 b0.size
  have HB : Hid (∀ W, Only g w1 W → Below w.heap.size w W) := fun W o => B1.trans (o.below (by rw [hg.out]; omega))
  have CR : Hid (∀ W, Only g w1 W → (∀ j, W.cell? ⟨w.heap.size, j, none⟩ = #[Value.bool false, .int .i64 0, .slice none 0 0, .int .i64 0, .bool false][j]? ∧ W.frozen? ⟨w.heap.size, j, none⟩ = false)) := fun W o j => by
    have ne : w.heap.size ≠ g := by rw [hg.out]; omega
    have lt : w.heap.size < w0.heap.size := by rw [s0]; omega
    refine ⟨(o.cell (p := ⟨w.heap.size, j, none⟩) ne).trans ((b1.cell (p := ⟨w.heap.size, j, none⟩) lt).trans ?_), (o.frozen (p := ⟨w.heap.size, j, none⟩) ne).trans ((b1.frozen (p := ⟨w.heap.size, j, none⟩) lt).trans ?_)⟩
    · rw [hw0]; exact World.cell?_alloc_new _ _ _ _
    · rw [hw0]; simp [go_sem]
  obtain ⟨S, hS⟩ : ∃ S, Hid (S = sL L) := ⟨_, rfl⟩
  have lS : Hid (S.length = L.length) := by rw [hS.out]; exact sL_length L
  rw [← hS.out]
  clear b0 b1 s0
  go_enter Tryz.func41, Tryz.ntmps41
  go_wp2_with fail
  rw [← hw0, ← hw1, ← hg.out]
  clear hw0 hw1
  go_loopw [6] (fun i wr => ∃ (r : Nat) (vd : Value), r ≤ L.length ∧ i = .int .i64 (r : Int) ∧ BoxV w1 g wr (votV S K r) vd ∧ Rd w vd (votV S K r).da ∧ Hid (OneV L vd)) (fun i _ => L.length - (intOf i).toNat)
  case atStart => exact ⟨0, _, Nat.zero_le _, rfl, BX, Or.inl ⟨none, 0, rfl, rfl, by unfold maxLen; omega, fun _ => rfl⟩, Or.inl rfl⟩
  case round =>
    clear BX
    obtain ⟨r, vd, hr, rfl, hX, hR, OV⟩ := hrel
    by_cases hlt : r < L.length
    · have hlt' : (r : Int) < (L.length : Int) := by omega
      obtain ⟨b, off, rfl, lb, z⟩ := h.at hlt
      have ES : Hid (sF S r = (L.getD r default).s) := by show _ = _; rw [hS.out]; exact sL_at L r
      have nb : b ≠ g := by rw [hg.out]; omega
      have BW := HB.out wr hX.on
      have ON : Hid (OneV L (L.getD r default).vs) := Or.inr ⟨_, (by rw [List.getD_eq_getElem?_getD, List.getElem?_eq_getElem hlt]; exact List.getElem_mem hlt), rfl⟩
      generalize L.getD r default = k at z ES ON
      have ST : SeeV w1 g b (off + r * 4) wr (votV S K r) vd k := by
        have e : ∀ j, wr.cell? ⟨b, j, none⟩ = w.cell? ⟨b, j, none⟩ := fun j => BW.cell (p := ⟨b, j, none⟩) lb
        exact ⟨hX, (e _).trans z.c0, (e _).trans z.c1, (e _).trans z.c2, (e _).trans z.c3⟩
      have Rv : Hid (Rd w k.vs k.s.da) := z.rd
      have RL : Hid (RdSa w (.slice (some ⟨b, off, none⟩) L.length c) L) := h
      have HR : Hid (Rd w vd (votV S K r).da) := hR
      have WI : Hid (wiF S K (r + 1) = ((votV S K r).wi || (hb K r && (k.s.is || k.s.no)))) := by
        show _ = _
        rw [vot_wi, wiF, ES.out]
      have SN : Hid (S.length = L.length) := lS
      obtain ⟨⟨si, sn, se, sd⟩, vs⟩ := k
      obtain ⟨va, vc, ev⟩ := Rv.out.form
      simp only at ev ES WI Rv ON
      subst ev
      obtain ⟨da, dc, ed⟩ := HR.out.form
      obtain ⟨V, hV⟩ : ∃ V, Hid (V = votV S K r) := ⟨_, rfl⟩
      rw [← hV.out] at ST HR WI ed
      obtain ⟨vh, ve, vda, vco, vw⟩ := V
      simp only at HR WI ed
      subst ed
      have CP : Hid (∀ W, Only g w1 W → ∀ m, Calls Tryz.prog 75 #[.slice (some ⟨b, off, none⟩) L.length c, .int .i64 se, .slice va sd.length vc] (W.drewN m) fun x w' => x = .returned (.int .i64 ((cpV S se sd : Nat) : Int)) ∧ ∃ n, w' = (W.drewN m).drewN n) := fun W o m => by
        rw [hS.out]
        exact rcopies17_any ((RL.out.below (HB.out W o)).drewN m) hl ((Rv.out.below (HB.out W o)).drewN m)
      obtain ⟨n, hn⟩ : ∃ n, Hid (n = cpV S se sd) := ⟨_, rfl⟩
      rw [← hn.out] at CP
      have XS : Hid (∀ W, Only g w1 W → ∀ m, (convert 32 9 (.slice va sd.length vc)).run Tryz.prog (W.drewN m) = .ok (.string ⟨sd.toArray⟩) (W.drewN m)) := fun W o m => conv_str16 ((Rv.out.below (HB.out W o)).drewN m)
      have XV : Hid (∀ W, Only g w1 W → ∀ m, (convert 32 9 (.slice da vda.length dc)).run Tryz.prog (W.drewN m) = .ok (.string ⟨vda.toArray⟩) (W.drewN m)) := fun W o m => conv_str16 ((HR.out.below (HB.out W o)).drewN m)
      have NE : Hid (∀ x, si = false → wiF S K (r + 1) = x → votV S K (r + 1) = ⟨vh, ve, vda, vco, x⟩) := fun x q e => by rw [votV_is (by rw [ES.out]; exact q), ← hV.out, e]
      have NO : Hid (∀ x, betV ⟨vh, ve, vda, vco, vw⟩ se sd n = false → wiF S K (r + 1) = x → votV S K (r + 1) = ⟨vh, ve, vda, vco, x⟩) := fun x q e => by
        rw [votV_no (by rw [ES.out, ← hV.out, ← hn.out]; exact q), ← hV.out, e]
      have YE : Hid (∀ x, si = true → betV ⟨vh, ve, vda, vco, vw⟩ se sd n = true → wiF S K (r + 1) = x → votV S K (r + 1) = ⟨true, se, sd, n, x⟩) := fun x q0 q e => by
        rw [votV_yes (by rw [ES.out]; exact q0) (by rw [ES.out, ← hV.out, ← hn.out]; exact q), ES.out, ← hn.out, e]
      clear hV z hR hX ES RL hn h
      by_cases hK : r < K.length
      rotate_left
      · have hK1 : ¬ (r : Int) < (K.length : Int) := by omega
        have hK2 : decide ((r : Int) < (K.length : Int)) = false := decide_eq_false hK1
        have W1 : Hid (wiF S K (r + 1) = vw) := by show _ = _; rw [WI.out, hb_ge (by omega)]; simp
        obtain ⟨⟨c0, c1, c2, c3, c4, fz, on⟩, z0, z1, z2, z3⟩ := id ST
        simp only at c0 c1 c2 c3 c4 z0 z1 z2 z3
        cases si with
        | false =>
          have BE : Hid (BoxV w1 g wr (votV S K (r + 1)) (.slice da vda.length dc)) := by show BoxV _ _ _ _ _; rw [NE.out vw rfl W1.out]; exact ST.bx
          have RE : Hid (Rd w (.slice da vda.length dc) (votV S K (r + 1)).da) := by show Rd _ _ _; rw [NE.out vw rfl W1.out]; exact HR.out
          clear ST WI CP XS XV NE NO YE HR Rv
          exact vt_keep
        | true =>
          obtain ⟨Wc, hWc⟩ : ∃ Wc, Wc = wr := ⟨_, rfl⟩
          subst hWc
          obtain ⟨vx, hvx⟩ : ∃ vx, vx = vw := ⟨_, rfl⟩
          rw [← hvx] at W1 ST
          clear c0 c1 c2 c3 c4 fz on z0 z1 z2 z3 hvx
          have YF : Hid (∀ x, betV ⟨vh, ve, vda, vco, vw⟩ se sd n = true → wiF S K (r + 1) = x → votV S K (r + 1) = ⟨true, se, sd, n, x⟩) := fun x => YE.out x rfl
          clear YE NE
          exact vt_tail
      obtain ⟨kb, ko, rfl, lk, kc⟩ := hk.at hK
      have hK1 : (r : Int) < (K.length : Int) := by omega
      have hK2 : decide ((r : Int) < (K.length : Int)) = true := decide_eq_true hK1
      have kc' : wr.cell? ⟨kb, ko + r, none⟩ = some (.bool (hb K r)) := (BW.cell (p := ⟨kb, ko + r, none⟩) lk).trans kc
      obtain ⟨x, hx⟩ : ∃ x, Hid (x = hb K r) := ⟨_, rfl⟩
      rw [← hx.out] at kc' WI
      obtain ⟨⟨c0, c1, c2, c3, c4, fz, on⟩, z0, z1, z2, z3⟩ := id ST
      simp only at c0 c1 c2 c3 c4 z0 z1 z2 z3
      clear kc hx
      cases x with
      | false =>
        have W1 : Hid (wiF S K (r + 1) = vw) := by show _ = _; rw [WI.out]; simp
        cases si with
        | false =>
          have BE : Hid (BoxV w1 g wr (votV S K (r + 1)) (.slice da vda.length dc)) := by show BoxV _ _ _ _ _; rw [NE.out vw rfl W1.out]; exact ST.bx
          have RE : Hid (Rd w (.slice da vda.length dc) (votV S K (r + 1)).da) := by show Rd _ _ _; rw [NE.out vw rfl W1.out]; exact HR.out
          clear ST WI CP XS XV NE NO YE HR Rv
          exact vt_keep
        | true =>
          obtain ⟨Wc, hWc⟩ : ∃ Wc, Wc = wr := ⟨_, rfl⟩
          subst hWc
          obtain ⟨vx, hvx⟩ : ∃ vx, vx = vw := ⟨_, rfl⟩
          rw [← hvx] at W1 ST
          clear c0 c1 c2 c3 c4 fz on z0 z1 z2 z3 hvx
          have YF : Hid (∀ x, betV ⟨vh, ve, vda, vco, vw⟩ se sd n = true → wiF S K (r + 1) = x → votV S K (r + 1) = ⟨true, se, sd, n, x⟩) := fun x => YE.out x rfl
          clear YE NE
          exact vt_tail
      | true =>
        have f4 := fz 4
        have hg1 : ¬ g = b := fun q => nb q.symm
        cases si with
        | false =>
          cases sn with
          | false =>
            have W1 : Hid (wiF S K (r + 1) = vw) := by show _ = _; rw [WI.out]; simp
            have BE : Hid (BoxV w1 g wr (votV S K (r + 1)) (.slice da vda.length dc)) := by show BoxV _ _ _ _ _; rw [NE.out vw rfl W1.out]; exact ST.bx
            have RE : Hid (Rd w (.slice da vda.length dc) (votV S K (r + 1)).da) := by show Rd _ _ _; rw [NE.out vw rfl W1.out]; exact HR.out
            clear ST WI CP XS XV NE NO YE HR Rv
            exact vt_keep
          | true =>
            have W1 : Hid (wiF S K (r + 1) = true) := by show _ = _; rw [WI.out]; simp
            have BE : Hid (BoxV w1 g (wr.setCell ⟨g, 4, none⟩ (.bool true)) (votV S K (r + 1)) (.slice da vda.length dc)) := by show BoxV _ _ _ _ _; rw [NE.out true rfl W1.out]; exact ST.bx.wi true
            have RE : Hid (Rd w (.slice da vda.length dc) (votV S K (r + 1)).da) := by show Rd _ _ _; rw [NE.out true rfl W1.out]; exact HR.out
            clear ST WI CP XS XV NE NO YE HR Rv
            exact vt_keep
        | true =>
          have W1 : Hid (wiF S K (r + 1) = true) := by show _ = _; rw [WI.out]; simp
          have YF : Hid (∀ x, betV ⟨vh, ve, vda, vco, vw⟩ se sd n = true → wiF S K (r + 1) = x → votV S K (r + 1) = ⟨true, se, sd, n, x⟩) := fun x => YE.out x rfl
          clear YE NE
          replace ST := ST.set nb (ST.bx.wi true)
          go_wp2_with fail
          obtain ⟨Wc, hWc⟩ : ∃ Wc, Wc = wr.setCell ⟨g, 4, none⟩ (.bool true) := ⟨_, rfl⟩
          rw [← hWc] at ST ⊢
          obtain ⟨vx, hvx⟩ : ∃ vx, vx = true := ⟨_, rfl⟩
          rw [← hvx] at W1
          have ST : SeeV w1 g b (off + r * 4) Wc ⟨vh, ve, vda, vco, vx⟩ (.slice da vda.length dc) ⟨⟨true, sn, se, sd⟩, .slice va sd.length vc⟩ := by rw [hvx]; exact ST
          clear c0 c1 c2 c3 c4 fz on z0 z1 z2 z3 hvx hWc
          exact vt_tail
    · obtain rfl : r = L.length := by omega
      have hge : ¬ (L.length : Int) < (L.length : Int) := by omega
      have EV : votV S K L.length = votS S K := by unfold votS; rw [lS.out]
      rw [EV] at hX hR
      have FV : Hid (Rd w vd (votS S K).da) := hR
      obtain ⟨va, vc, ev⟩ := hR.form
      obtain ⟨V, hV⟩ : ∃ V, V = votS S K := ⟨_, rfl⟩
      rw [← hV] at hX FV
      obtain ⟨vh, ve, vda, vco, vw⟩ := V
      simp only [← hV] at ev
      subst ev
      obtain ⟨c0, c1, c2, c3, c4, fz, on⟩ := hX
      simp only at c0 c1 c2 c3 c4
      have kA := CR.out wr on
      obtain ⟨m0, f0⟩ := kA 0
      obtain ⟨m1, f1⟩ := kA 1
      obtain ⟨m2, f2⟩ := kA 2
      obtain ⟨m3, f3⟩ := kA 3
      obtain ⟨m4, f4⟩ := kA 4
      simp at m0 m1 m2 m3 m4
      obtain ⟨W, hW⟩ : ∃ W, W = ((((wr.setCell ⟨w.heap.size, 0, none⟩ (.bool vh)).setCell ⟨w.heap.size, 1, none⟩ (.int .i64 ve)).setCell ⟨w.heap.size, 2, none⟩ (.slice va vda.length vc)).setCell ⟨w.heap.size, 3, none⟩ (.int .i64 ((vco : Nat) : Int))).setCell ⟨w.heap.size, 4, none⟩ (.bool vw) := ⟨_, rfl⟩
      obtain ⟨OA, n0, n1, n2, n3, n4⟩ := set5 m0 m1 m2 m3 m4 hW
      have FIN : Hid (Votes17 w L (votS S K) (.returned (.agg #[.bool vh, .int .i64 ve, .slice va vda.length vc, .int .i64 ((vco : Nat) : Int), .bool vw])) W) := by show Votes17 _ _ _ _ _; rw [← hV]; exact ⟨_, rfl, FV.out, OV.out, (HB.out wr on).trans (OA.below (Nat.le_refl _))⟩
      clear OA kA hk h FV hV EV on fz
      go_wp2
      rw [← hW]
      clear hW
      exact bodyPost_ret (v := .agg #[.bool vh, .int .i64 ve, .slice va vda.length vc, .int .i64 ((vco : Nat) : Int), .bool vw]) (by simp [results, Tryz.results41, go_sem, n0, n1, n2, n3, n4]) rfl FIN.out
end Go.Proofs.YtgahaebfgmbckaaGreat.Gf
