/- TEXTS JOINED: DkRg, DkDid. -/
import Derived.Test.YtabcbmabimommaaTome7
/-
  THE DOCUMENT's DISK FOR LAYER 12 (package aumbryref12) BY CONTRACT: Corrupt.
-/

namespace Go.Proofs.Ytabcbmabimommaa.Gf
set_option linter.unusedVariables false
set_option linter.unusedSimpArgs false
open Go.RowKit

section
variable {w w' : World} {rb : Nat} {vl vw : Value} {Tl Tw : List TH} {H : Nat → Prop} {d : DkS}
set_option maxRecDepth 100000 in
set_option maxHeartbeats 2000000 in
theorem rcorr_any (h : RefIn w rb vl vw Tl Tw H d) (ok : d.Ok) {a at_ : Int} (hat : (Lit.int .i64 at_).wf = true) (y : UInt8) :
    Calls Try.prog 34 #[.pointer (some ⟨rb, 0, none⟩), .int .i64 a, .int .i64 at_, .int .u8 ((y.toNat : Nat) : Int)] w (LeavesR w rb H (coS d a at_ y) (.int .i64 (coX d a))) := by
  have K := rfault_any h (a := a)
  have KW := find_any h.tw.rd (x := a)
  have KL := find_any h.tl.rd (x := a)
  obtain ⟨LW, LL⟩ := ref_look h ok a
  by_cases hf : faX d a = 0
  · rw [hf] at K
    obtain ⟨fz1, fz2, fz3⟩ := faX_zero hf
    obtain ⟨aw, cw, rfl⟩ := h.tw.rd.form
    obtain ⟨al, cl, rfl⟩ := h.tl.rd.form
    have c1 := h.c1
    have c2 := h.c2
    cases hw : d.wait a with
    | some p =>
      rw [hw] at LW
      have eX : coX d a = 0 := by unfold coX atD; rw [if_pos hf, hw]; rfl
      have eS : coS d a at_ y = { d with wait := putB d.wait a (chB p at_ y) } := by unfold coS; rw [if_pos hf, hw]
      rw [eX]
      go_enter Try.func34, Try.ntmps34
      go_wp2_with fail
      refine K.mono ?_
      rintro _ wq ⟨rfl, hwq⟩
      rw [hwq]
      clear hwq wq K
      go_wp2_with fail
      refine KW.mono ?_
      rintro _ wq ⟨hwq, ⟨rfl, e1⟩ | ⟨k, rfl, hk, e1⟩⟩
      · rw [LW] at e1; cases e1
      · rw [hwq]
        rw [LW] at e1
        have hpin := ok.iw a p hw
        obtain ⟨b, off, rfl, x0, x1, r1⟩ := h.tw.rd.at hk
        have hkw := h.len_w
        have hk' : (k : Int) < (Tw.length : Int) := by omega
        have hk0 : (k : Int) ≥ 0 := by omega
        have hk1 : ¬ (k : Int) < 0 := by omega
        have e2 : (Tw.getD k default).2.1 = p := by simpa using e1.symm
        rw [e2] at r1
        obtain ⟨t3, ht3⟩ : ∃ t, t = (Tw.getD k default).2.2 := ⟨_, rfl⟩
        rw [← ht3] at x1 r1
        obtain ⟨ta, tc, rfl⟩ := r1.form
        have bD : Below w.heap.size w w.drew := (Below.refl _ _).drew
        have I0 := h.below bD
        have r0 := r1.below bD
        have z2 := I0.c2
        have z1 := I0.c1
        have HES : Hid _ := eS
        have FH : Hid (∀ k, H k → k < w.heap.size) := h.lt
        clear LW LL ht3 e1 e2 hwq wq KW eS
        go_wp2_with fail
        go_region_law (first
          | (go_simp; go_at_call 45; (refine (changed_any r0 hpin.2.2.1 (by omega) hat y).mono ?_); rintro _ w4 ⟨v4, rfl, O4, b4⟩; have I4 := I0.below b4; have c24 := I4.c2; have c14 := I4.c1; have O4' : w4.ownsRow w.drew.heap.size 5 1 v4 (chB p at_ y).length ((chB p at_ y).map vb) := (by rw [chB_length]; exact O4); have T4 : Told w4 H v4 (chB p at_ y) := ⟨Rd.owned O4', ApartG.own O4' FH.out⟩; obtain ⟨a4, k4, rfl⟩ := owns_slice O4; dsimp only)
          | (go_simp; go_at_call 43; (refine (with_is I4.tw I4.kw I4.ew I4.s2 I4.lt fz2 fz3 T4).mono ?_); rintro _ w5 ⟨v5, T5, rfl, t5, k5, e5, b5⟩; have I5 := I4.below b5; have c25 := I5.c2; have f25 := I5.f2; have c15 := I5.c1; have f15 := I5.f1; have I6 := I5.setW t5 k5 e5; have B5 := (bD.step12 b4 bD.size).step12 b5 (bD.step12 b4 bD.size).size; obtain ⟨a5, m5, rfl⟩ := t5.rd.form; dsimp only))
        all_goals
          have FIN : Hid (RefAt (w5.setCell ⟨rb, 2, none⟩ (.slice a5 T5.length m5)) rb H (coS d a at_ y) ∧ TurnG (fun k => k = rb) w (w5.setCell ⟨rb, 2, none⟩ (.slice a5 T5.length m5))) := ⟨⟨_, _, _, _, by rw [HES.out]; exact I6⟩, (Below.turnG B5 _).trans (turnR_set 2 _)⟩
          clear I6 c15 f15 c25 f25 I5 b5 t5 k5 e5 B5 I4 c24 c14 O4 O4' T4 b4 I0 r0 r1 h x0 x1 bD HES FH
          go_wp2
          go_ret
          exact ⟨rfl, FIN.out⟩
    | none =>
      rw [hw] at LW
      cases hl : d.last a with
      | some p =>
        rw [hl] at LL
        have eX : coX d a = 0 := by unfold coX atD; rw [if_pos hf, hw, hl]; rfl
        have eS : coS d a at_ y = { d with last := putB d.last a (chB p at_ y) } := by unfold coS; rw [if_pos hf, hw, hl]
        rw [eX]
        go_enter Try.func34, Try.ntmps34
        go_wp2_with fail
        refine K.mono ?_
        rintro _ wq ⟨rfl, hwq⟩
        rw [hwq]
        clear hwq wq K
        go_wp2_with fail
        refine KW.mono ?_
        rintro _ wq ⟨hwq, ⟨rfl, e1⟩ | ⟨k, rfl, hk, e1⟩⟩
        · rw [hwq]
          clear hwq wq KW e1
          go_wp2_with fail
          refine KL.mono ?_
          rintro _ wq ⟨hwq, ⟨rfl, e1⟩ | ⟨k, rfl, hk, e1⟩⟩
          · rw [LL] at e1; cases e1
          · rw [hwq]
            rw [LL] at e1
            have hpin := ok.il a p hl
            have KW := KL
            obtain ⟨b, off, rfl, x0, x1, r1⟩ := h.tl.rd.at hk
            have hkw := h.len_l
            have hk' : (k : Int) < (Tl.length : Int) := by omega
            have hk0 : (k : Int) ≥ 0 := by omega
            have hk1 : ¬ (k : Int) < 0 := by omega
            have e2 : (Tl.getD k default).2.1 = p := by simpa using e1.symm
            rw [e2] at r1
            obtain ⟨t3, ht3⟩ : ∃ t, t = (Tl.getD k default).2.2 := ⟨_, rfl⟩
            rw [← ht3] at x1 r1
            obtain ⟨ta, tc, rfl⟩ := r1.form
            have bD : Below w.heap.size w w.drew := (Below.refl _ _).drew
            have I0 := h.below bD
            have r0 := r1.below bD
            have z2 := I0.c2
            have z1 := I0.c1
            have HES : Hid _ := eS
            have FH : Hid (∀ k, H k → k < w.heap.size) := h.lt
            clear LW LL ht3 e1 e2 hwq wq KW eS
            go_wp2_with fail
            go_region_law (first
              | (go_simp; go_at_call 45; (refine (changed_any r0 hpin.2.2.1 (by omega) hat y).mono ?_); rintro _ w4 ⟨v4, rfl, O4, b4⟩; have I4 := I0.below b4; have c24 := I4.c2; have c14 := I4.c1; have O4' : w4.ownsRow w.drew.heap.size 5 1 v4 (chB p at_ y).length ((chB p at_ y).map vb) := (by rw [chB_length]; exact O4); have T4 : Told w4 H v4 (chB p at_ y) := ⟨Rd.owned O4', ApartG.own O4' FH.out⟩; obtain ⟨a4, k4, rfl⟩ := owns_slice O4; dsimp only)
              | (go_simp; go_at_call 43; (refine (with_is I4.tl I4.kl I4.el I4.s2 I4.lt fz2 fz3 T4).mono ?_); rintro _ w5 ⟨v5, T5, rfl, t5, k5, e5, b5⟩; have I5 := I4.below b5; have c25 := I5.c2; have f25 := I5.f2; have c15 := I5.c1; have f15 := I5.f1; have I6 := I5.setL t5 k5 e5; have B5 := (bD.step12 b4 bD.size).step12 b5 (bD.step12 b4 bD.size).size; obtain ⟨a5, m5, rfl⟩ := t5.rd.form; dsimp only))
            all_goals
              have FIN : Hid (RefAt (w5.setCell ⟨rb, 1, none⟩ (.slice a5 T5.length m5)) rb H (coS d a at_ y) ∧ TurnG (fun k => k = rb) w (w5.setCell ⟨rb, 1, none⟩ (.slice a5 T5.length m5))) := ⟨⟨_, _, _, _, by rw [HES.out]; exact I6⟩, (Below.turnG B5 _).trans (turnR_set 1 _)⟩
              clear I6 c15 f15 c25 f25 I5 b5 t5 k5 e5 B5 I4 c24 c14 O4 O4' T4 b4 I0 r0 r1 h x0 x1 bD HES FH
              go_wp2
              go_ret
              exact ⟨rfl, FIN.out⟩
        · rw [LW] at e1; cases e1
      | none =>
        rw [hl] at LL
        have eX : coX d a = 1 := by unfold coX atD; rw [if_pos hf, hw, hl]; rfl
        have eS : coS d a at_ y = d := by unfold coS; rw [if_pos hf, hw, hl]
        have FIN : Hid (RefAt w rb H (coS d a at_ y) ∧ TurnG (fun k => k = rb) w w) := by
          show _ ∧ _
          rw [eS]
          exact ⟨⟨_, _, _, _, h⟩, TurnG.refl _ _⟩
        rw [eX]
        go_enter Try.func34, Try.ntmps34
        go_wp2_with fail
        refine K.mono ?_
        rintro _ wq ⟨rfl, hwq⟩
        rw [hwq]
        clear hwq wq K
        go_wp2_with fail
        refine KW.mono ?_
        rintro _ wq ⟨hwq, ⟨rfl, e1⟩ | ⟨k, rfl, hk, e1⟩⟩
        · rw [hwq]
          clear hwq wq KW e1
          go_wp2_with fail
          refine KL.mono ?_
          rintro _ wq ⟨hwq, ⟨rfl, e1⟩ | ⟨k, rfl, hk, e1⟩⟩
          · rw [hwq]
            clear hwq wq KL e1 h
            go_wp2
            go_ret
            exact ⟨rfl, FIN.out⟩
          · rw [LL] at e1; cases e1
        · rw [LW] at e1; cases e1
  · have eX : coX d a = faX d a := by unfold coX; rw [if_neg hf]
    have eS : coS d a at_ y = d := by unfold coS; rw [if_neg hf]
    have FIN : Hid (RefAt w rb H (coS d a at_ y) ∧ TurnG (fun k => k = rb) w w) := by
      show _ ∧ _
      rw [eS]
      exact ⟨⟨_, _, _, _, h⟩, TurnG.refl _ _⟩
    rw [eX]
    obtain ⟨x, hx⟩ : ∃ x, x = faX d a := ⟨_, rfl⟩
    rw [← hx] at hf K ⊢
    clear eX eS h hx KW KL
    have q1 : (x == 0) = false := beq_eq_false_iff_ne.2 hf
    go_enter Try.func34, Try.ntmps34
    go_wp2_with fail
    refine K.mono ?_
    rintro _ wq ⟨rfl, hwq⟩
    rw [hwq]
    clear hwq wq K
    go_wp2
    go_ret
    exact ⟨rfl, FIN.out⟩
end
end Go.Proofs.Ytabcbmabimommaa.Gf

/-
  THE STATEMENTS' HELPERS OF LAYER 12: 'did': one call on the program's disk and on the document's: both answer one.
-/

namespace Go.Proofs.Ytabcbmabimommaa.Gf
set_option linter.unusedVariables false
set_option linter.unusedSimpArgs false
open Go.RowKit

theorem DkB.turnR {w w' : World} {N db rb : Nat} {G : Nat → Prop} {d : DkS} (h : DkB w N db G d) (hn : ¬ G rb) (t : TurnG (fun k => k = rb) w w') : DkB w' N db G d :=
  ⟨h.at_.keep (fun k hk => t.block k (h.at_.lt k hk) (fun e => hn (by rw [← e]; exact hk))) t.size, h.low, Nat.le_trans h.size t.size⟩
theorem turnR_below {w w' : World} {N rb : Nat} (t : TurnG (fun k => k = rb) w w') (hN : N ≤ rb) (hs : N ≤ w.heap.size) : Below N w w' := t.below (fun k hk => by rw [hk]; exact hN) hs
/-- both disks, behind the same calls -/
structure Both (u1 w : World) (db rb : Nat) (G : Nat → Prop) (d : DkS) : Prop where
  D : DkB w u1.heap.size db G d
  R : RefAt w rb (fun k => k = rb ∨ G k) d
  n : ¬ G rb
  rN : u1.heap.size ≤ rb
  B : Below u1.heap.size u1 w
theorem Both.below {u1 w w' : World} {db rb : Nat} {G : Nat → Prop} {d : DkS} (h : Both u1 w db rb G d) (hb : Below w.heap.size w w') : Both u1 w' db rb G d := ⟨h.D.below hb, h.R.below hb, h.n, h.rN, h.B.step12 hb h.B.size⟩
/-- behind both calls -/
theorem Both.step {u1 w w2 w3 : World} {db rb : Nat} {G G2 : Nat → Prop} {d d' : DkS} (h : Both u1 w db rb G d) (hD : DiskAt w2 db G2 d') (g : Grew G w G2 w2) (hR : RefAt w3 rb (fun k => k = rb ∨ G2 k) d') (t : TurnG (fun k => k = rb) w2 w3) : Both u1 w3 db rb G2 d' := by
  have D2 := h.D.grew hD g
  have n2 := (RefAt.grew h.R h.n g hD.lt).2
  exact ⟨D2.turnR n2 t, hR, n2, h.rN, (h.B.trans (h.D.bel g)).trans (turnR_below t h.rN D2.size)⟩
theorem OwnH.rd {w : World} {base : Nat} {v : Value} {L : List (Int × List UInt8)} (h : OwnH w base v L) (hl : L.length ≤ 100000) : RdH w v L := by
  obtain ⟨T, h1, h2⟩ := h
  exact ⟨T, h1, h2.rd (by rw [← bareT_length, h1]; exact hl)⟩
def DidD (u1 : World) (db rb : Nat) (d' : DkS) (e : Ending) (w' : World) : Prop := e = .returned (.bool true) ∧ ∃ G', Both u1 w' db rb G' d'
section
variable {w : World} {db rb : Nat} {G H : Nat → Prop} {d : DkS} {vl vw : Value} {Tl Tw : List TH}
theorem rwrite_is (h : RefIn w rb vl vw Tl Tw H d) {a : Int} {v : Value} {p : List UInt8} (hp : Rd w v p) {x : Int} (hx : wrX d a p = x) : Calls Try.prog 26 #[.pointer (some ⟨rb, 0, none⟩), .int .i64 a, v] w (LeavesR w rb H (wrS d a p) (.int .i64 x)) := by
  rw [← hx]; exact rwrite_any h hp
theorem rflush_is (h : RefIn w rb vl vw Tl Tw H d) (ok : d.Ok) {x : Int} (hx : flX d = x) : Calls Try.prog 28 #[.pointer (some ⟨rb, 0, none⟩)] w (LeavesR w rb H (flS d) (.int .i64 x)) := by
  rw [← hx]; exact rflush_any h ok
theorem rcorr_is (h : RefIn w rb vl vw Tl Tw H d) (ok : d.Ok) {a at_ : Int} (hat : (Lit.int .i64 at_).wf = true) (y : UInt8) {x : Int} (hx : coX d a = x) : Calls Try.prog 34 #[.pointer (some ⟨rb, 0, none⟩), .int .i64 a, .int .i64 at_, .int .u8 ((y.toNat : Nat) : Int)] w (LeavesR w rb H (coS d a at_ y) (.int .i64 x)) := by
  rw [← hx]; exact rcorr_any h ok hat y
theorem dcorr_is (h : DiskAt w db G d) {a at_ : Int} (ha : (Lit.int .i64 a).wf = true) (hat : (Lit.int .i64 at_).wf = true) (y : UInt8) {x : Int} (hx : coX d a = x) : Calls Try.prog 33 #[.pointer (some ⟨db, 0, none⟩), .int .i64 a, .int .i64 at_, .int .u8 ((y.toNat : Nat) : Int)] w (Leaves w db G (coS d a at_ y) (.int .i64 x)) := by
  rw [← hx]; exact dcorr_any h ha hat y
theorem rread_is (h : RefIn w rb vl vw Tl Tw H d) (ok : d.Ok) {a x : Int} (hx : faX d a = x) {p : List UInt8} (hp : rdB d a = p) : Calls Try.prog 27 #[.pointer (some ⟨rb, 0, none⟩), .int .i64 a] w (TellsR w x p) := by
  rw [← hx, ← hp]; exact rread_any h ok
theorem RdI.apartO {u1 : World} {v : Value} {L : List Int} (hr : RdI u1 v L) {g : Nat} (hg : u1.heap.size ≤ g) : ApartG (fun k => k = g) v := by
  intro x n c e
  rcases hr with ⟨a, c', h1, h2⟩ | ⟨b, off, cap, h1, h2, h3, h4, h5⟩
  · subst h2; simp at e; exact Or.inl e.2.1.symm
  · subst h2
    simp at e
    obtain ⟨rfl, rfl, rfl⟩ := e
    exact Or.inr (fun h6 => by simp at h6; omega)
end
section
variable {u1 w : World} {db rb : Nat} {G : Nat → Prop} {d : DkS}
set_option maxRecDepth 100000 in
set_option maxHeartbeats 4000000 in
theorem did_any (h : Both u1 w db rb G d) {kd cn cm : Int} {cy : UInt8} {cb : List UInt8} {ck : List Int} {ba ka : Option Addr} {bc kc : Nat} (pb : Rd u1 (.slice ba cb.length bc) cb) (pk : RdI u1 (.slice ka ck.length kc) ck) (wn : (Lit.int .i64 cn).wf = true) (wm : (Lit.int .i64 cm).wf = true) (wi : ∀ z ∈ ck, (Lit.int .i64 z).wf = true) (hk : ck.length ≤ 200) :
    Calls Try.prog 13 #[.pointer (some ⟨db, 0, none⟩), .pointer (some ⟨rb, 0, none⟩), .agg #[.int .i64 kd, .int .i64 cn, .int .i64 cm, .int .u8 ((cy.toNat : Nat) : Int), .slice ba cb.length bc, .slice ka ck.length kc]] w (DidD u1 db rb (playS d ⟨kd, cn, cm, cy, .slice ba cb.length bc, .slice ka ck.length kc, cb, ck⟩)) := by
  have ok := h.D.at_.ok
  obtain ⟨PL, hPL⟩ : ∃ PL, Hid (PL = playS d ⟨kd, cn, cm, cy, .slice ba cb.length bc, .slice ka ck.length kc, cb, ck⟩) := ⟨_, rfl⟩
  rw [← hPL.out]
  obtain ⟨wa, hwa⟩ : ∃ x, x = w.alloc (.cells #[.int .i64 kd, .int .i64 cn, .int .i64 cm, .int .u8 ((cy.toNat : Nat) : Int), .slice ba cb.length bc, .slice ka ck.length kc] 35) := ⟨_, rfl⟩
  have bA : Below w.heap.size w wa := by rw [hwa]; exact belA _ _
  have cA : ∀ j, wa.cell? ⟨w.heap.size, j, none⟩ = (#[.int .i64 kd, .int .i64 cn, .int .i64 cm, .int .u8 ((cy.toNat : Nat) : Int), .slice ba cb.length bc, .slice ka ck.length kc] : Array Value)[j]? := fun j => by rw [hwa]; exact World.cell?_alloc_new _ _ _ _
  have lA : w.heap.size < wa.heap.size := by rw [hwa]; simp
  have hA := h.below bA
  have nX : Hid (¬ G w.heap.size) := fun e => by have := h.D.at_.lt _ e; omega
  have rX : Hid (w.heap.size ≠ rb) := fun e => by obtain ⟨_, _, _, _, I⟩ := h.R; have := I.lt rb (Or.inl rfl); omega
  clear h bA
  obtain ⟨X, hX⟩ : ∃ X, Hid (X = w.heap.size) := ⟨_, rfl⟩
  rw [← hX.out] at cA lA nX rX
  have a0 := cA 0
  have a1 := cA 1
  have a2 := cA 2
  have a3 := cA 3
  have a4 := cA 4
  have a5 := cA 5
  simp at a0 a1 a2 a3 a4 a5
  have cellsAt : Hid (∀ W : World, (∀ j, W.cell? ⟨X, j, none⟩ = wa.cell? ⟨X, j, none⟩) → W.cell? ⟨X, 1, none⟩ = some (.int .i64 cn) ∧ W.cell? ⟨X, 2, none⟩ = some (.int .i64 cm) ∧ W.cell? ⟨X, 3, none⟩ = some (.int .u8 ((cy.toNat : Nat) : Int)) ∧ W.cell? ⟨X, 4, none⟩ = some (.slice ba cb.length bc) ∧ W.cell? ⟨X, 5, none⟩ = some (.slice ka ck.length kc)) := fun W hW => ⟨(hW 1).trans a1, (hW 2).trans a2, (hW 3).trans a3, (hW 4).trans a4, (hW 5).trans a5⟩
  clear cA
  by_cases k1 : kd = 1
  · subst k1
    obtain ⟨x, hx⟩ : ∃ x, wrX d cn cb = x := ⟨_, rfl⟩
    have HP : Hid (PL = wrS d cn cb) := by rw [hPL.out]; rfl
    have bD : Below wa.heap.size wa wa.drew := (Below.refl _ _).drew
    have hD := hA.below bD
    have pbD := pb.below hD.B
    clear hPL hA
    go_enter Try.func13, Try.ntmps13
    go_wp2_with fail
    rw [← hwa]
    rw [← hX.out]
    clear hwa hX
    go_region_held3 (fun wx => wx.cell? ⟨X, 1, none⟩ = some (.int .i64 cn) ∧ wx.cell? ⟨X, 2, none⟩ = some (.int .i64 cm) ∧ wx.cell? ⟨X, 3, none⟩ = some (.int .u8 ((cy.toNat : Nat) : Int)) ∧ wx.cell? ⟨X, 4, none⟩ = some (.slice ba cb.length bc) ∧ wx.cell? ⟨X, 5, none⟩ = some (.slice ka ck.length kc)) (first | exact ⟨a1, a2, a3, a4, a5⟩ | exact m3 | exact m2) (first
      | (go_at_call 24; (refine (dwrite_is hD.D.at_ wn pbD hx rfl).mono ?_); rintro _ v2 ⟨rfl, G2, A2, g2⟩; have R2 := RefAt.grew hD.R hD.n g2 A2.lt; obtain ⟨yl, yw, Yl, Yw, I2⟩ := R2.1; have p2 := pb.below (hD.B.trans (hD.D.bel g2)); have e2 : ∀ j, v2.cell? ⟨X, j, none⟩ = wa.cell? ⟨X, j, none⟩ := (fun j => g2.turn.cell (p := ⟨X, j, none⟩) lA nX.out); have m2 := cellsAt.out v2 e2; have lX := Nat.lt_of_lt_of_le lA g2.turn.size)
      | (go_at_call 26; (refine (rwrite_is I2 p2 hx).mono ?_); rintro _ v3 ⟨rfl, R3, t3⟩; have F := hD.step A2 g2 R3 t3; have m3 := cellsAt.out v3 (fun j => (t3.cell (p := ⟨X, j, none⟩) lX rX.out).trans (e2 j))))
    all_goals
      have FF : Hid (∃ G', Both u1 v3 db rb G' PL) := ⟨G2, by rw [HP.out]; exact F⟩
      clear F R3 t3 I2 R2 p2 e2 m2 m3 lX A2 g2 hD pbD bD HP cellsAt
      go_wp2
      go_ret
      exact ⟨rfl, FF.out⟩
  by_cases k7 : kd = 7
  · subst k7
    obtain ⟨x, hx⟩ : ∃ x, coX d cn = x := ⟨_, rfl⟩
    have HP : Hid (PL = coS d cn cm cy) := by rw [hPL.out]; rfl
    have bD : Below wa.heap.size wa wa.drew := (Below.refl _ _).drew
    have hD := hA.below bD
    have pbD := pb.below hD.B
    clear hPL hA
    go_enter Try.func13, Try.ntmps13
    go_wp2_with fail
    rw [← hwa]
    rw [← hX.out]
    clear hwa hX
    go_region_held3 (fun wx => wx.cell? ⟨X, 1, none⟩ = some (.int .i64 cn) ∧ wx.cell? ⟨X, 2, none⟩ = some (.int .i64 cm) ∧ wx.cell? ⟨X, 3, none⟩ = some (.int .u8 ((cy.toNat : Nat) : Int)) ∧ wx.cell? ⟨X, 4, none⟩ = some (.slice ba cb.length bc) ∧ wx.cell? ⟨X, 5, none⟩ = some (.slice ka ck.length kc)) (first | exact ⟨a1, a2, a3, a4, a5⟩ | exact m3 | exact m2) (first
      | (go_at_call 33; (refine (dcorr_is hD.D.at_ wn wm cy hx).mono ?_); rintro _ v2 ⟨rfl, G2, A2, g2⟩; have R2 := RefAt.grew hD.R hD.n g2 A2.lt; obtain ⟨yl, yw, Yl, Yw, I2⟩ := R2.1; have p2 := pb.below (hD.B.trans (hD.D.bel g2)); have e2 : ∀ j, v2.cell? ⟨X, j, none⟩ = wa.cell? ⟨X, j, none⟩ := (fun j => g2.turn.cell (p := ⟨X, j, none⟩) lA nX.out); have m2 := cellsAt.out v2 e2; have lX := Nat.lt_of_lt_of_le lA g2.turn.size)
      | (go_at_call 34; (refine (rcorr_is I2 ok wm cy hx).mono ?_); rintro _ v3 ⟨rfl, R3, t3⟩; have F := hD.step A2 g2 R3 t3; have m3 := cellsAt.out v3 (fun j => (t3.cell (p := ⟨X, j, none⟩) lX rX.out).trans (e2 j))))
    all_goals
      have FF : Hid (∃ G', Both u1 v3 db rb G' PL) := ⟨G2, by rw [HP.out]; exact F⟩
      clear F R3 t3 I2 R2 p2 e2 m2 m3 lX A2 g2 hD pbD bD HP cellsAt
      go_wp2
      go_ret
      exact ⟨rfl, FF.out⟩
  by_cases k3 : kd = 3
  · subst k3
    obtain ⟨x, hx⟩ : ∃ x, flX d = x := ⟨_, rfl⟩
    have HP : Hid (PL = flS d) := by rw [hPL.out]; rfl
    clear hPL
    go_enter Try.func13, Try.ntmps13
    go_wp2_with fail
    rw [← hwa]
    rw [← hX.out]
    clear hwa hX
    refine (dflush_is hA.D.at_ hx rfl).mono ?_
    rintro _ v2 ⟨rfl, G2, A2, g2⟩
    have R2 := RefAt.grew hA.R hA.n g2 A2.lt
    obtain ⟨yl, yw, Yl, Yw, I2⟩ := R2.1
    have B2 := hA.B.trans (hA.D.bel g2)
    have e2 : ∀ j, v2.cell? ⟨X, j, none⟩ = wa.cell? ⟨X, j, none⟩ := (fun j => g2.turn.cell (p := ⟨X, j, none⟩) lA nX.out)
    obtain ⟨m1, m2, m3, m4, m5⟩ := cellsAt.out v2 e2
    clear e2
    go_wp2_with fail
    refine (rflush_is I2 ok hx).mono ?_
    rintro _ v3 ⟨rfl, R3, t3⟩
    have F := hA.step A2 g2 R3 t3
    have FF : Hid (∃ G', Both u1 v3 db rb G' PL) := ⟨G2, by rw [HP.out]; exact F⟩
    clear F R3 t3 I2 R2 B2 m1 m2 m3 m4 m5 A2 g2 hA HP cellsAt
    go_wp2
    go_ret
    exact ⟨rfl, FF.out⟩
  by_cases k4 : kd = 4
  · subst k4
    have HP : Hid (PL = crS d ck) := by rw [hPL.out]; rfl
    clear hPL
    go_enter Try.func13, Try.ntmps13
    go_wp2_with fail
    rw [← hwa]
    rw [← hX.out]
    clear hwa hX
    refine (dcrash_any hA.D.at_ (pk.below hA.B) wi (apart_old hA.D pk) (by omega)).mono ?_
    rintro _ v2 ⟨rfl, G2, A2, g2⟩
    have R2 := RefAt.grew hA.R hA.n g2 A2.lt
    obtain ⟨yl, yw, Yl, Yw, I2⟩ := R2.1
    have B2 := hA.B.trans (hA.D.bel g2)
    have e2 : ∀ j, v2.cell? ⟨X, j, none⟩ = wa.cell? ⟨X, j, none⟩ := (fun j => g2.turn.cell (p := ⟨X, j, none⟩) lA nX.out)
    obtain ⟨m1, m2, m3, m4, m5⟩ := cellsAt.out v2 e2
    clear e2
    go_wp2_with fail
    refine (rcrash_any I2 ok (pk.below B2) (RdI.apartO pk hA.rN) (by omega)).mono ?_
    rintro _ v3 ⟨rfl, R3, t3⟩
    have F := hA.step A2 g2 R3 t3
    have FF : Hid (∃ G', Both u1 v3 db rb G' PL) := ⟨G2, by rw [HP.out]; exact F⟩
    clear F R3 t3 I2 R2 B2 m1 m2 m3 m4 m5 A2 g2 hA HP cellsAt
    go_wp2
    go_ret
    exact ⟨rfl, FF.out⟩
  by_cases k5 : kd = 5
  · subst k5
    have HP : Hid (PL = faS d) := by rw [hPL.out]; rfl
    clear hPL
    go_enter Try.func13, Try.ntmps13
    go_wp2_with fail
    rw [← hwa]
    rw [← hX.out]
    clear hwa hX
    refine (dfail_any hA.D.at_).mono ?_
    rintro _ v2 ⟨rfl, G2, A2, g2⟩
    have R2 := RefAt.grew hA.R hA.n g2 A2.lt
    obtain ⟨yl, yw, Yl, Yw, I2⟩ := R2.1
    have B2 := hA.B.trans (hA.D.bel g2)
    have e2 : ∀ j, v2.cell? ⟨X, j, none⟩ = wa.cell? ⟨X, j, none⟩ := (fun j => g2.turn.cell (p := ⟨X, j, none⟩) lA nX.out)
    obtain ⟨m1, m2, m3, m4, m5⟩ := cellsAt.out v2 e2
    clear e2
    go_wp2_with fail
    refine (rfail_any I2).mono ?_
    rintro _ v3 ⟨rfl, R3, t3⟩
    have F := hA.step A2 g2 R3 t3
    have FF : Hid (∃ G', Both u1 v3 db rb G' PL) := ⟨G2, by rw [HP.out]; exact F⟩
    clear F R3 t3 I2 R2 B2 m1 m2 m3 m4 m5 A2 g2 hA HP cellsAt
    go_wp2
    go_ret
    exact ⟨rfl, FF.out⟩
  by_cases k6 : kd = 6
  · subst k6
    have HP : Hid (PL = reS d) := by rw [hPL.out]; rfl
    clear hPL
    go_enter Try.func13, Try.ntmps13
    go_wp2_with fail
    rw [← hwa]
    rw [← hX.out]
    clear hwa hX
    refine (drepl_any hA.D.at_).mono ?_
    rintro _ v2 ⟨rfl, G2, A2, g2⟩
    have R2 := RefAt.grew hA.R hA.n g2 A2.lt
    obtain ⟨yl, yw, Yl, Yw, I2⟩ := R2.1
    have B2 := hA.B.trans (hA.D.bel g2)
    have e2 : ∀ j, v2.cell? ⟨X, j, none⟩ = wa.cell? ⟨X, j, none⟩ := (fun j => g2.turn.cell (p := ⟨X, j, none⟩) lA nX.out)
    obtain ⟨m1, m2, m3, m4, m5⟩ := cellsAt.out v2 e2
    clear e2
    go_wp2_with fail
    refine (rrepl_any I2).mono ?_
    rintro _ v3 ⟨rfl, R3, t3⟩
    have F := hA.step A2 g2 R3 t3
    have FF : Hid (∃ G', Both u1 v3 db rb G' PL) := ⟨G2, by rw [HP.out]; exact F⟩
    clear F R3 t3 I2 R2 B2 m1 m2 m3 m4 m5 A2 g2 hA HP cellsAt
    go_wp2
    go_ret
    exact ⟨rfl, FF.out⟩
  by_cases k2 : kd = 2
  · subst k2
    have HP : Hid (PL = d) := by rw [hPL.out]; rfl
    clear hPL
    obtain ⟨x, hx⟩ : ∃ x, faX d cn = x := ⟨_, rfl⟩
    obtain ⟨pr, hpr⟩ : ∃ p, rdB d cn = p := ⟨_, rfl⟩
    go_enter Try.func13, Try.ntmps13
    go_wp2_with fail
    rw [← hwa]
    rw [← hX.out]
    clear hwa hX
    refine (dread_is hA.D.at_ wn hx hpr).mono ?_
    rintro _ v2 ⟨xv, rfl, O2, C2⟩
    have h2 := hA.below C2
    have r2 := Rd.owned O2
    obtain ⟨va, vc, rfl⟩ := owns_slice O2
    obtain ⟨yl, yw, Yl, Yw, I2⟩ := h2.R
    have e2 : ∀ j, v2.cell? ⟨X, j, none⟩ = wa.cell? ⟨X, j, none⟩ := (fun j => C2.cell (p := ⟨X, j, none⟩) lA)
    obtain ⟨m1, m2, m3, m4, m5⟩ := cellsAt.out v2 e2
    clear e2
    go_wp2_with fail
    refine (rread_is I2 ok hx hpr).mono ?_
    rintro _ v3 ⟨xw, rfl, r3, C3⟩
    have h3 := h2.below C3
    obtain ⟨wa2, wc2, rfl⟩ := r3.form
    go_wp2_with fail
    refine (same_is (r2.below C3) r3 (sameB_self _)).mono ?_
    rintro _ v4 ⟨rfl, nq, hq⟩
    have C4 : Below v3.heap.size v3 v4 := by rw [hq]; exact (Below.refl _ _).drewN _
    have FF : Hid (∃ G', Both u1 v4 db rb G' PL) := ⟨G, by rw [HP.out]; exact h3.below C4⟩
    clear C4 h3 r3 C3 I2 h2 r2 O2 C2 m1 m2 m3 m4 m5 hA HP cellsAt hq hx hpr
    go_wp2
    go_ret
    exact ⟨rfl, FF.out⟩
  have HP : Hid (PL = d) := by show PL = d; rw [hPL.out]; unfold playS; simp [k1, k3, k4, k5, k6, k7]
  have z1 : (kd == 1) = false := beq_eq_false_iff_ne.2 k1
  have z2 : (kd == 2) = false := beq_eq_false_iff_ne.2 k2
  have z3 : (kd == 3) = false := beq_eq_false_iff_ne.2 k3
  have z4 : (kd == 4) = false := beq_eq_false_iff_ne.2 k4
  have z5 : (kd == 5) = false := beq_eq_false_iff_ne.2 k5
  have z6 : (kd == 6) = false := beq_eq_false_iff_ne.2 k6
  have z7 : (kd == 7) = false := beq_eq_false_iff_ne.2 k7
  have FF : Hid (∃ G', Both u1 wa db rb G' PL) := ⟨G, by rw [HP.out]; exact hA⟩
  rw [hwa] at FF
  clear hPL hA HP cellsAt k1 k2 k3 k4 k5 k6 k7 a0 a1 a2 a3 a4 a5 lA hwa nX rX
  go_enter Try.func13, Try.ntmps13
  go_wp2
  go_ret
  exact ⟨rfl, FF.out⟩
end
end Go.Proofs.Ytabcbmabimommaa.Gf

