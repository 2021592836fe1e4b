/- TEXTS JOINED: ArDid, ArVec. -/
import Derived.Test.YtgahaebfgmbckaaGreatTome24
namespace Go.Proofs.YtgahaebfgmbckaaGreat.Gf
set_option linter.unusedVariables false
set_option linter.unusedSimpArgs false
open Go.RowKit
/-- both arrays, behind the same calls -/
structure BothA (u1 w : World) (ab rb : Nat) (G HR : Nat → Prop) (a : ArS) : Prop where
  D : ArB w u1.heap.size ab G a
  R : RaAt w rb HR G a
  rN : ∀ k, HR k → u1.heap.size ≤ k
  B : Below u1.heap.size u1 w
theorem RaAt.lt {w : World} {rb : Nat} {HR GA : Nat → Prop} {a : ArS} (h : RaAt w rb HR GA a) : ∀ k, HR k → k < w.heap.size := by
  obtain ⟨xb, yb, cx, cy, rd, h, ok⟩ := h
  exact h.lt
section
variable {u1 w w2 w3 : World} {ab rb : Nat} {G G2 HR : Nat → Prop} {a a' : ArS}
theorem BothA.below {w' : World} (h : BothA u1 w ab rb G HR a) (hb : Below w.heap.size w w') : BothA u1 w' ab rb G HR a := ⟨h.D.below hb, h.R.below hb, h.rN, h.B.step12 hb h.B.size⟩
/-- behind both calls -/
theorem BothA.step (h : BothA u1 w ab rb G HR a) (hD : ArAt w2 ab G2 a') (g : Grew G w G2 w2) (hR : RaAt w3 rb HR G2 a') (t : TurnG HR w2 w3) : BothA u1 w3 ab rb G2 HR a' := by
  have D2 := h.D.grew hD g
  have hs := D2.size
  exact ⟨⟨D2.at_.other hR.dis t, D2.low, Nat.le_trans hs t.size⟩, hR, h.rN, (h.B.trans (h.D.bel g)).trans (t.below h.rN hs)⟩
def DidA (u1 : World) (ab rb : Nat) (HR : Nat → Prop) (a' : ArS) (e : Ending) (w' : World) : Prop := e = .returned (.bool true) ∧ ∃ G', BothA u1 w' ab rb G' HR a'
theorem rwriteA_is (h : RaAt w rb HR G a) {i ad : Int} {v : Value} {p : List UInt8} (hp : Rd w v p) {x : Int} (hx : wrAX a i ad p = x) : Calls Tryz.prog 44 #[.pointer (some ⟨rb, 0, none⟩), .int .i64 i, .int .i64 ad, v] w (LeavesRA w rb HR G (wrAS a i ad p) (.int .i64 x)) := by
  rw [← hx]; exact rwriteA_any h hp
theorem rflushA_is (h : RaAt w rb HR G a) {x : Int} (hx : flAX a = x) : Calls Tryz.prog 48 #[.pointer (some ⟨rb, 0, none⟩)] w (LeavesRA w rb HR G (flAS a) (.int .i64 x)) := by
  rw [← hx]; exact rflushA_any h
theorem rfailA_is (h : RaAt w rb HR G a) {i x : Int} (hx : thX a i = x) : Calls Tryz.prog 54 #[.pointer (some ⟨rb, 0, none⟩), .int .i64 i] w (LeavesRA w rb HR G (faAS a i) (.int .i64 x)) := by
  rw [← hx]; exact rfailA_any h
theorem rreplA_is (h : RaAt w rb HR G a) {i x : Int} (hx : thX a i = x) : Calls Tryz.prog 55 #[.pointer (some ⟨rb, 0, none⟩), .int .i64 i] w (LeavesRA w rb HR G (rpAS a i) (.int .i64 x)) := by
  rw [← hx]; exact rreplA_any h
theorem arepl_is (h : ArAt w ab G a) {i : Int} (hi : (Lit.int .i64 i).wf = true) {x : Int} (hx : thX a i = x) : Calls Tryz.prog 12 #[.pointer (some ⟨ab, 0, none⟩), .int .i64 i] w (LeavesA w ab G (rpAS a i) (.int .i64 x)) := by
  rw [← hx]; exact arepl_any h hi
theorem rcorrA_is (h : RaAt w rb HR G a) {i ad at_ : Int} (hat : (Lit.int .i64 at_).wf = true) (y : UInt8) {x : Int} (hx : coAX a i ad = x) : Calls Tryz.prog 57 #[.pointer (some ⟨rb, 0, none⟩), .int .i64 i, .int .i64 ad, .int .i64 at_, .int .u8 ((y.toNat : Nat) : Int)] w (LeavesRA w rb HR G (coAS a i ad at_ y) (.int .i64 x)) := by
  rw [← hx]; exact rcorrA_any h hat y
theorem acorr_is (h : ArAt w ab G a) {i ad at_ : Int} (hi : (Lit.int .i64 i).wf = true) (ha : (Lit.int .i64 ad).wf = true) (hat : (Lit.int .i64 at_).wf = true) (y : UInt8) {x : Int} (hx : coAX a i ad = x) : Calls Tryz.prog 56 #[.pointer (some ⟨ab, 0, none⟩), .int .i64 i, .int .i64 ad, .int .i64 at_, .int .u8 ((y.toNat : Nat) : Int)] w (LeavesA w ab G (coAS a i ad at_ y) (.int .i64 x)) := by
  rw [← hx]; exact acorr_any h hi ha hat y
theorem rreadA_is (h : RaAt w rb HR G a) {i ad x : Int} (hx : rdAX a i ad = x) {p : List UInt8} (hp : rdAB a i ad = p) : Calls Tryz.prog 46 #[.pointer (some ⟨rb, 0, none⟩), .int .i64 i, .int .i64 ad] w (TellsR w x p) := by
  rw [← hx, ← hp]; exact rreadA_any h
end
section
variable {u1 w : World} {ab rb : Nat} {G HR : Nat → Prop} {a : ArS}
set_option maxRecDepth 100000 in
set_option maxHeartbeats 4000000 in
theorem didA_any (h : BothA u1 w ab rb G HR a) {kd cd cn cm : Int} {cy : UInt8} {cb : List UInt8} {ck : List VI} {ba ka : Option Addr} {bc kc : Nat} (pb : Rd u1 (.slice ba cb.length bc) cb) (pk : RdII u1 (.slice ka ck.length kc) ck) (wd : (Lit.int .i64 cd).wf = true) (wn : (Lit.int .i64 cn).wf = true) (wm : (Lit.int .i64 cm).wf = true) (hk : ∀ r ∈ ck, r.2.length ≤ 9223372036854775807) :
    Calls Tryz.prog 20 #[.pointer (some ⟨ab, 0, none⟩), .pointer (some ⟨rb, 0, none⟩), .agg #[.int .i64 kd, .int .i64 cd, .int .i64 cn, .int .i64 cm, .int .u8 ((cy.toNat : Nat) : Int), .slice ba cb.length bc, .slice ka ck.length kc]] w (DidA u1 ab rb HR (playA a ⟨kd, cd, cn, cm, cy, .slice ba cb.length bc, .slice ka ck.length kc, cb, ck⟩)) := by
  obtain ⟨PL, hPL⟩ : ∃ PL, Hid (PL = playA a ⟨kd, cd, cn, cm, cy, .slice ba cb.length bc, .slice ka ck.length kc, cb, ck⟩) := ⟨_, rfl⟩
  rw [← hPL.out]
  obtain ⟨wa, hwa⟩ : ∃ x, x = w.alloc (.cells #[.int .i64 kd, .int .i64 cd, .int .i64 cn, .int .i64 cm, .int .u8 ((cy.toNat : Nat) : Int), .slice ba cb.length bc, .slice ka ck.length kc] 36) := ⟨_, rfl⟩
  have bA : Below w.heap.size w wa := by rw [hwa]; exact belA _ _
  have cA : ∀ j, wa.cell? ⟨w.heap.size, j, none⟩ = (#[.int .i64 kd, .int .i64 cd, .int .i64 cn, .int .i64 cm, .int .u8 ((cy.toNat : Nat) : Int), .slice ba cb.length bc, .slice ka ck.length kc] : Array Value)[j]? := fun j => by rw [hwa]; exact World.cell?_alloc_new _ _ _ _
  have lA : w.heap.size < wa.heap.size := by rw [hwa]; simp
  have hA := h.below bA
  have nX : Hid (¬ G w.heap.size) := fun e => by have := h.D.at_.lt _ e; omega
  have rX : Hid (¬ HR w.heap.size) := fun e => by have := h.R.lt _ e; omega
  clear h bA
  obtain ⟨X, hX⟩ : ∃ X, Hid (X = w.heap.size) := ⟨_, rfl⟩
  rw [← hX.out] at cA lA nX rX
  have a0 := cA 0
  have a1 := cA 1
  have a2 := cA 2
  have a3 := cA 3
  have a4 := cA 4
  have a5 := cA 5
  have a6 := cA 6
  simp at a0 a1 a2 a3 a4 a5 a6
  have cellsAt : Hid (∀ W : World, (∀ j, W.cell? ⟨X, j, none⟩ = wa.cell? ⟨X, j, none⟩) → W.cell? ⟨X, 1, none⟩ = some (.int .i64 cd) ∧ W.cell? ⟨X, 2, none⟩ = some (.int .i64 cn) ∧ W.cell? ⟨X, 3, none⟩ = some (.int .i64 cm) ∧ W.cell? ⟨X, 4, none⟩ = some (.int .u8 ((cy.toNat : Nat) : Int)) ∧ W.cell? ⟨X, 5, none⟩ = some (.slice ba cb.length bc) ∧ W.cell? ⟨X, 6, none⟩ = some (.slice ka ck.length kc)) := fun W hW => ⟨(hW 1).trans a1, (hW 2).trans a2, (hW 3).trans a3, (hW 4).trans a4, (hW 5).trans a5, (hW 6).trans a6⟩
  clear cA
  by_cases k1 : kd = 1
  · subst k1
    obtain ⟨x, hx⟩ : ∃ x, wrAX a cd cn cb = x := ⟨_, rfl⟩
    have HP : Hid (PL = wrAS a cd cn cb) := by rw [hPL.out]; rfl
    have bD : Below wa.heap.size wa wa.drew := (Below.refl _ _).drew
    have hD := hA.below bD
    have pbD := pb.below hD.B
    clear hPL hA
    go_enter Tryz.func20, Tryz.ntmps20
    go_wp2_with fail
    rw [← hwa]
    rw [← hX.out]
    clear hwa hX
    go_region_held3 (fun wx => wx.cell? ⟨X, 1, none⟩ = some (.int .i64 cd) ∧ wx.cell? ⟨X, 2, none⟩ = some (.int .i64 cn) ∧ wx.cell? ⟨X, 3, none⟩ = some (.int .i64 cm) ∧ wx.cell? ⟨X, 4, none⟩ = some (.int .u8 ((cy.toNat : Nat) : Int)) ∧ wx.cell? ⟨X, 5, none⟩ = some (.slice ba cb.length bc) ∧ wx.cell? ⟨X, 6, none⟩ = some (.slice ka ck.length kc)) (first | exact ⟨a1, a2, a3, a4, a5, a6⟩ | exact m3 | exact m2) (first
      | (go_at_call 43; (refine (awrite_is hD.D.at_ wd wn pbD hx rfl).mono ?_); rintro _ v2 ⟨rfl, G2, A2, g2⟩; have R2 := RaAt.other hD.R g2 A2.lt; have p2 := pb.below (hD.B.trans (hD.D.bel g2)); have e2 : ∀ j, v2.cell? ⟨X, j, none⟩ = wa.cell? ⟨X, j, none⟩ := (fun j => g2.turn.cell (p := ⟨X, j, none⟩) lA nX.out); have m2 := cellsAt.out v2 e2; have lX := Nat.lt_of_lt_of_le lA g2.turn.size)
      | (go_at_call 44; (refine (rwriteA_is R2 p2 hx).mono ?_); rintro _ v3 ⟨rfl, R3, t3⟩; have F := hD.step A2 g2 R3 t3; have m3 := cellsAt.out v3 (fun j => (t3.cell (p := ⟨X, j, none⟩) lX rX.out).trans (e2 j))))
    all_goals
      have FF : Hid (∃ G', BothA u1 v3 ab rb G' HR PL) := ⟨G2, by rw [HP.out]; exact F⟩
      clear F R3 t3 R2 p2 e2 m2 m3 lX A2 g2 hD pbD bD HP cellsAt
      go_wp2
      go_ret
      exact ⟨rfl, FF.out⟩
  by_cases k6 : kd = 6
  · subst k6
    obtain ⟨x, hx⟩ : ∃ x, thX a cd = x := ⟨_, rfl⟩
    have HP : Hid (PL = faAS a cd) := by rw [hPL.out]; rfl
    have bD : Below wa.heap.size wa wa.drew := (Below.refl _ _).drew
    have hD := hA.below bD
    have pbD := pb.below hD.B
    clear hPL hA
    go_enter Tryz.func20, Tryz.ntmps20
    go_wp2_with fail
    rw [← hwa]
    rw [← hX.out]
    clear hwa hX
    go_region_held3 (fun wx => wx.cell? ⟨X, 1, none⟩ = some (.int .i64 cd) ∧ wx.cell? ⟨X, 2, none⟩ = some (.int .i64 cn) ∧ wx.cell? ⟨X, 3, none⟩ = some (.int .i64 cm) ∧ wx.cell? ⟨X, 4, none⟩ = some (.int .u8 ((cy.toNat : Nat) : Int)) ∧ wx.cell? ⟨X, 5, none⟩ = some (.slice ba cb.length bc) ∧ wx.cell? ⟨X, 6, none⟩ = some (.slice ka ck.length kc)) (first | exact ⟨a1, a2, a3, a4, a5, a6⟩ | exact m3 | exact m2) (first
      | (go_at_call 53; (refine (afail_is hD.D.at_ wd hx).mono ?_); rintro _ v2 ⟨rfl, G2, A2, g2⟩; have R2 := RaAt.other hD.R g2 A2.lt; have p2 := pb.below (hD.B.trans (hD.D.bel g2)); have e2 : ∀ j, v2.cell? ⟨X, j, none⟩ = wa.cell? ⟨X, j, none⟩ := (fun j => g2.turn.cell (p := ⟨X, j, none⟩) lA nX.out); have m2 := cellsAt.out v2 e2; have lX := Nat.lt_of_lt_of_le lA g2.turn.size)
      | (go_at_call 54; (refine (rfailA_is R2 hx).mono ?_); rintro _ v3 ⟨rfl, R3, t3⟩; have F := hD.step A2 g2 R3 t3; have m3 := cellsAt.out v3 (fun j => (t3.cell (p := ⟨X, j, none⟩) lX rX.out).trans (e2 j))))
    all_goals
      have FF : Hid (∃ G', BothA u1 v3 ab rb G' HR PL) := ⟨G2, by rw [HP.out]; exact F⟩
      clear F R3 t3 R2 p2 e2 m2 m3 lX A2 g2 hD pbD bD HP cellsAt
      go_wp2
      go_ret
      exact ⟨rfl, FF.out⟩
  by_cases k7 : kd = 7
  · subst k7
    obtain ⟨x, hx⟩ : ∃ x, thX a cd = x := ⟨_, rfl⟩
    have HP : Hid (PL = rpAS a cd) := by rw [hPL.out]; rfl
    have bD : Below wa.heap.size wa wa.drew := (Below.refl _ _).drew
    have hD := hA.below bD
    have pbD := pb.below hD.B
    clear hPL hA
    go_enter Tryz.func20, Tryz.ntmps20
    go_wp2_with fail
    rw [← hwa]
    rw [← hX.out]
    clear hwa hX
    go_region_held3 (fun wx => wx.cell? ⟨X, 1, none⟩ = some (.int .i64 cd) ∧ wx.cell? ⟨X, 2, none⟩ = some (.int .i64 cn) ∧ wx.cell? ⟨X, 3, none⟩ = some (.int .i64 cm) ∧ wx.cell? ⟨X, 4, none⟩ = some (.int .u8 ((cy.toNat : Nat) : Int)) ∧ wx.cell? ⟨X, 5, none⟩ = some (.slice ba cb.length bc) ∧ wx.cell? ⟨X, 6, none⟩ = some (.slice ka ck.length kc)) (first | exact ⟨a1, a2, a3, a4, a5, a6⟩ | exact m3 | exact m2) (first
      | (go_at_call 12; (refine (arepl_is hD.D.at_ wd hx).mono ?_); rintro _ v2 ⟨rfl, G2, A2, g2⟩; have R2 := RaAt.other hD.R g2 A2.lt; have p2 := pb.below (hD.B.trans (hD.D.bel g2)); have e2 : ∀ j, v2.cell? ⟨X, j, none⟩ = wa.cell? ⟨X, j, none⟩ := (fun j => g2.turn.cell (p := ⟨X, j, none⟩) lA nX.out); have m2 := cellsAt.out v2 e2; have lX := Nat.lt_of_lt_of_le lA g2.turn.size)
      | (go_at_call 55; (refine (rreplA_is R2 hx).mono ?_); rintro _ v3 ⟨rfl, R3, t3⟩; have F := hD.step A2 g2 R3 t3; have m3 := cellsAt.out v3 (fun j => (t3.cell (p := ⟨X, j, none⟩) lX rX.out).trans (e2 j))))
    all_goals
      have FF : Hid (∃ G', BothA u1 v3 ab rb G' HR PL) := ⟨G2, by rw [HP.out]; exact F⟩
      clear F R3 t3 R2 p2 e2 m2 m3 lX A2 g2 hD pbD bD HP cellsAt
      go_wp2
      go_ret
      exact ⟨rfl, FF.out⟩
  by_cases k8 : kd = 8
  · subst k8
    obtain ⟨x, hx⟩ : ∃ x, coAX a cd cn = x := ⟨_, rfl⟩
    have HP : Hid (PL = coAS a cd cn cm cy) := by rw [hPL.out]; rfl
    have bD : Below wa.heap.size wa wa.drew := (Below.refl _ _).drew
    have hD := hA.below bD
    have pbD := pb.below hD.B
    clear hPL hA
    go_enter Tryz.func20, Tryz.ntmps20
    go_wp2_with fail
    rw [← hwa]
    rw [← hX.out]
    clear hwa hX
    go_region_held3 (fun wx => wx.cell? ⟨X, 1, none⟩ = some (.int .i64 cd) ∧ wx.cell? ⟨X, 2, none⟩ = some (.int .i64 cn) ∧ wx.cell? ⟨X, 3, none⟩ = some (.int .i64 cm) ∧ wx.cell? ⟨X, 4, none⟩ = some (.int .u8 ((cy.toNat : Nat) : Int)) ∧ wx.cell? ⟨X, 5, none⟩ = some (.slice ba cb.length bc) ∧ wx.cell? ⟨X, 6, none⟩ = some (.slice ka ck.length kc)) (first | exact ⟨a1, a2, a3, a4, a5, a6⟩ | exact m3 | exact m2) (first
      | (go_at_call 56; (refine (acorr_is hD.D.at_ wd wn wm cy hx).mono ?_); rintro _ v2 ⟨rfl, G2, A2, g2⟩; have R2 := RaAt.other hD.R g2 A2.lt; have p2 := pb.below (hD.B.trans (hD.D.bel g2)); have e2 : ∀ j, v2.cell? ⟨X, j, none⟩ = wa.cell? ⟨X, j, none⟩ := (fun j => g2.turn.cell (p := ⟨X, j, none⟩) lA nX.out); have m2 := cellsAt.out v2 e2; have lX := Nat.lt_of_lt_of_le lA g2.turn.size)
      | (go_at_call 57; (refine (rcorrA_is R2 wm cy hx).mono ?_); rintro _ v3 ⟨rfl, R3, t3⟩; have F := hD.step A2 g2 R3 t3; have m3 := cellsAt.out v3 (fun j => (t3.cell (p := ⟨X, j, none⟩) lX rX.out).trans (e2 j))))
    all_goals
      have FF : Hid (∃ G', BothA u1 v3 ab rb G' HR PL) := ⟨G2, by rw [HP.out]; exact F⟩
      clear F R3 t3 R2 p2 e2 m2 m3 lX A2 g2 hD pbD bD HP cellsAt
      go_wp2
      go_ret
      exact ⟨rfl, FF.out⟩
  by_cases k3 : kd = 3
  · subst k3
    obtain ⟨x, hx⟩ : ∃ x, flAX a = x := ⟨_, rfl⟩
    have HP : Hid (PL = flAS a) := by rw [hPL.out]; rfl
    clear hPL
    go_enter Tryz.func20, Tryz.ntmps20
    go_wp2_with fail
    rw [← hwa]
    rw [← hX.out]
    clear hwa hX
    refine (aflush_is hA.D.at_ hx rfl).mono ?_
    rintro _ v2 ⟨rfl, G2, A2, g2⟩
    have R2 := RaAt.other hA.R g2 A2.lt
    have B2 := hA.B.trans (hA.D.bel g2)
    have e2 : ∀ j, v2.cell? ⟨X, j, none⟩ = wa.cell? ⟨X, j, none⟩ := (fun j => g2.turn.cell (p := ⟨X, j, none⟩) lA nX.out)
    obtain ⟨m1, m2, m3, m4, m5, m6⟩ := cellsAt.out v2 e2
    clear e2
    go_wp2_with fail
    refine (rflushA_is R2 hx).mono ?_
    rintro _ v3 ⟨rfl, R3, t3⟩
    have F := hA.step A2 g2 R3 t3
    have FF : Hid (∃ G', BothA u1 v3 ab rb G' HR PL) := ⟨G2, by rw [HP.out]; exact F⟩
    clear F R3 t3 R2 B2 m1 m2 m3 m4 m5 m6 A2 g2 hA HP cellsAt
    go_wp2
    go_ret
    exact ⟨rfl, FF.out⟩
  by_cases k4 : kd = 4
  · subst k4
    have HP : Hid (PL = caA a cn) := by rw [hPL.out]; rfl
    clear hPL
    go_enter Tryz.func20, Tryz.ntmps20
    go_wp2_with fail
    rw [← hwa]
    rw [← hX.out]
    clear hwa hX
    refine (aafter_any hA.D.at_ wn).mono ?_
    rintro _ v2 ⟨rfl, G2, A2, g2⟩
    have R2 := RaAt.other hA.R g2 A2.lt
    have B2 := hA.B.trans (hA.D.bel g2)
    have e2 : ∀ j, v2.cell? ⟨X, j, none⟩ = wa.cell? ⟨X, j, none⟩ := (fun j => g2.turn.cell (p := ⟨X, j, none⟩) lA nX.out)
    obtain ⟨m1, m2, m3, m4, m5, m6⟩ := cellsAt.out v2 e2
    clear e2
    go_wp2_with fail
    refine (rafter_any R2 wn).mono ?_
    rintro _ v3 ⟨rfl, R3, t3⟩
    have F := hA.step A2 g2 R3 t3
    have FF : Hid (∃ G', BothA u1 v3 ab rb G' HR PL) := ⟨G2, by rw [HP.out]; exact F⟩
    clear F R3 t3 R2 B2 m1 m2 m3 m4 m5 m6 A2 g2 hA HP cellsAt
    go_wp2
    go_ret
    exact ⟨rfl, FF.out⟩
  by_cases k5 : kd = 5
  · subst k5
    have HP : Hid (PL = reAS a (ck.map (·.2))) := by rw [hPL.out]; rfl
    clear hPL
    go_enter Tryz.func20, Tryz.ntmps20
    go_wp2_with fail
    rw [← hwa]
    rw [← hX.out]
    clear hwa hX
    refine (arestart_any hA.D.at_ (ToldII.old pk hA.D.low hA.B) hk).mono ?_
    rintro _ v2 ⟨rfl, G2, A2, g2⟩
    have R2 := RaAt.other hA.R g2 A2.lt
    have B2 := hA.B.trans (hA.D.bel g2)
    have e2 : ∀ j, v2.cell? ⟨X, j, none⟩ = wa.cell? ⟨X, j, none⟩ := (fun j => g2.turn.cell (p := ⟨X, j, none⟩) lA nX.out)
    obtain ⟨m1, m2, m3, m4, m5, m6⟩ := cellsAt.out v2 e2
    clear e2
    go_wp2_with fail
    refine (rrestartA_any R2 (ToldII.old pk hA.rN B2) hk).mono ?_
    rintro _ v3 ⟨rfl, R3, t3⟩
    have F := hA.step A2 g2 R3 t3
    have FF : Hid (∃ G', BothA u1 v3 ab rb G' HR PL) := ⟨G2, by rw [HP.out]; exact F⟩
    clear F R3 t3 R2 B2 m1 m2 m3 m4 m5 m6 A2 g2 hA HP cellsAt
    go_wp2
    go_ret
    exact ⟨rfl, FF.out⟩
  by_cases k2 : kd = 2
  · subst k2
    have HP : Hid (PL = a) := by rw [hPL.out]; rfl
    clear hPL
    obtain ⟨x, hx⟩ : ∃ x, rdAX a cd cn = x := ⟨_, rfl⟩
    obtain ⟨pr, hpr⟩ : ∃ p, rdAB a cd cn = p := ⟨_, rfl⟩
    go_enter Tryz.func20, Tryz.ntmps20
    go_wp2_with fail
    rw [← hwa]
    rw [← hX.out]
    clear hwa hX
    refine (aread_is hA.D.at_ wd wn hx hpr).mono ?_
    rintro _ v2 ⟨xv, rfl, O2, C2⟩
    have h2 := hA.below C2
    have r2 := Rd.owned O2
    obtain ⟨va, vc, rfl⟩ := owns_slice O2
    have e2 : ∀ j, v2.cell? ⟨X, j, none⟩ = wa.cell? ⟨X, j, none⟩ := (fun j => C2.cell (p := ⟨X, j, none⟩) lA)
    obtain ⟨m1, m2, m3, m4, m5, m6⟩ := cellsAt.out v2 e2
    clear e2
    go_wp2_with fail
    refine (rreadA_is h2.R hx hpr).mono ?_
    rintro _ v3 ⟨xw, rfl, r3, C3⟩
    have h3 := h2.below C3
    obtain ⟨wa2, wc2, rfl⟩ := r3.form
    go_wp2_with fail
    refine (same_is (r2.below C3) r3 (sameB_self _)).mono ?_
    rintro _ v4 ⟨rfl, nq, hq⟩
    have C4 : Below v3.heap.size v3 v4 := by rw [hq]; exact (Below.refl _ _).drewN _
    have FF : Hid (∃ G', BothA u1 v4 ab rb G' HR PL) := ⟨G, by rw [HP.out]; exact h3.below C4⟩
    clear C4 h3 r3 C3 h2 r2 O2 C2 m1 m2 m3 m4 m5 m6 hA HP cellsAt hq hx hpr
    go_wp2
    go_ret
    exact ⟨rfl, FF.out⟩
  have HP : Hid (PL = a) := by show PL = a; rw [hPL.out]; unfold playA; simp [k1, k3, k4, k5, k6, k7, k8]
  have z1 : (kd == 1) = false := beq_eq_false_iff_ne.2 k1
  have z2 : (kd == 2) = false := beq_eq_false_iff_ne.2 k2
  have z3 : (kd == 3) = false := beq_eq_false_iff_ne.2 k3
  have z4 : (kd == 4) = false := beq_eq_false_iff_ne.2 k4
  have z5 : (kd == 5) = false := beq_eq_false_iff_ne.2 k5
  have z6 : (kd == 6) = false := beq_eq_false_iff_ne.2 k6
  have z7 : (kd == 7) = false := beq_eq_false_iff_ne.2 k7
  have z8 : (kd == 8) = false := beq_eq_false_iff_ne.2 k8
  have FF : Hid (∃ G', BothA u1 wa ab rb G' HR PL) := ⟨G, by rw [HP.out]; exact hA⟩
  rw [hwa] at FF
  clear hPL hA HP cellsAt k1 k2 k3 k4 k5 k6 k7 k8 a0 a1 a2 a3 a4 a5 a6 lA hwa nX rX
  go_enter Tryz.func20, Tryz.ntmps20
  go_wp2
  go_ret
  exact ⟨rfl, FF.out⟩
end
end Go.Proofs.YtgahaebfgmbckaaGreat.Gf

namespace Go.Proofs.YtgahaebfgmbckaaGreat.Gf
set_option linter.unusedVariables false
set_option linter.unusedSimpArgs false
open Go.RowKit
set_option maxRecDepth 100000 in
theorem aints_eq {w : World} {g1 g2 n c1 c2 : Nat} {f : Nat → Int} (h1 : ∀ i, i < n → w.cell? ⟨g1, i, none⟩ = some (.int .i64 (f i))) (h2 : ∀ i, i < n → w.cell? ⟨g2, i, none⟩ = some (.int .i64 (f i))) (hn : n ≤ 1000) :
    Calls Tryz.prog 27 #[.slice (some ⟨g1, 0, none⟩) n c1, .slice (some ⟨g2, 0, none⟩) n c2] w fun e w' => e = .returned (.bool true) ∧ ∃ m, w' = w.drewN m := by
  go_enter Tryz.func27, Tryz.ntmps27
  go_wp2
  go_loopw [5] (fun i wr => ∃ k : Nat, k ≤ n ∧ i = .int .i64 (k : Int) ∧ ∃ m, wr = w.drewN m) (fun i _ => n - (intOf i).toNat)
  case atStart => exact ⟨0, Nat.zero_le _, rfl, 0, rfl⟩
  case round =>
    obtain ⟨k, hk, rfl, m, rfl⟩ := hrel
    by_cases hlt : k < n
    · have hlt' : (k : Int) < (n : Int) := by omega
      have g1' : IntKind.i64.wrap ((k : Int) + 1) = ((k + 1 : Nat) : Int) := by rw [IntKind.wrap_i64]; omega
      have k1 : (w.drewN m).cell? ⟨g1, k, none⟩ = some (.int .i64 (f k)) := h1 k hlt
      have k2 : (w.drewN m).cell? ⟨g2, k, none⟩ = some (.int .i64 (f k)) := h2 k hlt
      generalize f k = y at k1 k2
      obtain ⟨wq, hq⟩ : ∃ wq, wq = w.drewN m := ⟨_, rfl⟩
      have HQ : Hid (wq = w.drewN m) := hq
      rw [← hq] at k1 k2 ⊢
      clear hq h1 h2
      go_wp2_with fail
      try go_quiet (fail)
      try go_wp2
      go_roundw
      case rel => exact ⟨k + 1, by omega, by go_num, by first | exact ⟨_, HQ.out⟩ | exact ⟨_, by rw [HQ.out]; exact World.drewN_drewN _ _ _⟩⟩
      case measure => simp [intOf]; omega
    · have hlt' : ¬ (k : Int) < (n : Int) := by omega
      clear h1 h2
      go_wp2
      go_ret
      exact ⟨rfl, m, rfl⟩
set_option maxRecDepth 100000 in
theorem abools_eq {w : World} {g1 g2 n c1 c2 : Nat} {f : Nat → Bool} (h1 : ∀ i, i < n → w.cell? ⟨g1, i, none⟩ = some (.bool (f i))) (h2 : ∀ i, i < n → w.cell? ⟨g2, i, none⟩ = some (.bool (f i))) (hn : n ≤ 1000) :
    Calls Tryz.prog 24 #[.slice (some ⟨g1, 0, none⟩) n c1, .slice (some ⟨g2, 0, none⟩) n c2] w fun e w' => e = .returned (.bool true) ∧ ∃ m, w' = w.drewN m := by
  go_enter Tryz.func24, Tryz.ntmps24
  go_wp2
  go_loopw [5] (fun i wr => ∃ k : Nat, k ≤ n ∧ i = .int .i64 (k : Int) ∧ ∃ m, wr = w.drewN m) (fun i _ => n - (intOf i).toNat)
  case atStart => exact ⟨0, Nat.zero_le _, rfl, 0, rfl⟩
  case round =>
    obtain ⟨k, hk, rfl, m, rfl⟩ := hrel
    by_cases hlt : k < n
    · have hlt' : (k : Int) < (n : Int) := by omega
      have g1' : IntKind.i64.wrap ((k : Int) + 1) = ((k + 1 : Nat) : Int) := by rw [IntKind.wrap_i64]; omega
      have k1 : (w.drewN m).cell? ⟨g1, k, none⟩ = some (.bool (f k)) := h1 k hlt
      have k2 : (w.drewN m).cell? ⟨g2, k, none⟩ = some (.bool (f k)) := h2 k hlt
      generalize f k = y at k1 k2
      obtain ⟨wq, hq⟩ : ∃ wq, wq = w.drewN m := ⟨_, rfl⟩
      have HQ : Hid (wq = w.drewN m) := hq
      rw [← hq] at k1 k2 ⊢
      clear hq h1 h2
      cases y
      all_goals
        go_wp2_with fail
        try go_quiet (fail)
        try go_wp2
        go_roundw
        case rel => exact ⟨k + 1, by omega, by go_num, by first | exact ⟨_, HQ.out⟩ | exact ⟨_, by rw [HQ.out]; exact World.drewN_drewN _ _ _⟩⟩
        case measure => simp [intOf]; omega
    · have hlt' : ¬ (k : Int) < (n : Int) := by omega
      clear h1 h2
      go_wp2
      go_ret
      exact ⟨rfl, m, rfl⟩
end Go.Proofs.YtgahaebfgmbckaaGreat.Gf
