/- TEXTS JOINED: DkDone, DkLay, DkKeys, DkBy, DkAw, PoSame. -/
import Derived.Test.YtabcbmabimommaaTome3
import Derived.Test.YtabcbmabimommaaTome2
import Derived.Shelf.SlIterI.Nil
import Derived.Shelf.SortM.Plain
import Derived.Shelf.SortM.SortNone
import Derived.Ground.GgzProg
import Derived.Ground.SlgmProg
import Derived.Test.YtabcbmabimommaaTome1
/-
  THE STATEMENTS' HELPERS OF LAYER 12: 'small' (is a call's load little?) and 'done' (a disk behind a script).
-/


namespace Go.Proofs.Ytabcbmabimommaa.Gf
set_option linter.unusedVariables false
set_option linter.unusedSimpArgs false
open Go.RowKit

theorem small_any {w : World} {k n m y : Int} {a b : Option Addr} {bl bc kl kc : Nat} : Calls Try.prog 12 #[.agg #[.int .i64 k, .int .i64 n, .int .i64 m, .int .u8 y, .slice a bl bc, .slice b kl kc]] w fun e w' => e = .returned (.bool (decide (bl ≤ 4200 ∧ kl ≤ 200))) ∧ Below w.heap.size w w' := by
  by_cases h1 : bl ≤ 4200
  · by_cases h2 : kl ≤ 200
    · have E : decide (bl ≤ 4200 ∧ kl ≤ 200) = true := decide_eq_true ⟨h1, h2⟩
      have q1 : (bl : Int) ≤ 4200 := by omega
      have q2 : (kl : Int) ≤ 200 := by omega
      rw [E]
      clear E
      go_enter Try.func12, Try.ntmps12
      go_wp2
      go_ret
      exact ⟨rfl, (Below.refl _ _).alloc (Nat.le_refl _) _⟩
    · have E : decide (bl ≤ 4200 ∧ kl ≤ 200) = false := decide_eq_false (fun h => h2 h.2)
      have q1 : (bl : Int) ≤ 4200 := by omega
      have q2 : ¬ (kl : Int) ≤ 200 := by omega
      rw [E]
      clear E
      go_enter Try.func12, Try.ntmps12
      go_wp2
      go_ret
      exact ⟨rfl, (Below.refl _ _).alloc (Nat.le_refl _) _⟩
  · have E : decide (bl ≤ 4200 ∧ kl ≤ 200) = false := decide_eq_false (fun h => h1 h.1)
    have q1 : ¬ (bl : Int) ≤ 4200 := by omega
    rw [E]
    clear E
    go_enter Try.func12, Try.ntmps12
    go_wp2
    go_ret
    exact ⟨rfl, (Below.refl _ _).alloc (Nat.le_refl _) _⟩
/-- a call of a script, by its place -/
theorem RdC.at {w : World} {va : Option Addr} {vc : Nat} {L : List CallR} (h : RdC w (.slice va L.length vc) L) {k : Nat} (hk : k < L.length) : ∃ b off, va = some ⟨b, off, none⟩ ∧ b < w.heap.size ∧ CallAt w b (off + k * 6) (L.getD k default) := by
  rcases h with ⟨_, _, h1, _⟩ | ⟨b, off, c, h1, h2, h3, h4, h5⟩
  · rw [h1] at hk; simp at hk
  · simp at h2
    exact ⟨b, off, h2.1, h4, h5 k hk⟩
def DoneD (w : World) (n : Int) (L : List CallR) (e : Ending) (w' : World) : Prop := ∃ db G, e = .returned (.pointer (some ⟨db, 0, none⟩)) ∧ DiskAt w' db G (runS (newD n.toNat) (L.take 60)) ∧ (∀ k, G k → w.heap.size ≤ k) ∧ Below w.heap.size w w'
set_option maxRecDepth 100000 in
set_option maxHeartbeats 4000000 in
theorem done_any {w : World} {n : Int} {v : Value} {L : List CallR} (h1 : 1 ≤ n) (h2 : n ≤ 4096) (hL : RdC w v L) :
    Calls Try.prog 18 #[.int .i64 n, v] w (DoneD w n L) := by
  obtain ⟨va, vc, rfl⟩ := hL.form
  go_enter Try.func18, Try.ntmps18
  go_wp2_with fail
  refine (dmake_any h1 h2).mono ?_
  rintro _ w1 ⟨db, G, rfl, hD, hG, hB⟩
  have START : Hid (∃ G, DiskAt w1 db G (runS (newD n.toNat) (L.take 0)) ∧ (∀ g, G g → w.heap.size ≤ g) ∧ Below w.heap.size w w1) := ⟨G, hD, hG, hB⟩
  clear hD hG hB
  go_wp2
  go_loopw [7] (fun i wr => ∃ k : Nat, k ≤ L.length ∧ k ≤ 60 ∧ i = .int .i64 (k : Int) ∧ ∃ G, DiskAt wr db G (runS (newD n.toNat) (L.take k)) ∧ (∀ g, G g → w.heap.size ≤ g) ∧ Below w.heap.size w wr) (fun i _ => 60 - (intOf i).toNat)
  case atStart => exact ⟨0, Nat.zero_le _, Nat.zero_le _, rfl, START.out⟩
  case round =>
    obtain ⟨k, hk1, hk2, rfl, G, hD, hG, hB⟩ := hrel
    clear START
    by_cases hlt : k < L.length ∧ k < 60
    · obtain ⟨hl1, hl2⟩ := hlt
      have q1 : (k : Int) < (L.length : Int) := by omega
      have q2 : (k : Int) < 60 := by omega
      have g1 : IntKind.i64.wrap ((k : Int) + 1) = ((k + 1 : Nat) : Int) := by rw [IntKind.wrap_i64]; omega
      obtain ⟨b, off, rfl, hb, hc⟩ := hL.at hl1
      have HS : Hid (runS (newD n.toNat) (L.take (k + 1)) = stepS (runS (newD n.toNat) (L.take k)) (L.getD k default)) := runS_take hl1
      obtain ⟨c, hcc⟩ : ∃ c, c = L.getD k default := ⟨_, rfl⟩
      rw [← hcc] at hc HS
      clear hcc
      obtain ⟨d, hd⟩ : ∃ d, d = runS (newD n.toNat) (L.take k) := ⟨_, rfl⟩
      rw [← hd] at hD HS
      clear hd
      have hcw := hc.below hb (hB.mono (Nat.le_refl _))
      obtain ⟨kd, cn, cm, cy, cvb, cvk, cb, ck⟩ := c
      obtain ⟨c0, c1, c2, c3, c4, c5, wk, wn, wm, _, _, wi⟩ := hcw
      have rb : Rd w cvb cb := hc.rb
      have rk : RdI w cvk ck := hc.rk
      simp only at c0 c1 c2 c3 c4 c5 wk wn wm wi
      clear hc
      obtain ⟨ba, bc, rfl⟩ := rb.form
      obtain ⟨ka, kc, rfl⟩ := rk.form
      have AK : ApartG G (.slice ka ck.length kc) := by
        intro x m c e
        rcases rk with ⟨_, _, h3, _⟩ | ⟨b3, o3, c3, h3, h4, _, h5, _⟩
        · simp at e; rw [h3] at e; simp at e; exact Or.inl e.2.1.symm
        · simp at e h4
          obtain ⟨e1, _⟩ := e
          rw [h4.1] at e1
          cases e1
          exact Or.inr (fun h => by have := hG _ h; simp at this; omega)
      have SM : Hid (∀ W, Calls Try.prog 12 #[.agg #[.int .i64 kd, .int .i64 cn, .int .i64 cm, .int .u8 ((cy.toNat : Nat) : Int), .slice ba cb.length bc, .slice ka ck.length kc]] W fun e w' => e = .returned (.bool (decide (cb.length ≤ 4200 ∧ ck.length ≤ 200))) ∧ Below W.heap.size W w') := fun W => small_any
      have NX : Hid (∀ W, Below (wr.alloc (.cells #[.int .i64 kd, .int .i64 cn, .int .i64 cm, .int .u8 ((cy.toNat : Nat) : Int), .slice ba cb.length bc, .slice ka ck.length kc] 35)).heap.size (wr.alloc (.cells #[.int .i64 kd, .int .i64 cn, .int .i64 cm, .int .u8 ((cy.toNat : Nat) : Int), .slice ba cb.length bc, .slice ka ck.length kc] 35)) W →
          Below wr.heap.size wr W ∧ ∀ j, W.cell? ⟨wr.heap.size, j, none⟩ = (#[.int .i64 kd, .int .i64 cn, .int .i64 cm, .int .u8 ((cy.toNat : Nat) : Int), .slice ba cb.length bc, .slice ka ck.length kc] : Array Value)[j]?) := fun W h =>
        ⟨((Below.refl _ _).alloc (Nat.le_refl _) _).trans (h.mono (by simp)), fun j => (h.cell (p := ⟨wr.heap.size, j, none⟩) (by simp)).trans (World.cell?_alloc_new _ _ _ _)⟩
      by_cases hs : cb.length ≤ 4200 ∧ ck.length ≤ 200
      · have ES : decide (cb.length ≤ 4200 ∧ ck.length ≤ 200) = true := decide_eq_true hs
        rw [ES] at SM
        obtain ⟨PL, hPL⟩ : ∃ PL, Hid (PL = playS d ⟨kd, cn, cm, cy, .slice ba cb.length bc, .slice ka ck.length kc, cb, ck⟩) := ⟨_, rfl⟩
        have HP : Hid (runS (newD n.toNat) (L.take (k + 1)) = PL) := by
          show _ = _
          rw [HS.out, hPL.out]
          exact if_pos hs
        have END : Hid (∀ W w3 G3, Below wr.heap.size wr W → DiskAt w3 db G3 PL → Grew G W G3 w3 → ∃ G, DiskAt w3 db G (runS (newD n.toNat) (L.take (k + 1))) ∧ (∀ g, G g → w.heap.size ≤ g) ∧ Below w.heap.size w w3) := by
          intro W w3 G3 hW hD3 hg3
          have h5 : w.heap.size ≤ W.heap.size := Nat.le_trans hB.size hW.size
          refine ⟨G3, by rw [HP.out]; exact hD3, hg3.base hG h5, (hB.trans (hW.mono hB.size)).trans (hg3.below hG h5)⟩
        clear HS HP ES
        by_cases k1 : kd = 1
        · subst k1
          have HQ : Hid (PL = wrS d cn cb) := by rw [hPL.out]; rfl
          clear hPL
          go_wp2_with fail
          refine (SM.out _).mono ?_
          rintro _ w2 ⟨rfl, B2⟩
          obtain ⟨B3, X⟩ := NX.out _ B2
          have x0 := X 0
          have x1 := X 1
          have x2 := X 2
          have x3 := X 3
          have x4 := X 4
          have x5 := X 5
          simp at x0 x1 x2 x3 x4 x5
          have D2 := hD.below B3
          have R2 := hB.trans (B3.mono hB.size)
          clear X B2 NX SM hD c0 c1 c2 c3 c4 c5
          go_wp2_with fail
          refine (dwrite_any D2 wn (rb.below R2)).mono ?_
          rintro _ w3 ⟨rfl, G3, D3, g3⟩
          have E2 := END.out _ w3 G3 B3 (by rw [HQ.out]; exact D3) g3
          have E3 : Hid (∃ G, DiskAt w3 db G (runS (newD n.toNat) (L.take (k + 1))) ∧ (∀ g, G g → w.heap.size ≤ g) ∧ Below w.heap.size w w3) := E2
          clear E2 END D3 g3 D2 R2 B3 AK rb rk wi hB hG x0 x1 x2 x3 x4 x5 HQ
          go_wp2
          go_roundw
          case rel => exact ⟨k + 1, by omega, by omega, by go_num, E3.out⟩
          case measure => simp [intOf]; omega
        have z1 : (kd == 1) = false := beq_eq_false_iff_ne.2 k1
        by_cases k3 : kd = 3
        · subst k3
          have HQ : Hid (PL = flS d) := by rw [hPL.out]; rfl
          clear hPL
          go_wp2_with fail
          refine (SM.out _).mono ?_
          rintro _ w2 ⟨rfl, B2⟩
          obtain ⟨B3, X⟩ := NX.out _ B2
          have x0 := X 0
          have x1 := X 1
          have x2 := X 2
          have x3 := X 3
          have x4 := X 4
          have x5 := X 5
          simp at x0 x1 x2 x3 x4 x5
          have D2 := hD.below B3
          have R2 := hB.trans (B3.mono hB.size)
          clear X B2 NX SM hD c0 c1 c2 c3 c4 c5
          go_wp2_with fail
          refine (dflush_any D2).mono ?_
          rintro _ w3 ⟨rfl, G3, D3, g3⟩
          have E2 := END.out _ w3 G3 B3 (by rw [HQ.out]; exact D3) g3
          have E3 : Hid (∃ G, DiskAt w3 db G (runS (newD n.toNat) (L.take (k + 1))) ∧ (∀ g, G g → w.heap.size ≤ g) ∧ Below w.heap.size w w3) := E2
          clear E2 END D3 g3 D2 R2 B3 AK rb rk wi hB hG x0 x1 x2 x3 x4 x5 HQ
          go_wp2
          go_roundw
          case rel => exact ⟨k + 1, by omega, by omega, by go_num, E3.out⟩
          case measure => simp [intOf]; omega
        have z3 : (kd == 3) = false := beq_eq_false_iff_ne.2 k3
        by_cases k4 : kd = 4
        · subst k4
          have HQ : Hid (PL = crS d ck) := by rw [hPL.out]; rfl
          clear hPL
          go_wp2_with fail
          refine (SM.out _).mono ?_
          rintro _ w2 ⟨rfl, B2⟩
          obtain ⟨B3, X⟩ := NX.out _ B2
          have x0 := X 0
          have x1 := X 1
          have x2 := X 2
          have x3 := X 3
          have x4 := X 4
          have x5 := X 5
          simp at x0 x1 x2 x3 x4 x5
          have D2 := hD.below B3
          have R2 := hB.trans (B3.mono hB.size)
          clear X B2 NX SM hD c0 c1 c2 c3 c4 c5
          go_wp2_with fail
          refine (dcrash_any D2 (rk.below R2) wi AK (by omega)).mono ?_
          rintro _ w3 ⟨rfl, G3, D3, g3⟩
          have E2 := END.out _ w3 G3 B3 (by rw [HQ.out]; exact D3) g3
          have E3 : Hid (∃ G, DiskAt w3 db G (runS (newD n.toNat) (L.take (k + 1))) ∧ (∀ g, G g → w.heap.size ≤ g) ∧ Below w.heap.size w w3) := E2
          clear E2 END D3 g3 D2 R2 B3 AK rb rk wi hB hG x0 x1 x2 x3 x4 x5 HQ
          go_wp2
          go_roundw
          case rel => exact ⟨k + 1, by omega, by omega, by go_num, E3.out⟩
          case measure => simp [intOf]; omega
        have z4 : (kd == 4) = false := beq_eq_false_iff_ne.2 k4
        by_cases k5 : kd = 5
        · subst k5
          have HQ : Hid (PL = faS d) := by rw [hPL.out]; rfl
          clear hPL
          go_wp2_with fail
          refine (SM.out _).mono ?_
          rintro _ w2 ⟨rfl, B2⟩
          obtain ⟨B3, X⟩ := NX.out _ B2
          have x0 := X 0
          have x1 := X 1
          have x2 := X 2
          have x3 := X 3
          have x4 := X 4
          have x5 := X 5
          simp at x0 x1 x2 x3 x4 x5
          have D2 := hD.below B3
          have R2 := hB.trans (B3.mono hB.size)
          clear X B2 NX SM hD c0 c1 c2 c3 c4 c5
          go_wp2_with fail
          refine (dfail_any D2).mono ?_
          rintro _ w3 ⟨rfl, G3, D3, g3⟩
          have E2 := END.out _ w3 G3 B3 (by rw [HQ.out]; exact D3) g3
          have E3 : Hid (∃ G, DiskAt w3 db G (runS (newD n.toNat) (L.take (k + 1))) ∧ (∀ g, G g → w.heap.size ≤ g) ∧ Below w.heap.size w w3) := E2
          clear E2 END D3 g3 D2 R2 B3 AK rb rk wi hB hG x0 x1 x2 x3 x4 x5 HQ
          go_wp2
          go_roundw
          case rel => exact ⟨k + 1, by omega, by omega, by go_num, E3.out⟩
          case measure => simp [intOf]; omega
        have z5 : (kd == 5) = false := beq_eq_false_iff_ne.2 k5
        by_cases k6 : kd = 6
        · subst k6
          have HQ : Hid (PL = reS d) := by rw [hPL.out]; rfl
          clear hPL
          go_wp2_with fail
          refine (SM.out _).mono ?_
          rintro _ w2 ⟨rfl, B2⟩
          obtain ⟨B3, X⟩ := NX.out _ B2
          have x0 := X 0
          have x1 := X 1
          have x2 := X 2
          have x3 := X 3
          have x4 := X 4
          have x5 := X 5
          simp at x0 x1 x2 x3 x4 x5
          have D2 := hD.below B3
          have R2 := hB.trans (B3.mono hB.size)
          clear X B2 NX SM hD c0 c1 c2 c3 c4 c5
          go_wp2_with fail
          refine (drepl_any D2).mono ?_
          rintro _ w3 ⟨rfl, G3, D3, g3⟩
          have E2 := END.out _ w3 G3 B3 (by rw [HQ.out]; exact D3) g3
          have E3 : Hid (∃ G, DiskAt w3 db G (runS (newD n.toNat) (L.take (k + 1))) ∧ (∀ g, G g → w.heap.size ≤ g) ∧ Below w.heap.size w w3) := E2
          clear E2 END D3 g3 D2 R2 B3 AK rb rk wi hB hG x0 x1 x2 x3 x4 x5 HQ
          go_wp2
          go_roundw
          case rel => exact ⟨k + 1, by omega, by omega, by go_num, E3.out⟩
          case measure => simp [intOf]; omega
        have z6 : (kd == 6) = false := beq_eq_false_iff_ne.2 k6
        by_cases k7 : kd = 7
        · subst k7
          have HQ : Hid (PL = coS d cn cm cy) := by rw [hPL.out]; rfl
          clear hPL
          go_wp2_with fail
          refine (SM.out _).mono ?_
          rintro _ w2 ⟨rfl, B2⟩
          obtain ⟨B3, X⟩ := NX.out _ B2
          have x0 := X 0
          have x1 := X 1
          have x2 := X 2
          have x3 := X 3
          have x4 := X 4
          have x5 := X 5
          simp at x0 x1 x2 x3 x4 x5
          have D2 := hD.below B3
          have R2 := hB.trans (B3.mono hB.size)
          clear X B2 NX SM hD c0 c1 c2 c3 c4 c5
          go_wp2_with fail
          refine (dcorr_any D2 wn wm cy).mono ?_
          rintro _ w3 ⟨rfl, G3, D3, g3⟩
          have E2 := END.out _ w3 G3 B3 (by rw [HQ.out]; exact D3) g3
          have E3 : Hid (∃ G, DiskAt w3 db G (runS (newD n.toNat) (L.take (k + 1))) ∧ (∀ g, G g → w.heap.size ≤ g) ∧ Below w.heap.size w w3) := E2
          clear E2 END D3 g3 D2 R2 B3 AK rb rk wi hB hG x0 x1 x2 x3 x4 x5 HQ
          go_wp2
          go_roundw
          case rel => exact ⟨k + 1, by omega, by omega, by go_num, E3.out⟩
          case measure => simp [intOf]; omega
        have z7 : (kd == 7) = false := beq_eq_false_iff_ne.2 k7
        have HQ : Hid (PL = d) := by show PL = d; rw [hPL.out]; unfold playS; simp [k1, k3, k4, k5, k6, k7]
        clear k1 k3 k4 k5 k6 k7
        clear hPL
        go_wp2_with fail
        refine (SM.out _).mono ?_
        rintro _ w2 ⟨rfl, B2⟩
        obtain ⟨B3, X⟩ := NX.out _ B2
        have x0 := X 0
        have x1 := X 1
        have x2 := X 2
        have x3 := X 3
        have x4 := X 4
        have x5 := X 5
        simp at x0 x1 x2 x3 x4 x5
        have D2 := hD.below B3
        have R2 := hB.trans (B3.mono hB.size)
        clear X B2 NX SM hD c0 c1 c2 c3 c4 c5
        go_wp2_with fail
        have E3 : Hid (∃ G, DiskAt w2 db G (runS (newD n.toNat) (L.take (k + 1))) ∧ (∀ g, G g → w.heap.size ≤ g) ∧ Below w.heap.size w w2) := END.out _ w2 G B3 (by rw [HQ.out]; exact D2) (Grew.refl G w2)
        clear END D2 R2 B3 AK rb rk wi hB hG x0 x1 x2 x3 x4 x5 HQ
        go_roundw
        case rel => exact ⟨k + 1, by omega, by omega, by go_num, E3.out⟩
        case measure => simp [intOf]; omega
      · have ES : decide (cb.length ≤ 4200 ∧ ck.length ≤ 200) = false := decide_eq_false hs
        rw [ES] at SM
        have HP : Hid (runS (newD n.toNat) (L.take (k + 1)) = d) := by
          show _ = _
          rw [HS.out]
          exact if_neg hs
        clear HS ES
        go_wp2_with fail
        refine (SM.out _).mono ?_
        rintro _ w2 ⟨rfl, B2⟩
        obtain ⟨B3, X⟩ := NX.out _ B2
        have E3 : Hid (∃ G, DiskAt w2 db G (runS (newD n.toNat) (L.take (k + 1))) ∧ (∀ g, G g → w.heap.size ≤ g) ∧ Below w.heap.size w w2) := ⟨G, by rw [HP.out]; exact hD.below B3, hG, hB.trans (B3.mono hB.size)⟩
        clear X B2 NX SM hD c0 c1 c2 c3 c4 c5 HP B3 AK rb rk wi hB hG hs
        go_wp2
        go_roundw
        case rel => exact ⟨k + 1, by omega, by omega, by go_num, E3.out⟩
        case measure => simp [intOf]; omega
    · have FIN : Hid (∃ G, DiskAt wr db G (runS (newD n.toNat) (L.take 60)) ∧ (∀ k, G k → w.heap.size ≤ k) ∧ Below w.heap.size w wr) := by
        refine ⟨G, ?_, hG, hB⟩
        have : L.take 60 = L.take k := by
          by_cases h3 : k = 60
          · rw [h3]
          · rw [List.take_of_length_le (by omega), List.take_of_length_le (by omega)]
        rw [this]
        exact hD
      clear hD hG hB hL
      by_cases hl1 : k < L.length
      · have q1 : (k : Int) < (L.length : Int) := by omega
        have q2 : ¬ (k : Int) < 60 := by omega
        go_wp2
        go_ret
        obtain ⟨G', r⟩ := FIN.out
        exact ⟨db, G', rfl, r⟩
      · have q1 : ¬ (k : Int) < (L.length : Int) := by omega
        go_wp2
        go_ret
        obtain ⟨G', r⟩ := FIN.out
        exact ⟨db, G', rfl, r⟩
theorem done_no {w : World} {n : Int} {v : Value} {L : List CallR} (h : ¬ (1 ≤ n ∧ n ≤ 4096)) (hL : RdC w v L) : Calls Try.prog 18 #[.int .i64 n, v] w fun e w' => e = .returned (.pointer none) ∧ w' = w := by
  obtain ⟨va, vc, rfl⟩ := hL.form
  clear hL
  by_cases h0 : 0 < L.length
  · have q1 : (0 : Int) < (L.length : Int) := by omega
    go_enter Try.func18, Try.ntmps18
    go_wp2_with fail
    refine (dmake_no h).mono ?_
    rintro _ wq ⟨rfl, hwq⟩
    rw [hwq]
    clear hwq wq
    go_wp2
    go_loopw [7] (fun i wr => i = .int .i64 0 ∧ wr = w) (fun _ _ => 0)
    case atStart => exact ⟨rfl, rfl⟩
    case round =>
      obtain ⟨rfl, rfl⟩ := hrel
      go_wp2
      go_ret
      exact ⟨rfl, rfl⟩
  · have q1 : ¬ (0 : Int) < (L.length : Int) := by omega
    go_enter Try.func18, Try.ntmps18
    go_wp2_with fail
    refine (dmake_no h).mono ?_
    rintro _ wq ⟨rfl, hwq⟩
    rw [hwq]
    clear hwq wq
    go_wp2
    go_loopw [7] (fun i wr => i = .int .i64 0 ∧ wr = w) (fun _ _ => 0)
    case atStart => exact ⟨rfl, rfl⟩
    case round =>
      obtain ⟨rfl, rfl⟩ := hrel
      go_wp2
      go_ret
      exact ⟨rfl, rfl⟩
end Go.Proofs.Ytabcbmabimommaa.Gf

/-
  THE LIBRARY's CONTRACTS OF 'maps.Keys', 'slices.Sorted', 'slices.Sort' LAID AT THIS PROGRAM: the numbers of its functions and types, by name.
-/




namespace Go.Proofs.Ytabcbmabimommaa.Gf
open Go.RowKit Go.Maps Go.Sort Go.Shelf

def laykeysA_ren : Go.Shelf.Ren := ⟨fun | 7 => 47 | 10 => 50 | n => n, fun | 23 => 57 | 26 => 3 | 3 => 32 | 28 => 71 | 0 => 0 | 27 => 70 | 33 => 73 | 4 => 4 | n => n, fun | n => n⟩
theorem laykeysA : Go.Proofs.SlLaysZI.n7 Try.prog laykeysA_ren where
  mixed := by kernel_rfl
  f7 := ⟨ "maps.Keys[map[int][]byte,int,[]byte]", by decide, Try.func47.trans (congrArg some (by kernel_rfl))⟩
  f10 := ⟨ "maps.Keys[map[int][]byte,int,[]byte]$1", by decide, Try.func50.trans (congrArg some (by kernel_rfl))⟩
  t0 := Try.underlying0
  a0 := Try.isAgg0
  z0 := Try.sizeOf0
  v0 := Try.zeroValue0
  t4 := Try.underlying4
  a4 := Try.isAgg4
  z4 := Try.sizeOf4
  v4 := Try.zeroValue4
  t23 := Try.underlying57
  a23 := Try.isAgg57
  z23 := Try.sizeOf57
  v23 := Try.zeroValue57
  t26 := Try.underlying3
  a26 := Try.isAgg3
  z26 := Try.sizeOf3
  v26 := Try.zeroValue3
  t27 := Try.underlying70
  a27 := Try.isAgg70
  z27 := Try.sizeOf70
  v27 := Try.zeroValue70
  t28 := Try.underlying71
  a28 := Try.isAgg71
  z28 := Try.sizeOf71
  v28 := Try.zeroValue71
  t33 := Try.underlying73
  a33 := Try.isAgg73
  z33 := Try.sizeOf73
  v33 := Try.zeroValue73
def laysortedA_ren : Go.Shelf.Ren := ⟨fun | 6 => 46 | 8 => 48 | 9 => 49 | 11 => 51 | 13 => 53 | 12 => 52 | 23 => 63 | 24 => 64 | 14 => 54 | 15 => 55 | 16 => 56 | 17 => 57 | 18 => 58 | 19 => 59 | 20 => 60 | 21 => 61 | 22 => 62 | 25 => 65 | 26 => 66 | 27 => 67 | 28 => 68 | 29 => 69 | 30 => 70 | 31 => 71 | n => n, fun | 26 => 3 | 28 => 71 | 24 => 33 | 0 => 0 | 3 => 3 | 37 => 77 | 48 => 88 | 50 => 90 | 4 => 4 | 40 => 80 | 39 => 79 | 45 => 85 | 5 => 5 | 9 => 9 | 51 => 91 | 55 => 95 | 57 => 97 | 58 => 98 | 33 => 73 | n => n, fun | n => n⟩
theorem laysortedA : Go.Proofs.SlLaysZI.n6 Try.prog laysortedA_ren where
  mixed := by kernel_rfl
  f6 := ⟨ "slices.Sorted[int]", by decide, Try.func46.trans (congrArg some (by kernel_rfl))⟩
  f8 := ⟨ "slices.Collect[int]", by decide, Try.func48.trans (congrArg some (by kernel_rfl))⟩
  f11 := ⟨ "slices.AppendSeq[[]int,int]", by decide, Try.func51.trans (congrArg some (by kernel_rfl))⟩
  t0 := Try.underlying0
  a0 := Try.isAgg0
  z0 := Try.sizeOf0
  v0 := Try.zeroValue0
  t24 := Try.underlying33
  a24 := Try.isAgg33
  z24 := Try.sizeOf33
  v24 := Try.zeroValue33
  t26 := Try.underlying3
  a26 := Try.isAgg3
  z26 := Try.sizeOf3
  v26 := Try.zeroValue3
  t28 := Try.underlying71
  a28 := Try.isAgg71
  z28 := Try.sizeOf71
  v28 := Try.zeroValue71
  i26 := by kernel_rfl
def laysortA_ren : Go.Shelf.Ren := ⟨fun | 5 => 49 | 8 => 53 | 7 => 52 | 19 => 63 | 20 => 64 | 10 => 54 | 11 => 55 | 12 => 56 | 13 => 57 | 14 => 58 | 15 => 59 | 16 => 60 | 17 => 61 | 18 => 62 | 30 => 65 | 31 => 66 | 32 => 67 | 33 => 68 | 34 => 69 | 35 => 70 | 40 => 71 | n => n, fun | 23 => 33 | 25 => 3 | 3 => 3 | 32 => 77 | 22 => 33 | 0 => 0 | 44 => 88 | 46 => 90 | 4 => 4 | 36 => 80 | 35 => 79 | 41 => 85 | 5 => 5 | 9 => 9 | 53 => 91 | 57 => 95 | 63 => 97 | 64 => 98 | n => n, fun | n => n⟩
theorem laysortA : Go.Proofs.SlLaysM.n5 Try.prog laysortA_ren where
  mixed := by kernel_rfl
  f5 := ⟨ "slices.Sort[[]int,int]", by decide, Try.func49.trans (congrArg some (by kernel_rfl))⟩
  f7 := ⟨ "slices.pdqsortOrdered[int]", by decide, Try.func52.trans (congrArg some (by kernel_rfl))⟩
  f8 := Try.func53.trans (congrArg some (by kernel_rfl))
  f10 := ⟨ "slices.insertionSortOrdered[int]", by decide, Try.func54.trans (congrArg some (by kernel_rfl))⟩
  f11 := ⟨ "slices.heapSortOrdered[int]", by decide, Try.func55.trans (congrArg some (by kernel_rfl))⟩
  f12 := ⟨ "slices.breakPatternsOrdered[int]", by decide, Try.func56.trans (congrArg some (by kernel_rfl))⟩
  f13 := ⟨ "slices.choosePivotOrdered[int]", by decide, Try.func57.trans (congrArg some (by kernel_rfl))⟩
  f14 := ⟨ "slices.reverseRangeOrdered[int]", by decide, Try.func58.trans (congrArg some (by kernel_rfl))⟩
  f15 := ⟨ "slices.partialInsertionSortOrdered[int]", by decide, Try.func59.trans (congrArg some (by kernel_rfl))⟩
  f16 := ⟨ "cmp.Less[int]", by decide, Try.func60.trans (congrArg some (by kernel_rfl))⟩
  f17 := ⟨ "slices.partitionEqualOrdered[int]", by decide, Try.func61.trans (congrArg some (by kernel_rfl))⟩
  f18 := ⟨ "slices.partitionOrdered[int]", by decide, Try.func62.trans (congrArg some (by kernel_rfl))⟩
  f19 := Try.func63.trans (congrArg some (by kernel_rfl))
  f20 := Try.func64.trans (congrArg some (by kernel_rfl))
  f30 := ⟨ "slices.siftDownOrdered[int]", by decide, Try.func65.trans (congrArg some (by kernel_rfl))⟩
  f31 := Try.func66.trans (congrArg some (by kernel_rfl))
  f32 := Try.func67.trans (congrArg some (by kernel_rfl))
  f33 := ⟨ "slices.medianAdjacentOrdered[int]", by decide, Try.func68.trans (congrArg some (by kernel_rfl))⟩
  f34 := ⟨ "slices.medianOrdered[int]", by decide, Try.func69.trans (congrArg some (by kernel_rfl))⟩
  f35 := ⟨ "cmp.isNaN[int]", by decide, Try.func70.trans (congrArg some (by kernel_rfl))⟩
  f40 := ⟨ "slices.order2Ordered[int]", by decide, Try.func71.trans (congrArg some (by kernel_rfl))⟩
  t0 := Try.underlying0
  a0 := Try.isAgg0
  z0 := Try.sizeOf0
  v0 := Try.zeroValue0
  t3 := Try.underlying3
  a3 := Try.isAgg3
  z3 := Try.sizeOf3
  v3 := Try.zeroValue3
  t4 := Try.underlying4
  a4 := Try.isAgg4
  z4 := Try.sizeOf4
  v4 := Try.zeroValue4
  t5 := Try.underlying5
  a5 := Try.isAgg5
  z5 := Try.sizeOf5
  v5 := Try.zeroValue5
  t9 := Try.underlying9
  a9 := Try.isAgg9
  z9 := Try.sizeOf9
  v9 := Try.zeroValue9
  t22 := Try.underlying33
  a22 := Try.isAgg33
  z22 := Try.sizeOf33
  v22 := Try.zeroValue33
  t23 := Try.underlying33
  a23 := Try.isAgg33
  z23 := Try.sizeOf33
  v23 := Try.zeroValue33
  t25 := Try.underlying3
  a25 := Try.isAgg3
  z25 := Try.sizeOf3
  v25 := Try.zeroValue3
  t32 := Try.underlying77
  a32 := Try.isAgg77
  z32 := Try.sizeOf77
  v32 := Try.zeroValue77
  t35 := Try.underlying79
  a35 := Try.isAgg79
  z35 := Try.sizeOf79
  v35 := Try.zeroValue79
  t36 := Try.underlying80
  a36 := Try.isAgg80
  z36 := Try.sizeOf80
  v36 := Try.zeroValue80
  t41 := Try.underlying85
  a41 := Try.isAgg85
  z41 := Try.sizeOf85
  v41 := Try.zeroValue85
  t44 := Try.underlying88
  a44 := Try.isAgg88
  z44 := Try.sizeOf88
  v44 := Try.zeroValue88
  t46 := Try.underlying90
  a46 := Try.isAgg90
  z46 := Try.sizeOf90
  v46 := Try.zeroValue90
  t53 := Try.underlying91
  a53 := Try.isAgg91
  z53 := Try.sizeOf91
  v53 := Try.zeroValue91
  t57 := Try.underlying95
  a57 := Try.isAgg95
  z57 := Try.sizeOf95
  v57 := Try.zeroValue95
  t63 := Try.underlying97
  a63 := Try.isAgg97
  z63 := Try.sizeOf97
  v63 := Try.zeroValue97
  t64 := Try.underlying98
  a64 := Try.isAgg98
  z64 := Try.sizeOf98
  v64 := Try.zeroValue98

end Go.Proofs.Ytabcbmabimommaa.Gf

/-
  'slices.Sorted(maps.Keys(m))' AT A MAP KEYED BY INTEGERS: the keys, rising, in memory of the call's own.
-/

namespace Go.Proofs.Ytabcbmabimommaa.Gf
set_option linter.unusedVariables false
set_option linter.unusedSimpArgs false
open Go.RowKit Go.Maps Go.Sort Go.Shelf

/-- the keys, rising -/
def keysL (f : Int → Option Value) (S : Nat) : List Int := ((List.range S).map fun i : Nat => (i : Int)).filter fun x => (f x).isSome
theorem keysL_mem {f : Int → Option Value} {S : Nat} {x : Int} : x ∈ keysL f S ↔ 0 ≤ x ∧ x < (S : Int) ∧ (f x).isSome = true := by
  unfold keysL
  rw [List.mem_filter, List.mem_map]
  constructor
  · rintro ⟨⟨i, hi, rfl⟩, h⟩
    rw [List.mem_range] at hi
    exact ⟨by omega, by omega, h⟩
  · rintro ⟨h0, h1, h2⟩
    exact ⟨⟨x.toNat, List.mem_range.2 (by omega), by omega⟩, h2⟩
theorem keysL_rising (f : Int → Option Value) (S : Nat) : (keysL f S).Pairwise (· < ·) := by
  unfold keysL
  refine List.Pairwise.filter _ ?_
  rw [List.pairwise_map]
  exact List.pairwise_lt_range.imp (fun h => by omega)
theorem keysL_nodup (f : Int → Option Value) (S : Nat) : (keysL f S).Nodup := (keysL_rising f S).imp (fun h => by omega)
theorem keysL_length (f : Int → Option Value) (S : Nat) : (keysL f S).length ≤ S := by
  unfold keysL
  have := List.length_filter_le (fun x => (f x).isSome) ((List.range S).map fun i : Nat => (i : Int))
  simpa using this
theorem sorted_keys {f : Int → Option Value} {S : Nat} {ss : List Int} (h : ss.Perm (keysL f S)) : ss.mergeSort (fun x y => decide (x ≤ y)) = keysL f S := by
  have tr : ∀ a b c : Int, decide (a ≤ b) = true → decide (b ≤ c) = true → decide (a ≤ c) = true := fun a b c h1 h2 => by simp only [decide_eq_true_eq] at *; omega
  have to : ∀ a b : Int, (decide (a ≤ b) || decide (b ≤ a)) = true := fun a b => by simp only [Bool.or_eq_true, decide_eq_true_eq]; omega
  refine List.Perm.eq_of_pairwise (le := fun a b => decide (a ≤ b) = true) (fun a b _ _ h1 h2 => ?_) (List.pairwise_mergeSort tr to ss) ((keysL_rising f S).imp (fun h => decide_eq_true (by omega))) ((List.mergeSort_perm ss _).trans h)
  simp only [decide_eq_true_eq] at h1 h2
  omega

theorem sortsA (m : Nat) : AnyZI.SortsIn Try.prog laysortedA_ren Fence.wide m :=
  ⟨fun blk off cap ss W hH hblk hsz => callsIn_wide.2 (AnyM.slices_Sort_int laysortA blk off cap ss W hH hblk hsz),
   fun p cap W => callsIn_wide.2 (AnyM.slices_Sort_int_none laysortA p cap W)⟩
theorem keys_call (mb : Option Nat) (W : World) : Calls Try.prog 47 #[.map mb] W fun e w' => e = .returned (.func (.func 50) #[] #[.pointer (some ⟨W.heap.size, 0, none⟩)]) ∧ w' = W.alloc (.cells #[.map mb] 57) :=
  (callsIn_wide (n := 5)).1 (AnyZI.keys_in laykeysA Fence.wide 5 trivial rfl mb W)
theorem sorted_call {w : World} {b S : Nat} {f : Int → Option Value} (h : MapI Try.prog 3 w b S f) (hS : S ≤ 4096) :
    Calls Try.prog 46 #[.func (.func 50) #[] #[.pointer (some ⟨w.heap.size, 0, none⟩)]] (w.alloc (.cells #[.map (some b)] 57)) fun e w' => ∃ v, e = .returned v ∧ w'.ownsRow w.heap.size 3 1 v (keysL f S).length ((keysL f S).map encZ) ∧ Below w.heap.size w w' := by
  have hbl := h.lt
  obtain ⟨D0, hown, hk, hf⟩ := h
  obtain ⟨es, hE, hp, hl⟩ := hown.entries keyed_int
  have hkI : ∀ p ∈ es, ∃ x, p.1 = .int .i64 x := by
    intro p hp1
    obtain ⟨x, e, _⟩ := hk p.1 (by
      rw [hE, Maps.has_eq, List.any_eq_true]
      exact ⟨p, hp1, WideAt.sameKey_self (hl p hp1)⟩)
    exact ⟨x, e⟩
  have hperm : (keysL f S).Perm (intKeys D0) := by
    rw [hE]
    refine perm_intKeys hp hkI (keysL_nodup f S) fun x => ?_
    rw [← hE, keysL_mem]
    rcases hf x with ⟨h1, h2⟩ | ⟨v, h1, h2, _⟩
    · rw [h1, h2]; simp
    · rw [h2, h1]
      obtain ⟨y, e, hy⟩ := hk _ h2
      simp at e
      subst e
      simp [hy]
  have hsz : Maps.size D0 ≤ 4096 := Nat.le_trans (by
    obtain ⟨es', clock, hb, F, hs, rfl⟩ := hown
    simp [Maps.size, length_sorted]
    exact hs) hS
  have hseq : SeqGives Fence.wide 2 Try.prog 50 #[.pointer (some ⟨w.heap.size, 0, none⟩)] encZ (fun ss => ss.Perm (intKeys D0)) (Maps.size D0) (w.alloc (.cells #[.map (some b)] 57)) :=
    AnyZI.keys_gives (ρ := laykeysA_ren) { laykeysA with } Fence.wide _ trivial rfl (by omega) w.heap.size b S D0 _ (by simp) (by simp) (by
      obtain ⟨es, clock, hb, Ft, hs, hD⟩ := hown
      exact ⟨es, clock, (Below.heap_alloc _ _ b hbl).trans hb, Ft, hs, hD⟩)
  have cS := AnyZI.sorted_in laysortedA Fence.wide 5 trivial trivial trivial trivial rfl (by omega) (sortsA _) (enters_of Try.func49 (by kernel_rfl) rfl) 50 #[.pointer (some ⟨w.heap.size, 0, none⟩)] trivial (enters_of Try.func50 (by kernel_rfl) rfl) _ _ (by unfold maxLen; omega) (by omega) _ hseq
  refine (Calls.mono ((callsIn_wide (n := 5)).1 cS) ?_)
  rintro e w' ⟨v, ss, rfl, hS, hrow, hnil, hb⟩
  refine ⟨v, rfl, ?_, ((Below.refl _ w).alloc (Nat.le_refl _) _).trans (hb.mono (by simp))⟩
  have hp2 := hS.trans hperm.symm
  have e1 := sorted_keys hp2
  rw [e1, hp2.length_eq] at hrow
  exact ownsRow_base hrow (by simp)
end Go.Proofs.Ytabcbmabimommaa.Gf

/-
  THE PROGRAM's DISK BY CONTRACT (package disk): byAddr, Lasts, Waits: what is held, rising, in memory of the call's own.
-/

namespace Go.Proofs.Ytabcbmabimommaa.Gf
set_option linter.unusedVariables false
set_option linter.unusedSimpArgs false
open Go.RowKit

/-- what is held, with the slices of its bytes -/
abbrev TH := Int × List UInt8 × Value
def cellsT (T : List TH) : List Value := T.flatMap fun t => [.int .i64 t.1, t.2.2]
def bareT (T : List TH) : List (Int × List UInt8) := T.map fun t => (t.1, t.2.1)
theorem cellsT_length (T : List TH) : (cellsT T).length = T.length * 2 := by
  unfold cellsT
  induction T with
  | nil => rfl
  | cons t T ih => simp [List.flatMap_cons, ih]; omega
theorem cellsT_snoc (T : List TH) (t : TH) : cellsT (T ++ [t]) = cellsT T ++ [.int .i64 t.1, t.2.2] := by unfold cellsT; simp
structure OwnT (w : World) (base : Nat) (v : Value) (T : List TH) : Prop where
  row : w.ownsRow base 55 2 v T.length (cellsT T)
  each : ∀ t ∈ T, w.ownsRow base 5 1 t.2.2 t.2.1.length (t.2.1.map vb)
/-- a list of what is held, in memory of one's own -/
def OwnH (w : World) (base : Nat) (v : Value) (L : List (Int × List UInt8)) : Prop := ∃ T, bareT T = L ∧ OwnT w base v T
theorem info_held : (Try.prog.info? 55).map (fun i => (i.zero, i.size, i.bytes)) = some (some (.agg #[.int .i64 0, .slice none 0 0]), 2, 32) := by kernel_rfl

theorem info_parts2 {t : Nat} {a : Value} {b c : Nat} (h : (Try.prog.info? t).map (fun i => (i.zero, i.size, i.bytes)) = some (some a, b, c)) : ∃ i, Try.prog.info? t = some i ∧ i.zero = some a ∧ i.size = b ∧ i.bytes = c := by
  cases hi : Try.prog.info? t with
  | none => rw [hi] at h; cases h
  | some i => rw [hi] at h; simp at h; exact ⟨i, rfl, h.1, h.2.1, h.2.2⟩
theorem heldL_keys (f : Int → Option (List UInt8)) (B C : Int → Nat) (S : Nat) : heldL f S = (keysL (valI f B C) S).map fun x => (x, (f x).getD []) := by
  induction S with
  | zero => rfl
  | succ S ih =>
    rw [heldL_succ, ih]
    unfold keysL
    rw [List.range_succ, List.map_append, List.filter_append, List.map_append]
    congr 1
    unfold valI
    cases h : f (S : Int) <;> simp [h]
theorem keys_some {f : Int → Option (List UInt8)} {B C : Int → Nat} {S k : Nat} (h : k < (keysL (valI f B C) S).length) : ∃ p, f ((keysL (valI f B C) S).getD k 0) = some p := by
  have h1 : (keysL (valI f B C) S).getD k 0 ∈ keysL (valI f B C) S := by
    rw [show (keysL (valI f B C) S).getD k 0 = (keysL (valI f B C) S)[k] by simp [List.getD, h]]
    exact List.getElem_mem h
  have h2 := (keysL_mem.1 h1).2.2
  unfold valI at h2
  cases hf : f ((keysL (valI f B C) S).getD k 0) with
  | none => unfold valI at hf; rw [hf] at h2; cases h2
  | some p => exact ⟨p, rfl⟩
section
variable {w : World}
theorem row_at {base e size n : Nat} {v : Value} {xs : List Value} (h : w.ownsRow base e size v n xs) {g : Nat} (hg : v.ownBlock = some g) : base ≤ g ∧ g < w.heap.size ∧ ∃ cur, w.heap[g]? = some (.cells cur e (0, 0)) := by
  obtain ⟨h0, ⟨h, _⟩ | ⟨g', cap, cur, hv, hg', hh, r⟩⟩ := h
  · rw [h] at hg; cases hg
  · rw [hv] at hg
    cases hg
    exact ⟨hg', (Array.getElem?_eq_some_iff.1 hh).1, cur, hh⟩
theorem owns_slice {base e size n : Nat} {v : Value} {xs : List Value} (h : w.ownsRow base e size v n xs) : ∃ a c, v = .slice a n c := by
  obtain ⟨h0, ⟨h, e⟩ | ⟨g', cap, cur, hv, hg', hh, r⟩⟩ := h
  · exact ⟨none, 0, by rw [h, e]⟩
  · exact ⟨_, _, hv⟩
theorem owns_low {base base' e size n : Nat} {v : Value} {xs : List Value} (h : w.ownsRow base e size v n xs) (hb : base' ≤ base) : w.ownsRow base' e size v n xs := by
  obtain ⟨h0, h | ⟨g, cap, cur, hv, hg, r⟩⟩ := h
  · exact ⟨h0, Or.inl h⟩
  · exact ⟨h0, Or.inr ⟨g, cap, cur, hv, Nat.le_trans hb hg, r⟩⟩
theorem owns_after {base e size n : Nat} {v : Value} {xs : List Value} {w' : World} (h : w.ownsRow base e size v n xs) (hb : Below w.heap.size w w') : w'.ownsRow base e size v n xs :=
  owns_block h (fun g hg => hb.block g (row_at h hg).2.1)
theorem OwnT.after {base : Nat} {v : Value} {T : List TH} {w' : World} (h : OwnT w base v T) (hb : Below w.heap.size w w') : OwnT w' base v T := ⟨owns_after h.row hb, fun t ht => owns_after (h.each t ht) hb⟩
theorem OwnT.snoc {base : Nat} {vl v : Value} {T : List TH} {x : Int} {p : List UInt8} (h : OwnT w base vl T) (hr : w.ownsRow base 5 1 v p.length (p.map vb)) {v' : Value} {w' : World}
    (h' : w'.ownsRow base 55 2 v' (T.length + 1) (cellsT T ++ [.int .i64 x, v])) (hg : (w.alloc (.cells #[.int .i64 x, v] 55)).grownBy w' vl.ownBlock) : OwnT w' base v' (T ++ [(x, p, v)]) := by
  have key : ∀ {v2 : Value} {q : List UInt8}, w.ownsRow base 5 1 v2 q.length (q.map vb) → w'.ownsRow base 5 1 v2 q.length (q.map vb) := by
    intro v2 q h2
    refine owns_block h2 (fun g hg2 => ?_)
    obtain ⟨_, hl, cur, hc⟩ := row_at h2 hg2
    refine (hg.block g (by simp; omega) (fun e => ?_)).trans (Below.heap_alloc w _ g hl)
    obtain ⟨_, _, cur', hc'⟩ := row_at h.row e.symm
    rw [hc] at hc'
    simp at hc'
  refine ⟨?_, fun t ht => ?_⟩
  · rw [cellsT_snoc, List.length_append]
    exact h'
  · rcases List.mem_append.1 ht with h1 | h1
    · exact key (h.each t h1)
    · simp at h1
      subst h1
      exact key hr
theorem bareT_snoc (T : List TH) (x : Int) (p : List UInt8) (v : Value) : bareT (T ++ [(x, p, v)]) = bareT T ++ [(x, p)] := by unfold bareT; simp
set_option maxRecDepth 100000 in
set_option maxHeartbeats 1000000 in
theorem by_any {m S : Nat} {f : Int → Option (List UInt8)} {B C : Int → Nat} (h : MapI Try.prog 3 w m S (valI f B C)) (hf : InS S f) (hS : S ≤ 4096) (hr : ∀ x p, f x = some p → Rd w (.slice (some ⟨B x, 0, none⟩) p.length (C x)) p) :
    Calls Try.prog 35 #[.map (some m)] w fun e w' => ∃ v, e = .returned v ∧ OwnH w' w.heap.size v (heldL f S) ∧ Below w.heap.size w w' := by
  have K1 := keys_call (some m) w
  have K2 := sorted_call h hS
  go_enter Try.func35, Try.ntmps35
  go_wp2_with fail
  refine K1.mono ?_
  rintro _ wq ⟨rfl, hwq⟩
  rw [hwq]
  clear hwq wq K1
  go_wp2_with fail
  refine K2.mono ?_
  rintro _ w1 ⟨v1, rfl, O1, B1⟩
  clear K2
  obtain ⟨i0, hi, hz0, hz1, hz2⟩ := info_parts2 info_held
  obtain ⟨ka, kc, rfl⟩ := owns_slice O1
  obtain ⟨Ks, hKs⟩ : ∃ Ks, Ks = keysL (valI f B C) S := ⟨_, rfl⟩
  have hKl : Ks.length ≤ 4096 := by rw [hKs]; exact Nat.le_trans (keysL_length _ _) hS
  have hKm : ∀ k, k < Ks.length → ∃ p, f (Ks.getD k 0) = some p := fun k hk => by rw [hKs] at hk ⊢; exact keys_some hk
  have hFin : Hid (Ks.map (fun x => (x, (f x).getD [])) = heldL f S) := by
    show _ = _
    rw [heldL_keys f B C S, ← hKs]
  rw [← hKs] at O1 ⊢
  clear hKs
  have START : Hid (∃ T, bareT T = (Ks.take 0).map (fun x => (x, (f x).getD [])) ∧ OwnT w1 w1.heap.size (.slice none 0 0) T ∧ Below w1.heap.size w1 w1) := ⟨[], rfl, ⟨⟨rfl, Or.inl ⟨rfl, rfl⟩⟩, fun t ht => by cases ht⟩, Below.refl _ _⟩
  go_wp2
  go_loopw [3, 10] (fun vl i wr => ∃ k : Nat, k ≤ Ks.length ∧ i = .int .i64 (k : Int) ∧ ∃ T, bareT T = (Ks.take k).map (fun x => (x, (f x).getD [])) ∧ OwnT wr w1.heap.size vl T ∧ Below w1.heap.size w1 wr) (fun _ i _ => Ks.length - (intOf i).toNat)
  case atStart => exact ⟨0, Nat.zero_le _, rfl, START.out⟩
  case round =>
    obtain ⟨k, hk, rfl, T, hT, hO, hB⟩ := hrel
    clear START
    obtain ⟨la, lc, rfl⟩ := owns_slice hO.row
    by_cases hlt : k < Ks.length
    · have hlt' : (k : Int) < (Ks.length : Int) := by omega
      have BW : Below w.heap.size w wr := B1.trans (hB.mono B1.size)
      obtain ⟨x, hx⟩ : ∃ x, x = Ks.getD k 0 := ⟨_, rfl⟩
      obtain ⟨p, hp⟩ := hKm k hlt
      rw [← hx] at hp
      have hpx := hf x p hp
      have hwx : (Lit.int .i64 x).wf = true := by simp [Lit.wf, IntKind.min, IntKind.max, IntKind.signed, IntKind.bits]; omega
      obtain ⟨kg, kc', e1, _, OK⟩ := owns_form (owns_after O1 hB) (by omega : Ks.length ≠ 0)
      obtain ⟨rfl, rfl⟩ : ka = some ⟨kg, 0, none⟩ ∧ kc = kc' := by simpa using e1
      have ck : wr.cell? ⟨kg, k, none⟩ = some (.int .i64 x) := by
        have := World.ownsRow.cellAt OK k (by omega)
        rw [this, List.getElem?_map, List.getElem?_eq_getElem hlt, hx]
        simp [List.getD, hlt]
      have LK := (h.below BW).look keyed_int under_map (zero_bytes wr) (key_int hwx)
      have e2 : valI f B C x = some (.slice (some ⟨B x, 0, none⟩) p.length (C x)) := by unfold valI; rw [hp]; rfl
      rw [e2] at LK
      simp only [Option.getD_some] at LK
      have KC := bclone_own ((hr x p hp).below BW) (by omega)
      have hTl : Hid (T.length = k) := by
        have := congrArg List.length hT
        simp [bareT] at this
        show T.length = k
        omega
      have hT1 : T.length + 1 ≤ 5000 := by have := hTl.out; omega
      have HT : Hid (bareT T ++ [(x, p)] = (Ks.take (k + 1)).map (fun x => (x, (f x).getD []))) := by
        show _ = _
        rw [hT, List.take_add_one, List.getElem?_eq_getElem hlt, List.map_append]
        congr 1
        have : Ks[k] = x := by rw [hx]; simp [List.getD, hlt]
        simp [this, hp]
      clear e1 e2 OK O1 hx hpx hwx hp h hr hf hKm hT hS hFin B1
      go_wp2_with fail
      refine KC.mono ?_
      rintro _ w2 ⟨v2, rfl, R2, B2⟩
      have hB2 : Below w1.heap.size w1 w2 := hB.trans (B2.mono hB.size)
      have hO2 := hO.after B2
      have R2' := owns_low R2 hB.size
      have hsz : w1.heap.size ≤ (w2.alloc (.cells #[.int .i64 x, v2] 55)).heap.size := by simp; exact Nat.le_trans hB2.size (by omega)
      have hO3 := owns_after hO2.row ((Below.refl _ w2).alloc (Nat.le_refl _) (.cells #[.int .i64 x, v2] 55))
      obtain ⟨va, vc, rfl⟩ := owns_slice R2
      clear KC ck LK hO B2 R2 hB BW
      have hnews : ∀ j u, [Value.int .i64 x, .slice va p.length vc][j]? = some u → (w2.alloc (.cells #[.int .i64 x, .slice va p.length vc] 55)).cell? ((⟨w2.heap.size, 0, none⟩ : Addr).add j) = some u := by
        intro j u hj
        rw [add_at, Nat.zero_add, World.cell?_alloc_new]
        rw [← hj, ← Array.getElem?_toList]
      have hone : ∀ u ∈ [Value.int .i64 x, .slice va p.length vc], u.oneCell' = true := by
        intro u hu
        simp at hu
        rcases hu with rfl | rfl <;> rfl
      have h63 : T.length + 1 ≤ maxLen := by unfold maxLen; omega
      have hby : (T.length + 1) * 32 ≤ 140737488355328 := by omega
      go_wp2_with (at_builtin; go_loud (refine wpList_append_own_at _ rfl (.tmp 14) (.tmp 21) 38 rfl w1.heap.size 55 i0 _ 2 32 Try.underlying38 hi hz0 hz1 hz2 rfl (by decide) (.slice la T.length lc) T.length (cellsT T) rfl hO3 ⟨w2.heap.size, 0, none⟩ 1 1 [.int .i64 x, .slice va p.length vc] rfl rfl hnews hone h63 hby hsz ?_); intro v' w9 hv9 hg9 _ _)
      have hO9 := OwnT.snoc hO2 R2' hv9 hg9
      have E2 : Hid (∃ T, bareT T = (Ks.take (k + 1)).map (fun x => (x, (f x).getD [])) ∧ OwnT w9 w1.heap.size v' T ∧ Below w1.heap.size w1 w9) := by
        refine ⟨_, ?_, hO9, ?_⟩
        · rw [bareT_snoc]; exact HT.out
        · exact (hB2.alloc hB2.size _).grown hg9 (by simp; exact Nat.le_trans hB2.size (by omega)) (fun q hq => (row_at hO2.row hq).1)
      clear hO9 hv9 hg9 hnews hone hO3 R2' hO2 hB2 HT hi hz0 hz1 hz2
      go_wp2
      go_roundw
      case rel => exact ⟨k + 1, by omega, by go_num, E2.out⟩
      case measure => simp [intOf]; omega
    · have hlt' : ¬ (k : Int) < (Ks.length : Int) := by omega
      have hk' : k = Ks.length := by omega
      rw [hk', List.take_length, hFin.out] at hT
      have FIN : Hid (OwnH wr w.heap.size (.slice la T.length lc) (heldL f S) ∧ Below w.heap.size w wr) := ⟨⟨T, hT, owns_low hO.row B1.size, fun t ht => owns_low (hO.each t ht) B1.size⟩, B1.trans (hB.mono B1.size)⟩
      clear hT hO hB hFin hKm hKl O1 B1 h hr hf hk'
      go_wp2
      go_ret
      exact ⟨_, rfl, FIN.out⟩
theorem dlasts_any {db : Nat} {G : Nat → Prop} {d : DkS} (h : DiskAt w db G d) : Calls Try.prog 15 #[.pointer (some ⟨db, 0, none⟩)] w fun e w' => ∃ v, e = .returned v ∧ OwnH w' w.heap.size v (heldL d.last d.s) ∧ Below w.heap.size w w' := by
  obtain ⟨mb, B, C, hM, _, _⟩ := h
  have c2 := hM.c2
  have c3 := hM.c3
  have K := by_any (hM.mp false) (hM.ins false) hM.s2 (fun x p hp => Rd.owned (hM.row false x p hp))
  clear hM
  go_enter Try.func15, Try.ntmps15
  go_wp2_with fail
  refine K.mono ?_
  rintro _ wq ⟨v, rfl, h1, h2⟩
  have F : Hid (OwnH wq w.heap.size v (heldL d.last d.s) ∧ Below w.heap.size w wq) := ⟨h1, h2⟩
  clear h1 h2 K
  go_wp2
  go_ret
  exact ⟨_, rfl, F.out⟩
theorem dlasts_nil : Calls Try.prog 15 #[.pointer none] w fun e w' => e = .returned (.slice none 0 0) ∧ w' = w := by
  go_enter Try.func15, Try.ntmps15
  go_wp2
  go_ret
  exact ⟨rfl, rfl⟩
theorem dwaits_any {db : Nat} {G : Nat → Prop} {d : DkS} (h : DiskAt w db G d) : Calls Try.prog 16 #[.pointer (some ⟨db, 0, none⟩)] w fun e w' => ∃ v, e = .returned v ∧ OwnH w' w.heap.size v (heldL d.wait d.s) ∧ Below w.heap.size w w' := by
  obtain ⟨mb, B, C, hM, _, _⟩ := h
  have c2 := hM.c2
  have c3 := hM.c3
  have K := by_any (hM.mp true) (hM.ins true) hM.s2 (fun x p hp => Rd.owned (hM.row true x p hp))
  clear hM
  go_enter Try.func16, Try.ntmps16
  go_wp2_with fail
  refine K.mono ?_
  rintro _ wq ⟨v, rfl, h1, h2⟩
  have F : Hid (OwnH wq w.heap.size v (heldL d.wait d.s) ∧ Below w.heap.size w wq) := ⟨h1, h2⟩
  clear h1 h2 K
  go_wp2
  go_ret
  exact ⟨_, rfl, F.out⟩
theorem dwaits_nil : Calls Try.prog 16 #[.pointer none] w fun e w' => e = .returned (.slice none 0 0) ∧ w' = w := by
  go_enter Try.func16, Try.ntmps16
  go_wp2
  go_ret
  exact ⟨rfl, rfl⟩
end
end Go.Proofs.Ytabcbmabimommaa.Gf

/-
  THE STATEMENTS' HELPERS OF LAYER 12: 'awake'. How a disk and what it told are carried over a call.
-/

namespace Go.Proofs.Ytabcbmabimommaa.Gf
set_option linter.unusedVariables false
set_option linter.unusedSimpArgs false
open Go.RowKit

section
variable {w : World} {db : Nat} {G : Nat → Prop} {d : DkS}
theorem dwrite_is (h : DiskAt w db G d) {a : Int} (ha : (Lit.int .i64 a).wf = true) {v : Value} {p : List UInt8} (hp : Rd w v p) {x : Int} (hx : wrX d a p = x) {d' : DkS} (hd : wrS d a p = d') : Calls Try.prog 24 #[.pointer (some ⟨db, 0, none⟩), .int .i64 a, v] w (Leaves w db G d' (.int .i64 x)) := by
  rw [← hx, ← hd]; exact dwrite_any h ha hp
theorem dread_is (h : DiskAt w db G d) {a : Int} (ha : (Lit.int .i64 a).wf = true) {x : Int} (hx : faX d a = x) {p : List UInt8} (hp : rdB d a = p) : Calls Try.prog 23 #[.pointer (some ⟨db, 0, none⟩), .int .i64 a] w (Tells w x p) := by
  rw [← hx, ← hp]; exact dread_any h ha
theorem dflush_is (h : DiskAt w db G d) {x : Int} (hx : flX d = x) {d' : DkS} (hd : flS d = d') : Calls Try.prog 19 #[.pointer (some ⟨db, 0, none⟩)] w (Leaves w db G d' (.int .i64 x)) := by
  rw [← hx, ← hd]; exact dflush_any h
/-- a disk and the least number of its blocks -/
structure DkB (w : World) (N : Nat) (db : Nat) (G : Nat → Prop) (d : DkS) : Prop where
  at_ : DiskAt w db G d
  low : ∀ k, G k → N ≤ k
  size : N ≤ w.heap.size
theorem DkB.below {N : Nat} {w' : World} (h : DkB w N db G d) (hb : Below w.heap.size w w') : DkB w' N db G d := ⟨h.at_.below hb, h.low, Nat.le_trans h.size hb.size⟩
theorem DkB.grew {N : Nat} {w' : World} {G' : Nat → Prop} {d' : DkS} (h : DkB w N db G d) (hd : DiskAt w' db G' d') (g : Grew G w G' w') : DkB w' N db G' d' := ⟨hd, g.base h.low h.size, Nat.le_trans h.size g.turn.size⟩
theorem DkB.bel {N : Nat} {w' : World} {G' : Nat → Prop} (h : DkB w N db G d) (g : Grew G w G' w') : Below N w w' := g.below h.low h.size
/-- a slice that was told, apart from the disk -/
structure Told (w : World) (G : Nat → Prop) (v : Value) (p : List UInt8) : Prop where
  rd : Rd w v p
  ap : ApartG G v
theorem Told.below {v : Value} {p : List UInt8} {w' : World} (h : Told w G v p) (hb : Below w.heap.size w w') : Told w' G v p := ⟨h.rd.below hb, h.ap⟩
theorem Told.grew {v : Value} {p : List UInt8} {w' : World} {G' : Nat → Prop} (h : Told w G v p) (g : Grew G w G' w') : Told w' G' v p := ⟨h.rd.grew h.ap g, h.ap.grew h.rd g⟩
theorem Told.own {v : Value} {p : List UInt8} {w' : World} {e : Nat} (h : DiskAt w db G d) (ho : w'.ownsRow w.heap.size e 1 v p.length (p.map vb)) : Told w' G v p := ⟨Rd.owned ho, ApartG.own ho h.lt⟩
theorem Told.old {N : Nat} {v : Value} {p : List UInt8} {w0 : World} (h : DkB w N db G d) (hr : Rd w0 v p) (hb : N = w0.heap.size) (hw : Below w0.heap.size w0 w) : Told w G v p := ⟨hr.below hw, hr.apartG (by rw [← hb]; exact h.low)⟩
theorem Told.byte {v : Value} {y : UInt8} (h : Told w G v [y]) : ∃ b o c, v = .slice (some ⟨b, o, none⟩) 1 c ∧ w.cell? ⟨b, o, none⟩ = some (.int .u8 ((y.toNat : Nat) : Int)) := by
  rcases h.rd with ⟨_, _, h1, _⟩ | ⟨b, o, c, _, h2, _, _, _, h3⟩
  · cases h1
  · exact ⟨b, o, c, h2, h3 0 (by simp)⟩
theorem DkB.apartNew {N : Nat} (h : DkB w N db G d) (n c : Nat) : ApartG G (.slice (some ⟨w.heap.size, 0, none⟩) n c) := fun x m c' e => by
  simp at e
  obtain ⟨rfl, _⟩ := e
  exact Or.inr (fun h1 => by have := h.at_.lt _ h1; simp at this)
theorem DiskAt.dead (h : DiskAt w db G d) : w.cell? ⟨db, 1, none⟩ = some (.bool d.dead) := by
  obtain ⟨mb, B, C, h1, _⟩ := h
  exact h1.c1
theorem litB (w : World) (y : UInt8) (e : Nat) : Rd (w.alloc (.cells #[.int .u8 ((y.toNat : Nat) : Int)] e)) (.slice (some ⟨w.heap.size, 0, none⟩) 1 1) [y] := rd_lit [y] rfl rfl (by decide)
theorem litI (w : World) (z : Int) (e : Nat) : RdI (w.alloc (.cells #[.int .i64 z] e)) (.slice (some ⟨w.heap.size, 0, none⟩) 1 1) [z] := rdI_lit2 [z] rfl rfl rfl (by decide)
theorem belA (w : World) (o : Obj) : Below w.heap.size w (w.alloc o) := (Below.refl _ _).alloc (Nat.le_refl _) _
theorem _root_.Go.RowKit.Below.step12 {w w1 w2 : World} {B : Nat} (h : Below B w w1) (k : Below w1.heap.size w1 w2) (hB : B ≤ w1.heap.size) : Below B w w2 := h.trans (k.mono hB)
end
theorem OwnH.none {w : World} {base : Nat} {v : Value} {L : List (Int × List UInt8)} (h : OwnH w base v L) (hl : L = []) : ∃ a c, v = .slice a 0 c := by
  obtain ⟨T, h1, h2⟩ := h
  rw [hl] at h1
  have : T = [] := by cases T with
    | nil => rfl
    | cons t T => cases h1
  subst this
  exact owns_slice h2.row
def aw2 : DkS := wrS (newD 4) 1 [7]
def aw3 : DkS := flS aw2
def aw4 : DkS := wrS aw3 1 [8]
def aw5 : DkS := wrS aw4 2 [9]
def aw6 : DkS := crS aw5 [2]
def aw7 : DkS := faS aw6
theorem aw_a : wrX (newD 4) 1 [7] = 0 := by decide
theorem aw_b : rdB aw2 1 = [7] := by decide
theorem aw_g : faX aw2 1 = 0 := by decide
theorem aw_l : heldL aw2.last 4 = [] := by decide
theorem aw_f : flX aw2 = 0 := by decide
theorem aw_w1 : wrX aw3 1 [8] = 0 := by decide
theorem aw_w2 : wrX aw4 2 [9] = 0 := by decide
theorem aw_c : rdB aw6 1 = [7] := by decide
theorem aw_c' : faX aw6 1 = 0 := by decide
theorem aw_x : rdB aw6 2 = [9] := by decide
theorem aw_x' : faX aw6 2 = 0 := by decide
theorem aw_h : faX aw6 4 = 121 := by decide
theorem aw_h' : rdB aw6 4 = [] := by decide
theorem aw_i : faX aw7 1 = 120 := by decide
theorem aw_i' : rdB aw7 1 = [] := by decide
set_option maxRecDepth 100000 in
set_option maxHeartbeats 2000000 in
theorem awake_any {w : World} : Calls Try.prog 9 #[] w fun e w' => e = .returned (.bool true) ∧ Below w.heap.size w w' := by
  go_enter Try.func9, Try.ntmps9
  go_wp2_with fail
  refine (dmake_any (n := 4) (by decide) (by decide)).mono ?_
  rintro _ w1 ⟨db, G1, rfl, D0, H1, B1⟩
  have D1 : DkB w1 w.heap.size db G1 (newD 4) := ⟨D0, H1, B1.size⟩
  clear D0 H1
  go_wp2_with fail
  refine (dmake_no (n := 0) (by decide)).mono ?_
  rintro _ wq ⟨rfl, hwq⟩
  rw [hwq]
  clear hwq wq
  go_wp2_with fail
  have D1a := fun o => D1.below (belA w1 o)
  have B1a := fun o => B1.step12 (belA w1 o) B1.size
  refine (dwrite_is (D1a _).at_ (by decide) (rd_lit [7] rfl rfl (by decide)) aw_a (d' := aw2) rfl).mono ?_
  rintro _ w2 ⟨rfl, G2, A2, g2⟩
  have D2 : DkB w2 w.heap.size db G2 aw2 := (D1a _).grew A2 g2
  have B2 := (B1a _).trans ((D1a _).bel g2)
  clear D1a B1a 
  clear A2 g2 D1 B1 
  go_wp2_with fail
  refine (dread_is D2.at_ (by decide) aw_g aw_b).mono ?_
  rintro _ w3 ⟨vb, rfl, O3, C3⟩
  have Tb3 := Told.own D2.at_ O3
  have D3 := D2.below C3
  have B3 := B2.step12 C3 B2.size
  obtain ⟨ab, cb, rfl⟩ := owns_slice O3
  clear O3 C3 D2 B2 
  go_wp2_with fail
  refine (dlasts_any D3.at_).mono ?_
  rintro _ w4 ⟨vl, rfl, O4, C4⟩
  have D4 := D3.below C4
  have Tb4 := Tb3.below C4
  have B4 := B3.step12 C4 B3.size
  obtain ⟨al, cl, rfl⟩ := O4.none aw_l
  clear O4 C4 D3 B3 Tb3
  go_wp2_with fail
  refine (dflush_is D4.at_ aw_f (d' := aw3) rfl).mono ?_
  rintro _ w5 ⟨rfl, G5, A5, g5⟩
  have D5 : DkB w5 w.heap.size db G5 aw3 := D4.grew A5 g5
  have Tb5 := Tb4.grew g5
  have B5 := B4.trans (D4.bel g5)
  clear A5 g5 D4 B4 Tb4
  go_wp2_with fail
  have D5a := fun o => D5.below (belA w5 o)
  have Tb5a := fun o => Tb5.below (belA w5 o)
  have B5a := fun o => B5.step12 (belA w5 o) B5.size
  refine (dwrite_is (D5a _).at_ (by decide) (rd_lit [8] rfl rfl (by decide)) aw_w1 (d' := aw4) rfl).mono ?_
  rintro _ w6 ⟨rfl, G6, A6, g6⟩
  have D6 : DkB w6 w.heap.size db G6 aw4 := (D5a _).grew A6 g6
  have Tb6 := (Tb5a _).grew g6
  have B6 := (B5a _).trans ((D5a _).bel g6)
  clear D5a B5a Tb5a
  clear A6 g6 D5 B5 Tb5
  go_wp2_with fail
  have D6a := fun o => D6.below (belA w6 o)
  have Tb6a := fun o => Tb6.below (belA w6 o)
  have B6a := fun o => B6.step12 (belA w6 o) B6.size
  refine (dwrite_is (D6a _).at_ (by decide) (rd_lit [9] rfl rfl (by decide)) aw_w2 (d' := aw5) rfl).mono ?_
  rintro _ w7 ⟨rfl, G7, A7, g7⟩
  have D7 : DkB w7 w.heap.size db G7 aw5 := (D6a _).grew A7 g7
  have Tb7 := (Tb6a _).grew g7
  have B7 := (B6a _).trans ((D6a _).bel g7)
  clear D6a B6a Tb6a
  clear A7 g7 D6 B6 Tb6
  go_wp2_with fail
  have D7a := fun o => D7.below (belA w7 o)
  have Tb7a := fun o => Tb7.below (belA w7 o)
  have B7a := fun o => B7.step12 (belA w7 o) B7.size
  refine (dcrash_any (D7a _).at_ (rdI_lit2 [2] rfl rfl rfl (by decide)) (by intro z hz; simp at hz; subst hz; decide) (D7.apartNew 1 1) (by decide)).mono ?_
  rintro _ w8 ⟨rfl, G8, A8, g8⟩
  have D8 : DkB w8 w.heap.size db G8 aw6 := (D7a _).grew A8 g8
  have Tb8 := (Tb7a _).grew g8
  have B8 := (B7a _).trans ((D7a _).bel g8)
  clear D7a B7a Tb7a
  clear A8 g8 D7 B7 Tb7
  go_wp2_with fail
  refine (dread_is D8.at_ (by decide) aw_c' aw_c).mono ?_
  rintro _ w9 ⟨vc, rfl, O9, C9⟩
  have Tc9 := Told.own D8.at_ O9
  have D9 := D8.below C9
  have Tb9 := Tb8.below C9
  have B9 := B8.step12 C9 B8.size
  obtain ⟨ac, cc, rfl⟩ := owns_slice O9
  clear O9 C9 D8 B8 Tb8
  go_wp2_with fail
  refine (dread_is D9.at_ (by decide) aw_x' aw_x).mono ?_
  rintro _ w10 ⟨vx, rfl, O10, C10⟩
  have Tx10 := Told.own D9.at_ O10
  have D10 := D9.below C10
  have Tb10 := Tb9.below C10
  have Tc10 := Tc9.below C10
  have B10 := B9.step12 C10 B9.size
  obtain ⟨ax, cx, rfl⟩ := owns_slice O10
  clear O10 C10 D9 B9 Tb9 Tc9
  go_wp2_with fail
  refine (dread_is D10.at_ (by decide) aw_h aw_h').mono ?_
  rintro _ w11 ⟨vh, rfl, O11, C11⟩
  have D11 := D10.below C11
  have Tb11 := Tb10.below C11
  have Tc11 := Tc10.below C11
  have Tx11 := Tx10.below C11
  have B11 := B10.step12 C11 B10.size
  obtain ⟨ah, ch, rfl⟩ := owns_slice O11
  clear O11 C11 D10 B10 Tb10 Tc10 Tx10
  go_wp2_with fail
  refine (dfail_any D11.at_).mono ?_
  rintro _ w12 ⟨rfl, G12, A12, g12⟩
  have D12 : DkB w12 w.heap.size db G12 aw7 := D11.grew A12 g12
  have Tb12 := Tb11.grew g12
  have Tc12 := Tc11.grew g12
  have Tx12 := Tx11.grew g12
  have B12 := B11.trans (D11.bel g12)
  clear A12 g12 D11 B11 Tb11 Tc11 Tx11
  go_wp2_with fail
  refine (dread_is D12.at_ (by decide) aw_i aw_i').mono ?_
  rintro _ w13 ⟨vi, rfl, O13, C13⟩
  have D13 := D12.below C13
  have Tb13 := Tb12.below C13
  have Tc13 := Tc12.below C13
  have Tx13 := Tx12.below C13
  have B13 := B12.step12 C13 B12.size
  obtain ⟨ai, ci, rfl⟩ := owns_slice O13
  clear O13 C13 D12 B12 Tb12 Tc12 Tx12
  have c1 := D13.at_.dead
  obtain ⟨bb, ob, kb, eb, yb⟩ := Tb13.byte
  obtain ⟨rfl, rfl⟩ : ab = some ⟨bb, ob, none⟩ ∧ cb = kb := by simpa using eb
  clear eb Tb13
  obtain ⟨bc, oc, kc, ec, yc⟩ := Tc13.byte
  obtain ⟨rfl, rfl⟩ : ac = some ⟨bc, oc, none⟩ ∧ cc = kc := by simpa using ec
  clear ec Tc13
  obtain ⟨bx, ox, kx, ex, yx⟩ := Tx13.byte
  obtain ⟨rfl, rfl⟩ : ax = some ⟨bx, ox, none⟩ ∧ cx = kx := by simpa using ex
  clear ex Tx13
  have KD := @ddead_any w13 db true c1
  have FB : Hid (Below w.heap.size w w13) := B13
  clear B13 D13
  simp only [UInt8.reduceToNat, Int.cast_ofNat_Int] at yb yc yx
  go_wp2_with fail
  refine KD.mono ?_
  rintro _ wq ⟨rfl, hwq⟩
  rw [hwq]
  clear hwq wq
  go_wp2
  go_ret
  exact ⟨rfl, FB.out⟩
end Go.Proofs.Ytabcbmabimommaa.Gf

/-
  THE DOCUMENT's ANSWER FOR LAYER 2 (package aumbryref02) BY CONTRACT: 'Same' tells whether two lists of bytes are one.
-/

namespace Go.Proofs.Ytabcbmabimommaa.Gf
set_option linter.unusedVariables false
set_option linter.unusedSimpArgs false
open Go.RowKit

def sameB (p q : List UInt8) : Bool := decide (p = q)
theorem sameB_self (p : List UInt8) : sameB p p = true := decide_eq_true rfl
theorem sameB_of {p q : List UInt8} (h : p = q) : sameB p q = true := decide_eq_true h

set_option maxRecDepth 100000 in
set_option maxHeartbeats 1000000 in
/-- of unlike lengths -/
theorem same_len (a b : Option Addr) (n m c d : Nat) (w : World) (h : n ≠ m) :
    Calls Try.prog 22 #[.slice a n c, .slice b m d] w fun e w' => e = .returned (.bool false) ∧ w' = w := by
  have hb : ((n : Int) != (m : Int)) = true := by simp; omega
  go_enter Try.func22, Try.ntmps22
  go_wp2
  go_ret
  exact ⟨rfl, rfl⟩

set_option maxRecDepth 100000 in
set_option maxHeartbeats 1000000 in
/-- of nothing -/
theorem same_nil (a b : Option Addr) (c d : Nat) (w : World) :
    Calls Try.prog 22 #[.slice a 0 c, .slice b 0 d] w fun e w' => e = .returned (.bool true) ∧ w' = w := by
  go_enter Try.func22, Try.ntmps22
  go_wp2
  go_loop [5] (fun i => i = .int .i64 0) (fun _ => 0)
  case atStart => rfl
  case round =>
    subst hrel
    go_wp2
    go_ret
    exact ⟨rfl, rfl⟩

set_option maxRecDepth 100000 in
set_option maxHeartbeats 1000000 in
theorem same_main (b off b' off' c d : Nat) (p q : List UInt8) (w : World) (hl : q.length = p.length) (hm : p.length ≤ 9223372036854775807)
    (hp : ∀ i, i < p.length → w.cell? ⟨b, off + i, none⟩ = some (.int .u8 ((co p i).toNat : Nat)))
    (hq : ∀ i, i < p.length → w.cell? ⟨b', off' + i, none⟩ = some (.int .u8 ((co q i).toNat : Nat))) :
    Calls Try.prog 22 #[.slice (some ⟨b, off, none⟩) p.length c, .slice (some ⟨b', off', none⟩) p.length d] w fun e w' => e = .returned (.bool (sameB p q)) ∧ ∃ n, w' = w.drewN n := by
  have hb : ((p.length : Int) != (p.length : Int)) = false := by simp
  go_enter Try.func22, Try.ntmps22
  go_wp2
  clear hb
  go_loopw [5] (fun i wr => ∃ k : Nat, k ≤ p.length ∧ i = .int .i64 k ∧ Hid (∀ j, j < k → co p j = co q j) ∧ ∃ n, wr = w.drewN n) (fun i _ => p.length - (intOf i).toNat)
  case atStart => exact ⟨0, by omega, rfl, fun j hj => by omega, 0, rfl⟩
  case round =>
    obtain ⟨k, hk, rfl, hs, nd, rfl⟩ := hrel
    by_cases hlt : k < p.length
    · have c1 := hp k hlt
      have c2 := hq k hlt
      by_cases e : co p k = co q k
      · have hn : ((((co p k).toNat : Nat) : Int) != (((co q k).toNat : Nat) : Int)) = false := by rw [ne_u8]; simp [e]
        have HS : Hid (∀ j, j < k + 1 → co p j = co q j) := fun j hj => by
          by_cases e2 : j = k
          · rw [e2]; exact e
          · exact hs.out j (by omega)
        clear e hp hq hs
        go_wp2
        go_quiet (fail)
        go_wp2
        go_roundw
        case rel => exact ⟨k + 1, by omega, by go_num, HS, _, rfl⟩
        case measure => simp [intOf]; omega
      · have hn : ((((co p k).toNat : Nat) : Int) != (((co q k).toNat : Nat) : Int)) = true := by rw [ne_u8]; simp [e]
        have E : Hid (sameB p q = false) := by
          refine decide_eq_false (fun h => e ?_)
          rw [h]
        clear e hp hq hs
        go_wp2
        go_quiet (fail)
        go_wp2
        go_ret
        exact ⟨by rw [E.out]; rfl, _, World.drewN_drewN _ _ _⟩
    · have E : Hid (sameB p q = true) := sameB_of (co_ext hl.symm (fun i hi => hs.out i (by omega)))
      clear hp hq hs
      go_wp2
      go_ret
      exact ⟨by rw [E.out]; rfl, _, rfl⟩

theorem same_any {va vb : Value} {p q : List UInt8} {w : World} (hp : Rd w va p) (hq : Rd w vb q) :
    Calls Try.prog 22 #[va, vb] w fun e w' => e = .returned (.bool (sameB p q)) ∧ ∃ n, w' = w.drewN n := by
  have l1 := hp.len
  have l2 := hq.len
  unfold maxLen at l1 l2
  by_cases hl : p.length = q.length
  · rcases hp with ⟨a, c, rfl, rfl, _⟩ | ⟨b, off, c, hp0, rfl, _, _, _, hpc⟩
    · have : q = [] := List.length_eq_zero_iff.1 (by simpa using hl.symm)
      subst this
      rcases hq with ⟨a', c', _, rfl, _⟩ | ⟨_, _, _, h, _⟩
      · exact (same_nil a a' c c' w).mono fun e w' ⟨he, hw⟩ => ⟨by rw [he, sameB_self], 0, hw⟩
      · exact absurd rfl h
    · rcases hq with ⟨a', c', rfl, rfl, _⟩ | ⟨b', off', c', hq0, rfl, _, _, _, hqc⟩
      · exact absurd (List.length_eq_zero_iff.1 hl) hp0
      · rw [← hl]
        exact same_main b off b' off' c c' p q w hl.symm (by omega) hpc (fun i hi => hqc i (by omega))
  · have E : sameB p q = false := decide_eq_false (fun h => hl (by rw [h]))
    have key : ∃ a n c, va = .slice a n c ∧ n = p.length := by
      rcases hp with ⟨a, c, rfl, rfl, _⟩ | ⟨b, off, c, hp0, rfl, _⟩
      · exact ⟨_, _, _, rfl, rfl⟩
      · exact ⟨_, _, _, rfl, rfl⟩
    have key2 : ∃ a n c, vb = .slice a n c ∧ n = q.length := by
      rcases hq with ⟨a, c, rfl, rfl, _⟩ | ⟨b, off, c, hp0, rfl, _⟩
      · exact ⟨_, _, _, rfl, rfl⟩
      · exact ⟨_, _, _, rfl, rfl⟩
    obtain ⟨a, n, c, rfl, rfl⟩ := key
    obtain ⟨a', n', c', rfl, rfl⟩ := key2
    exact (same_len a a' _ _ c c' w hl).mono fun e w' ⟨he, hw⟩ => ⟨by rw [he, E], 0, hw⟩

/-- the same, for a caller: the world behind it is a new letter -/
theorem same_b {va vb : Value} {p q : List UInt8} {w : World} (hp : Rd w va p) (hq : Rd w vb q) :
    Calls Try.prog 22 #[va, vb] w fun e w' => e = .returned (.bool (sameB p q)) ∧ Below w.heap.size w w' :=
  (same_any hp hq).mono fun e w' ⟨he, n, hw⟩ => ⟨he, by rw [hw]; exact ⟨rfl, rfl, rfl, Nat.le_refl _, fun _ _ => rfl⟩⟩

end Go.Proofs.Ytabcbmabimommaa.Gf

