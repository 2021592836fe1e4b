/- TEXTS JOINED: ArDoM, ArDone. -/
import Derived.Test.YtgahaebfgmbckaaTome26
namespace Go.Proofs.Ytgahaebfgmbckaa.Gf
set_option linter.unusedVariables false
set_option linter.unusedSimpArgs false
open Go.RowKit
/-- calls of a script that lie in none of the blocks -/
structure ApC (G : Nat → Prop) (c : CallA) : Prop where
  b : ApartG G c.vb
  k : ApartG G c.vk
  r : ∀ r ∈ c.keep, ApartG G r.1
structure ToldA (w : World) (G : Nat → Prop) (v : Value) (L : List CallA) : Prop where
  rd : RdA w v L
  ap : ApartG G v
  each : ∀ c ∈ L, ApC G c
theorem CA_mem {L : List CallA} {k : Nat} (hk : k < L.length) : L.getD k default ∈ L := by
  rw [show L.getD k default = L[k] by simp [List.getD, hk]]
  exact List.getElem_mem hk
theorem CA_ex {L : List CallA} {c : CallA} (h : c ∈ L) : ∃ k, k < L.length ∧ L.getD k default = c := by
  obtain ⟨i, hi, e⟩ := List.getElem_of_mem h
  exact ⟨i, hi, by rw [← e]; simp [List.getD, hi]⟩
section
variable {G G' : Nat → Prop} {w w' : World} {v : Value} {L : List CallA}
theorem ApC.grew {c : CallA} (h : ApC G c) (rb : Rd w c.vb c.b) (rk : RdII w c.vk c.keep) (g : Grew G w G' w') : Rd w' c.vb c.b ∧ RdII w' c.vk c.keep ∧ ApC G' c := by
  have T := ToldII.grew ⟨rk, h.k, h.r⟩ g
  exact ⟨rb.grew h.b g, T.rd, h.b.grew rb g, T.ap, T.each⟩
theorem ToldA.grew (h : ToldA w G v L) (g : Grew G w G' w') : ToldA w' G' v L := by
  have h0 := h.rd
  rcases h0 with ⟨ao, cp, e1, e2⟩ | ⟨b, off, cap, h1, h2, h3, h4, h5⟩
  · refine ⟨Or.inl ⟨ao, cp, e1, e2⟩, by rw [e2]; exact ApartG.nil _ _ _, ?_⟩
    rw [e1]
    intro c hc
    cases hc
  · have hb : ¬ G b := by
      rcases h.ap _ _ _ h2 with e | e
      · exact absurd (List.length_eq_zero_iff.1 e) h1
      · exact e
    have cc : ∀ o, w'.cell? ⟨b, o, none⟩ = w.cell? ⟨b, o, none⟩ := fun o => g.turn.cell (p := ⟨b, o, none⟩) h4 hb
    refine ⟨Or.inr ⟨b, off, cap, h1, h2, h3, Nat.lt_of_lt_of_le h4 g.turn.size, fun i hi => ?_⟩, ?_, ?_⟩
    · have h6 := h5 i hi
      obtain ⟨r1, r2, _⟩ := (h.each _ (CA_mem hi)).grew h6.rb h6.rk g
      exact ⟨(cc _).trans h6.c0, (cc _).trans h6.c1, (cc _).trans h6.c2, (cc _).trans h6.c3, (cc _).trans h6.c4, (cc _).trans h6.c5, (cc _).trans h6.c6, h6.wk, h6.wd, h6.wn, h6.wm, r1, r2⟩
    · rw [h2]
      intro x n c e
      simp at e
      obtain ⟨rfl, _⟩ := e
      exact Or.inr (g.off h4 hb)
    · intro c hc
      obtain ⟨i, hi, rfl⟩ := CA_ex hc
      exact ((h.each _ hc).grew (h5 i hi).rb (h5 i hi).rk g).2.2
theorem ApC.old {w0 : World} {c : CallA} (rb : Rd w0 c.vb c.b) (rk : RdII w0 c.vk c.keep) (hg : ∀ g, G g → w0.heap.size ≤ g) : ApC G c := by
  have T := ToldII.old (G := G) rk hg (Below.refl _ _)
  exact ⟨rb.apartG hg, T.ap, T.each⟩
theorem ToldA.old {w0 : World} (h : RdA w0 v L) (hg : ∀ g, G g → w0.heap.size ≤ g) (hw : Below w0.heap.size w0 w) : ToldA w G v L := by
  refine ⟨h.below hw, ?_, ?_⟩
  · rcases h with ⟨ao, cp, e1, e2⟩ | ⟨b, off, cap, h1, h2, h3, h4, h5⟩
    · rw [e2]
      exact ApartG.nil _ _ _
    · rw [h2]
      intro x n c e
      simp at e
      obtain ⟨rfl, _⟩ := e
      exact Or.inr (fun e2 => by have := hg _ e2; simp at this; omega)
  · intro c hc
    rcases h with ⟨ao, cp, e1, e2⟩ | ⟨b, off, cap, h1, h2, h3, h4, h5⟩
    · rw [e1] at hc; cases hc
    · obtain ⟨i, hi, rfl⟩ := CA_ex hc
      exact ApC.old (h5 i hi).rb (h5 i hi).rk hg
theorem CallAtA.toV {b off : Nat} {c : CallA} (h : CallAtA w b off c) : CallV w c := ⟨h.wk, h.wd, h.wn, h.wm, h.rb, h.rk⟩
end
end Go.Proofs.Ytgahaebfgmbckaa.Gf

namespace Go.Proofs.Ytgahaebfgmbckaa.Gf
set_option linter.unusedVariables false
set_option linter.unusedSimpArgs false
open Go.RowKit
set_option maxRecDepth 100000 in
theorem asmall_any {w : World} {c : CallA} (hc : CallV w c) : Calls Try.prog 35 #[aggA c] w fun e w' => e = .returned (.bool (decide (smallA c))) ∧ Below w.heap.size w w' := by
  obtain ⟨wk, wd, wn, wm, rb, rk⟩ := hc
  obtain ⟨kd, cd, cn, cm, cy, cvb, cvk, cb, ck⟩ := c
  simp only at rb rk
  obtain ⟨ba, bc, rfl⟩ := rb.form
  obtain ⟨ka, kc, rfl⟩ := rk.form
  have eA : aggA ⟨kd, cd, cn, cm, cy, .slice ba cb.length bc, .slice ka ck.length kc, cb, ck⟩ = .agg #[.int .i64 kd, .int .i64 cd, .int .i64 cn, .int .i64 cm, .int .u8 ((cy.toNat : Nat) : Int), .slice ba cb.length bc, .slice ka ck.length kc] := rfl
  rw [eA]
  clear eA
  have TRU : ∀ x, decide (smallA ⟨kd, cd, cn, cm, cy, .slice ba cb.length bc, .slice ka ck.length kc, cb, ck⟩) = x ↔ decide (cb.length ≤ 4200 ∧ ck.length ≤ 40 ∧ ∀ r ∈ ck, r.2.length ≤ 100) = x := fun x => Iff.rfl
  obtain ⟨x, hx⟩ : ∃ x, Hid (decide (smallA ⟨kd, cd, cn, cm, cy, .slice ba cb.length bc, .slice ka ck.length kc, cb, ck⟩) = x) := ⟨_, rfl⟩
  rw [hx.out]
  replace hx : Hid (decide (cb.length ≤ 4200 ∧ ck.length ≤ 40 ∧ ∀ r ∈ ck, r.2.length ≤ 100) = x) := (TRU x).1 hx.out
  clear TRU
  by_cases h1 : cb.length ≤ 4200
  · have q1 : ¬ (cb.length : Int) > 4200 := by omega
    by_cases h2 : ck.length ≤ 40
    · have q2 : ¬ (ck.length : Int) > 40 := by omega
      obtain ⟨g, hg⟩ : ∃ g, Hid (g = w.heap.size) := ⟨_, rfl⟩
      have X : Hid (∀ o, Below w.heap.size w (w.alloc o)) := fun o => belA w o
      have RK : Hid (∀ o, RdII (w.alloc o) (.slice ka ck.length kc) ck) := fun o => rk.below (belA w o)
      have x6 : (w.alloc (.cells #[.int .i64 kd, .int .i64 cd, .int .i64 cn, .int .i64 cm, .int .u8 ((cy.toNat : Nat) : Int), .slice ba cb.length bc, .slice ka ck.length kc] 43)).cell? ⟨w.heap.size, 6, none⟩ = some (.slice ka ck.length kc) := World.cell?_alloc_new _ _ _ _
      have BU := X.out (.cells #[.int .i64 kd, .int .i64 cd, .int .i64 cn, .int .i64 cm, .int .u8 ((cy.toNat : Nat) : Int), .slice ba cb.length bc, .slice ka ck.length kc] 43)
      have RU := RK.out (.cells #[.int .i64 kd, .int .i64 cd, .int .i64 cn, .int .i64 cm, .int .u8 ((cy.toNat : Nat) : Int), .slice ba cb.length bc, .slice ka ck.length kc] 43)
      clear rb rk X RK
      go_enter Try.func35, Try.ntmps35
      go_wp2
      obtain ⟨u, hu⟩ : ∃ u, u = w.alloc (.cells #[.int .i64 kd, .int .i64 cd, .int .i64 cn, .int .i64 cm, .int .u8 ((cy.toNat : Nat) : Int), .slice ba cb.length bc, .slice ka ck.length kc] 43) := ⟨_, rfl⟩
      rw [← hu] at x6 BU RU ⊢
      clear hu
      have FB : Hid (Below w.heap.size w u) := BU
      clear BU
      go_loopw [3] (fun i wr => ∃ k : Nat, k ≤ ck.length ∧ i = .int .i64 (k : Int) ∧ wr = u ∧ ∀ j, j < k → (ck.getD j default).2.length ≤ 100) (fun i _ => ck.length - (intOf i).toNat)
      case atStart => exact ⟨0, Nat.zero_le _, rfl, rfl, fun j hj => absurd hj (Nat.not_lt_zero _)⟩
      case round =>
        obtain ⟨k, hk, rfl, rfl, hj⟩ := hrel
        by_cases hlt : k < ck.length
        · have hlt' : (k : Int) < (ck.length : Int) := by omega
          have g1 : IntKind.i64.wrap ((k : Int) + 1) = ((k + 1 : Nat) : Int) := by rw [IntKind.wrap_i64]; omega
          obtain ⟨b, off, rfl, hb, hrow⟩ := RU.at hlt
          obtain ⟨ra, rcp, er⟩ := hrow.rd.form
          have rc := hrow.c
          rw [er] at rc
          by_cases h5 : (ck.getD k default).2.length ≤ 100
          · have q5 : ¬ ((ck.getD k default).2.length : Int) > 100 := by omega
            have HJ : Hid (∀ j, j < k + 1 → (ck.getD j default).2.length ≤ 100) := fun j hj2 => by
              by_cases e : j = k
              · rw [e]; exact h5
              · exact hj j (by omega)
            obtain ⟨m, hm⟩ : ∃ m, m = (ck.getD k default).2.length := ⟨_, rfl⟩
            rw [← hm] at rc q5
            clear hrow er hj hm h5
            go_wp2
            go_roundw
            case rel => exact ⟨k + 1, by omega, by go_num, by first | rfl | trivial, HJ.out⟩
            case measure => simp [intOf]; omega
          · have q5 : ((ck.getD k default).2.length : Int) > 100 := by omega
            have EX : Hid (x = false) := by
              show x = false
              rw [← hx.out]
              exact decide_eq_false (fun h => h5 (h.2.2 _ (VI_mem hlt)))
            obtain ⟨m, hm⟩ : ∃ m, m = (ck.getD k default).2.length := ⟨_, rfl⟩
            rw [← hm] at rc q5
            clear hrow er hj hm h5 hx
            go_wp2
            go_ret
            exact ⟨by rw [EX.out]; rfl, FB.out⟩
        · have hlt' : ¬ (k : Int) < (ck.length : Int) := by omega
          have EX : Hid (x = true) := by
            show x = true
            rw [← hx.out]
            refine decide_eq_true ⟨h1, h2, fun r hr => ?_⟩
            obtain ⟨i, hi, rfl⟩ := VI_ex hr
            exact hj i (by omega)
          clear hj hx RU
          go_wp2
          go_ret
          exact ⟨by rw [EX.out]; rfl, FB.out⟩
    · have q2 : (ck.length : Int) > 40 := by omega
      have EX : Hid (x = false) := by
        show x = false
        rw [← hx.out]
        exact decide_eq_false (fun h => h2 h.2.1)
      rw [EX.out]
      clear hx rb rk
      go_enter Try.func35, Try.ntmps35
      go_wp2
      go_ret
      exact ⟨rfl, belA _ _⟩
  · have q1 : (cb.length : Int) > 4200 := by omega
    have EX : Hid (x = false) := by
      show x = false
      rw [← hx.out]
      exact decide_eq_false (fun h => h1 h.1)
    rw [EX.out]
    clear hx rb rk
    go_enter Try.func35, Try.ntmps35
    go_wp2
    go_ret
    exact ⟨rfl, belA _ _⟩
set_option maxRecDepth 100000 in
set_option maxHeartbeats 4000000 in
theorem adone_any {w : World} {ab : Nat} {GA : Nat → Prop} {a : ArS} (h : ArAt w ab GA a) {v : Value} {L : List CallA} (hL : ToldA w GA v L) :
    Calls Try.prog 17 #[.pointer (some ⟨ab, 0, none⟩), v] w (LeavesA w ab GA (runA a (L.take 50)) (.tuple #[])) := by
  obtain ⟨va, vc, rfl⟩ := hL.rd.form
  have START : Hid (∃ GA', ArAt w ab GA' (runA a (L.take 0)) ∧ Grew GA w GA' w) := ⟨GA, h, Grew.refl _ _⟩
  clear h
  go_enter Try.func17, Try.ntmps17
  go_wp2
  go_loopw [4] (fun i wr => ∃ k : Nat, k ≤ L.length ∧ k ≤ 50 ∧ i = .int .i64 (k : Int) ∧ ∃ GA', ArAt wr ab GA' (runA a (L.take k)) ∧ Grew GA w GA' wr) (fun i _ => 50 - (intOf i).toNat)
  case atStart => exact ⟨0, Nat.zero_le _, Nat.zero_le _, rfl, START.out⟩
  case round =>
    clear START
    obtain ⟨k, hk1, hk2, rfl, G, hD, hg⟩ := hrel
    by_cases hlt : k < L.length ∧ k < 50
    · obtain ⟨hl1, hl2⟩ := hlt
      have q1 : (k : Int) < (L.length : Int) := by omega
      have q2 : (k : Int) < 50 := by omega
      have g1 : IntKind.i64.wrap ((k : Int) + 1) = ((k + 1 : Nat) : Int) := by rw [IntKind.wrap_i64]; omega
      have hLr := hL.grew hg
      obtain ⟨b, off, rfl, hb, hc⟩ := hLr.rd.at hl1
      have hap := hLr.each _ (CA_mem hl1)
      have HS : Hid (runA a (L.take (k + 1)) = stepA (runA a (L.take k)) (L.getD k default)) := runA_take hl1
      obtain ⟨c, hcc⟩ : ∃ c, c = L.getD k default := ⟨_, rfl⟩
      rw [← hcc] at hc hap HS
      clear hcc hLr
      obtain ⟨d, hd⟩ : ∃ d, d = runA a (L.take k) := ⟨_, rfl⟩
      rw [← hd] at hD HS
      clear hd
      have hv := hc.toV
      obtain ⟨kd, cd, cn, cm, cy, cvb, cvk, cb, ck⟩ := c
      obtain ⟨c0, c1, c2, c3, c4, c5, c6, wk, wd, wn, wm, rb, rk⟩ := hc
      obtain ⟨ap1, ap2, ap3⟩ := hap
      simp only at c0 c1 c2 c3 c4 c5 c6 wk wd wn wm rb rk ap1 ap2 ap3
      obtain ⟨ba, bc, rfl⟩ := rb.form
      obtain ⟨ka, kc, rfl⟩ := rk.form
      have SM : Hid (∀ o, Calls Try.prog 35 #[.agg #[.int .i64 kd, .int .i64 cd, .int .i64 cn, .int .i64 cm, .int .u8 ((cy.toNat : Nat) : Int), .slice ba cb.length bc, .slice ka ck.length kc]] (wr.alloc o) fun e w' => e = .returned (.bool (decide (smallA ⟨kd, cd, cn, cm, cy, .slice ba cb.length bc, .slice ka ck.length kc, cb, ck⟩))) ∧ Below (wr.alloc o).heap.size (wr.alloc o) w') := fun o => asmall_any (hv.below (belA wr o))
      have NX : Hid (∀ W, Below (wr.alloc (.cells #[.int .i64 kd, .int .i64 cd, .int .i64 cn, .int .i64 cm, .int .u8 ((cy.toNat : Nat) : Int), .slice ba cb.length bc, .slice ka ck.length kc] 43)).heap.size (wr.alloc (.cells #[.int .i64 kd, .int .i64 cd, .int .i64 cn, .int .i64 cm, .int .u8 ((cy.toNat : Nat) : Int), .slice ba cb.length bc, .slice ka ck.length kc] 43)) W →
          Below wr.heap.size wr W ∧ ∀ j, W.cell? ⟨wr.heap.size, j, none⟩ = (#[.int .i64 kd, .int .i64 cd, .int .i64 cn, .int .i64 cm, .int .u8 ((cy.toNat : Nat) : Int), .slice ba cb.length bc, .slice ka ck.length kc] : Array Value)[j]?) := fun W h =>
        ⟨((Below.refl _ _).alloc (Nat.le_refl _) _).trans (h.mono (by simp)), fun j => (h.cell (p := ⟨wr.heap.size, j, none⟩) (by simp)).trans (World.cell?_alloc_new _ _ _ _)⟩
      clear hv
      by_cases hs : smallA ⟨kd, cd, cn, cm, cy, .slice ba cb.length bc, .slice ka ck.length kc, cb, ck⟩
      · have ES : decide (smallA ⟨kd, cd, cn, cm, cy, .slice ba cb.length bc, .slice ka ck.length kc, cb, ck⟩) = true := decide_eq_true hs
        rw [ES] at SM
        have hs3 : Hid (∀ r ∈ ck, r.2.length ≤ 9223372036854775807) := fun r hr => Nat.le_trans (hs.2.2 r hr) (by decide)
        obtain ⟨PL, hPL⟩ : ∃ PL, Hid (PL = playA d ⟨kd, cd, cn, cm, cy, .slice ba cb.length bc, .slice ka ck.length kc, cb, ck⟩) := ⟨_, rfl⟩
        have HP : Hid (runA a (L.take (k + 1)) = PL) := by
          show _ = _
          rw [HS.out, hPL.out]
          exact if_pos hs
        have END : Hid (∀ W w3 G3, Below wr.heap.size wr W → ArAt w3 ab G3 PL → Grew G W G3 w3 → ∃ G, ArAt w3 ab G (runA a (L.take (k + 1))) ∧ Grew GA w G w3) := by
          intro W w3 G3 hW hD3 hg3
          exact ⟨G3, by rw [HP.out]; exact hD3, (hg.trans (Grew.of_below hW)).trans hg3⟩
        clear HS HP ES hs
        by_cases k1 : kd = 1
        · subst k1
          have HQ : Hid (PL = wrAS d cd cn cb) := by rw [hPL.out]; rfl
          clear hPL
          go_wp2_with fail
          refine (SM.out _).mono ?_
          rintro _ w2 ⟨rfl, B2⟩
          obtain ⟨B3, X⟩ := NX.out _ B2
          have x0 := X 0
          have x1 := X 1
          have x2 := X 2
          have x3 := X 3
          have x4 := X 4
          have x5 := X 5
          have x6 := X 6
          simp at x0 x1 x2 x3 x4 x5 x6
          have D2 := hD.below B3
          clear X B2 NX SM hD c0 c1 c2 c3 c4 c5 c6
          go_wp2_with fail
          refine (awrite_any D2 wd wn (rb.below B3)).mono ?_
          rintro _ w3 ⟨rfl, G3, D3, g3⟩
          have E3 : Hid (∃ G, ArAt w3 ab G (runA a (L.take (k + 1))) ∧ Grew GA w G w3) := END.out _ w3 G3 B3 (by rw [HQ.out]; exact D3) g3
          clear END D3 g3 D2 B3 rb rk ap1 ap2 ap3 hg x0 x1 x2 x3 x4 x5 x6 HQ
          go_wp2
          go_roundw
          case rel => exact ⟨k + 1, by omega, by omega, by go_num, E3.out⟩
          case measure => simp [intOf]; omega
        have z1 : (kd == 1) = false := beq_eq_false_iff_ne.2 k1
        by_cases k3 : kd = 3
        · subst k3
          have HQ : Hid (PL = flAS d) := by rw [hPL.out]; rfl
          clear hPL
          go_wp2_with fail
          refine (SM.out _).mono ?_
          rintro _ w2 ⟨rfl, B2⟩
          obtain ⟨B3, X⟩ := NX.out _ B2
          have x0 := X 0
          have x1 := X 1
          have x2 := X 2
          have x3 := X 3
          have x4 := X 4
          have x5 := X 5
          have x6 := X 6
          simp at x0 x1 x2 x3 x4 x5 x6
          have D2 := hD.below B3
          clear X B2 NX SM hD c0 c1 c2 c3 c4 c5 c6
          go_wp2_with fail
          refine (aflush_any D2).mono ?_
          rintro _ w3 ⟨rfl, G3, D3, g3⟩
          have E3 : Hid (∃ G, ArAt w3 ab G (runA a (L.take (k + 1))) ∧ Grew GA w G w3) := END.out _ w3 G3 B3 (by rw [HQ.out]; exact D3) g3
          clear END D3 g3 D2 B3 rb rk ap1 ap2 ap3 hg x0 x1 x2 x3 x4 x5 x6 HQ
          go_wp2
          go_roundw
          case rel => exact ⟨k + 1, by omega, by omega, by go_num, E3.out⟩
          case measure => simp [intOf]; omega
        have z3 : (kd == 3) = false := beq_eq_false_iff_ne.2 k3
        by_cases k4 : kd = 4
        · subst k4
          have HQ : Hid (PL = caA d cn) := by rw [hPL.out]; rfl
          clear hPL
          go_wp2_with fail
          refine (SM.out _).mono ?_
          rintro _ w2 ⟨rfl, B2⟩
          obtain ⟨B3, X⟩ := NX.out _ B2
          have x0 := X 0
          have x1 := X 1
          have x2 := X 2
          have x3 := X 3
          have x4 := X 4
          have x5 := X 5
          have x6 := X 6
          simp at x0 x1 x2 x3 x4 x5 x6
          have D2 := hD.below B3
          clear X B2 NX SM hD c0 c1 c2 c3 c4 c5 c6
          go_wp2_with fail
          refine (aafter_any D2 wn).mono ?_
          rintro _ w3 ⟨rfl, G3, D3, g3⟩
          have E3 : Hid (∃ G, ArAt w3 ab G (runA a (L.take (k + 1))) ∧ Grew GA w G w3) := END.out _ w3 G3 B3 (by rw [HQ.out]; exact D3) g3
          clear END D3 g3 D2 B3 rb rk ap1 ap2 ap3 hg x0 x1 x2 x3 x4 x5 x6 HQ
          go_wp2
          go_roundw
          case rel => exact ⟨k + 1, by omega, by omega, by go_num, E3.out⟩
          case measure => simp [intOf]; omega
        have z4 : (kd == 4) = false := beq_eq_false_iff_ne.2 k4
        by_cases k5 : kd = 5
        · subst k5
          have HQ : Hid (PL = reAS d (ck.map (·.2))) := by rw [hPL.out]; rfl
          clear hPL
          go_wp2_with fail
          refine (SM.out _).mono ?_
          rintro _ w2 ⟨rfl, B2⟩
          obtain ⟨B3, X⟩ := NX.out _ B2
          have x0 := X 0
          have x1 := X 1
          have x2 := X 2
          have x3 := X 3
          have x4 := X 4
          have x5 := X 5
          have x6 := X 6
          simp at x0 x1 x2 x3 x4 x5 x6
          have D2 := hD.below B3
          clear X B2 NX SM hD c0 c1 c2 c3 c4 c5 c6
          go_wp2_with fail
          refine (arestart_any D2 ⟨rk.below B3, ap2, ap3⟩ hs3.out).mono ?_
          rintro _ w3 ⟨rfl, G3, D3, g3⟩
          have E3 : Hid (∃ G, ArAt w3 ab G (runA a (L.take (k + 1))) ∧ Grew GA w G w3) := END.out _ w3 G3 B3 (by rw [HQ.out]; exact D3) g3
          clear END D3 g3 D2 B3 rb rk ap1 ap2 ap3 hg x0 x1 x2 x3 x4 x5 x6 HQ
          go_wp2
          go_roundw
          case rel => exact ⟨k + 1, by omega, by omega, by go_num, E3.out⟩
          case measure => simp [intOf]; omega
        have z5 : (kd == 5) = false := beq_eq_false_iff_ne.2 k5
        by_cases k6 : kd = 6
        · subst k6
          have HQ : Hid (PL = faAS d cd) := by rw [hPL.out]; rfl
          clear hPL
          go_wp2_with fail
          refine (SM.out _).mono ?_
          rintro _ w2 ⟨rfl, B2⟩
          obtain ⟨B3, X⟩ := NX.out _ B2
          have x0 := X 0
          have x1 := X 1
          have x2 := X 2
          have x3 := X 3
          have x4 := X 4
          have x5 := X 5
          have x6 := X 6
          simp at x0 x1 x2 x3 x4 x5 x6
          have D2 := hD.below B3
          clear X B2 NX SM hD c0 c1 c2 c3 c4 c5 c6
          go_wp2_with fail
          refine (afail_any D2 wd).mono ?_
          rintro _ w3 ⟨rfl, G3, D3, g3⟩
          have E3 : Hid (∃ G, ArAt w3 ab G (runA a (L.take (k + 1))) ∧ Grew GA w G w3) := END.out _ w3 G3 B3 (by rw [HQ.out]; exact D3) g3
          clear END D3 g3 D2 B3 rb rk ap1 ap2 ap3 hg x0 x1 x2 x3 x4 x5 x6 HQ
          go_wp2
          go_roundw
          case rel => exact ⟨k + 1, by omega, by omega, by go_num, E3.out⟩
          case measure => simp [intOf]; omega
        have z6 : (kd == 6) = false := beq_eq_false_iff_ne.2 k6
        by_cases k7 : kd = 7
        · subst k7
          have HQ : Hid (PL = rpAS d cd) := by rw [hPL.out]; rfl
          clear hPL
          go_wp2_with fail
          refine (SM.out _).mono ?_
          rintro _ w2 ⟨rfl, B2⟩
          obtain ⟨B3, X⟩ := NX.out _ B2
          have x0 := X 0
          have x1 := X 1
          have x2 := X 2
          have x3 := X 3
          have x4 := X 4
          have x5 := X 5
          have x6 := X 6
          simp at x0 x1 x2 x3 x4 x5 x6
          have D2 := hD.below B3
          clear X B2 NX SM hD c0 c1 c2 c3 c4 c5 c6
          go_wp2_with fail
          refine (arepl_any D2 wd).mono ?_
          rintro _ w3 ⟨rfl, G3, D3, g3⟩
          have E3 : Hid (∃ G, ArAt w3 ab G (runA a (L.take (k + 1))) ∧ Grew GA w G w3) := END.out _ w3 G3 B3 (by rw [HQ.out]; exact D3) g3
          clear END D3 g3 D2 B3 rb rk ap1 ap2 ap3 hg x0 x1 x2 x3 x4 x5 x6 HQ
          go_wp2
          go_roundw
          case rel => exact ⟨k + 1, by omega, by omega, by go_num, E3.out⟩
          case measure => simp [intOf]; omega
        have z7 : (kd == 7) = false := beq_eq_false_iff_ne.2 k7
        by_cases k8 : kd = 8
        · subst k8
          have HQ : Hid (PL = coAS d cd cn cm cy) := by rw [hPL.out]; rfl
          clear hPL
          go_wp2_with fail
          refine (SM.out _).mono ?_
          rintro _ w2 ⟨rfl, B2⟩
          obtain ⟨B3, X⟩ := NX.out _ B2
          have x0 := X 0
          have x1 := X 1
          have x2 := X 2
          have x3 := X 3
          have x4 := X 4
          have x5 := X 5
          have x6 := X 6
          simp at x0 x1 x2 x3 x4 x5 x6
          have D2 := hD.below B3
          clear X B2 NX SM hD c0 c1 c2 c3 c4 c5 c6
          go_wp2_with fail
          refine (acorr_any D2 wd wn wm cy).mono ?_
          rintro _ w3 ⟨rfl, G3, D3, g3⟩
          have E3 : Hid (∃ G, ArAt w3 ab G (runA a (L.take (k + 1))) ∧ Grew GA w G w3) := END.out _ w3 G3 B3 (by rw [HQ.out]; exact D3) g3
          clear END D3 g3 D2 B3 rb rk ap1 ap2 ap3 hg x0 x1 x2 x3 x4 x5 x6 HQ
          go_wp2
          go_roundw
          case rel => exact ⟨k + 1, by omega, by omega, by go_num, E3.out⟩
          case measure => simp [intOf]; omega
        have z8 : (kd == 8) = false := beq_eq_false_iff_ne.2 k8
        have HQ : Hid (PL = d) := by show PL = d; rw [hPL.out]; unfold playA; simp [k1, k3, k4, k5, k6, k7, k8]
        clear k1 k3 k4 k5 k6 k7 k8
        clear hPL
        go_wp2_with fail
        refine (SM.out _).mono ?_
        rintro _ w2 ⟨rfl, B2⟩
        obtain ⟨B3, X⟩ := NX.out _ B2
        have x0 := X 0
        simp at x0
        have E3 : Hid (∃ G, ArAt w2 ab G (runA a (L.take (k + 1))) ∧ Grew GA w G w2) := END.out _ w2 G B3 (by rw [HQ.out]; exact hD.below B3) (Grew.refl G w2)
        clear X B2 NX SM hD c0 c1 c2 c3 c4 c5 c6 END B3 rb rk ap1 ap2 ap3 hg HQ
        go_wp2
        go_roundw
        case rel => exact ⟨k + 1, by omega, by omega, by go_num, E3.out⟩
        case measure => simp [intOf]; omega
      · have ES : decide (smallA ⟨kd, cd, cn, cm, cy, .slice ba cb.length bc, .slice ka ck.length kc, cb, ck⟩) = false := decide_eq_false hs
        rw [ES] at SM
        have HP : Hid (runA a (L.take (k + 1)) = d) := by
          show _ = _
          rw [HS.out]
          exact if_neg hs
        clear HS ES
        go_wp2_with fail
        refine (SM.out _).mono ?_
        rintro _ w2 ⟨rfl, B2⟩
        obtain ⟨B3, X⟩ := NX.out _ B2
        have E3 : Hid (∃ G, ArAt w2 ab G (runA a (L.take (k + 1))) ∧ Grew GA w G w2) := ⟨G, by rw [HP.out]; exact hD.below B3, hg.trans (Grew.of_below B3)⟩
        clear X B2 NX SM hD c0 c1 c2 c3 c4 c5 c6 HP B3 rb rk ap1 ap2 ap3 hg hs
        go_wp2
        go_roundw
        case rel => exact ⟨k + 1, by omega, by omega, by go_num, E3.out⟩
        case measure => simp [intOf]; omega
    · have FIN : Hid (∃ G, ArAt wr ab G (runA a (L.take 50)) ∧ Grew GA w G wr) := by
        refine ⟨G, ?_, hg⟩
        have : L.take 50 = L.take k := by
          by_cases h3 : k = 50
          · rw [h3]
          · rw [List.take_of_length_le (by omega), List.take_of_length_le (by omega)]
        rw [this]
        exact hD
      clear hD hg hL
      by_cases hl1 : k < L.length
      · have q1 : (k : Int) < (L.length : Int) := by omega
        have q2 : ¬ (k : Int) < 50 := by omega
        go_wp2
        go_end0
        exact ⟨rfl, FIN.out⟩
      · have q1 : ¬ (k : Int) < (L.length : Int) := by omega
        go_wp2
        go_end0
        exact ⟨rfl, FIN.out⟩
end Go.Proofs.Ytgahaebfgmbckaa.Gf
