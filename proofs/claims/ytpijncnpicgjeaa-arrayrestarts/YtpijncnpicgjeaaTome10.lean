/- TEXTS JOINED: ArDone, ArLL, ArLawM. -/
import Derived.Test.YtpijncnpicgjeaaTome8
import Derived.Test.YtpijncnpicgjeaaTome9
import Derived.Test.YtpijncnpicgjeaaTome5
import Derived.Test.YtpijncnpicgjeaaTome2
/-
  THE STATEMENTS' HELPERS OF LAYER 13: 'small' (is a call's load little?) and 'Done' (an array behind a script).
-/

namespace Go.Proofs.Ytpijncnpicgjeaa.Gf
set_option linter.unusedVariables false
set_option linter.unusedSimpArgs false
open Go.RowKit

/-- the cells of a call -/
def cellsA (c : CallA) : Array Value := #[.int .i64 c.kind, .int .i64 c.d, .int .i64 c.n, .int .i64 c.m, .int .u8 ((c.by8.toNat : Nat) : Int), c.vb, c.vk]
set_option maxRecDepth 100000 in
theorem asmall_any {w : World} {c : CallA} (hc : CallV w c) : Calls Try.prog 12 #[aggA c] w fun e w' => e = .returned (.bool (decide (smallA c))) ∧ Below w.heap.size w w' := by
  obtain ⟨wk, wd, wn, wm, rb, rk⟩ := hc
  obtain ⟨kd, cd, cn, cm, cy, cvb, cvk, cb, ck⟩ := c
  simp only at rb rk
  obtain ⟨ba, bc, rfl⟩ := rb.form
  obtain ⟨ka, kc, rfl⟩ := rk.form
  have eA : aggA ⟨kd, cd, cn, cm, cy, .slice ba cb.length bc, .slice ka ck.length kc, cb, ck⟩ = .agg #[.int .i64 kd, .int .i64 cd, .int .i64 cn, .int .i64 cm, .int .u8 ((cy.toNat : Nat) : Int), .slice ba cb.length bc, .slice ka ck.length kc] := rfl
  rw [eA]
  clear eA
  have TRU : ∀ x, decide (smallA ⟨kd, cd, cn, cm, cy, .slice ba cb.length bc, .slice ka ck.length kc, cb, ck⟩) = x ↔ decide (cb.length ≤ 4200 ∧ ck.length ≤ 40 ∧ ∀ r ∈ ck, r.2.length ≤ 100) = x := fun x => Iff.rfl
  obtain ⟨x, hx⟩ : ∃ x, Hid (decide (smallA ⟨kd, cd, cn, cm, cy, .slice ba cb.length bc, .slice ka ck.length kc, cb, ck⟩) = x) := ⟨_, rfl⟩
  rw [hx.out]
  replace hx : Hid (decide (cb.length ≤ 4200 ∧ ck.length ≤ 40 ∧ ∀ r ∈ ck, r.2.length ≤ 100) = x) := (TRU x).1 hx.out
  clear TRU
  by_cases h1 : cb.length ≤ 4200
  · have q1 : ¬ (cb.length : Int) > 4200 := by omega
    by_cases h2 : ck.length ≤ 40
    · have q2 : ¬ (ck.length : Int) > 40 := by omega
      obtain ⟨g, hg⟩ : ∃ g, Hid (g = w.heap.size) := ⟨_, rfl⟩
      have X : Hid (∀ o, Below w.heap.size w (w.alloc o)) := fun o => belA w o
      have RK : Hid (∀ o, RdII (w.alloc o) (.slice ka ck.length kc) ck) := fun o => rk.below (belA w o)
      have x6 : (w.alloc (.cells #[.int .i64 kd, .int .i64 cd, .int .i64 cn, .int .i64 cm, .int .u8 ((cy.toNat : Nat) : Int), .slice ba cb.length bc, .slice ka ck.length kc] 35)).cell? ⟨w.heap.size, 6, none⟩ = some (.slice ka ck.length kc) := World.cell?_alloc_new _ _ _ _
      have BU := X.out (.cells #[.int .i64 kd, .int .i64 cd, .int .i64 cn, .int .i64 cm, .int .u8 ((cy.toNat : Nat) : Int), .slice ba cb.length bc, .slice ka ck.length kc] 35)
      have RU := RK.out (.cells #[.int .i64 kd, .int .i64 cd, .int .i64 cn, .int .i64 cm, .int .u8 ((cy.toNat : Nat) : Int), .slice ba cb.length bc, .slice ka ck.length kc] 35)
      clear rb rk X RK
      go_enter Try.func12, Try.ntmps12
      go_wp2
      obtain ⟨u, hu⟩ : ∃ u, u = w.alloc (.cells #[.int .i64 kd, .int .i64 cd, .int .i64 cn, .int .i64 cm, .int .u8 ((cy.toNat : Nat) : Int), .slice ba cb.length bc, .slice ka ck.length kc] 35) := ⟨_, rfl⟩
      rw [← hu] at x6 BU RU ⊢
      clear hu
      have FB : Hid (Below w.heap.size w u) := BU
      clear BU
      go_loopw [3] (fun i wr => ∃ k : Nat, k ≤ ck.length ∧ i = .int .i64 (k : Int) ∧ wr = u ∧ ∀ j, j < k → (ck.getD j default).2.length ≤ 100) (fun i _ => ck.length - (intOf i).toNat)
      case atStart => exact ⟨0, Nat.zero_le _, rfl, rfl, fun j hj => absurd hj (Nat.not_lt_zero _)⟩
      case round =>
        obtain ⟨k, hk, rfl, rfl, hj⟩ := hrel
        by_cases hlt : k < ck.length
        · have hlt' : (k : Int) < (ck.length : Int) := by omega
          have g1 : IntKind.i64.wrap ((k : Int) + 1) = ((k + 1 : Nat) : Int) := by rw [IntKind.wrap_i64]; omega
          obtain ⟨b, off, rfl, hb, hrow⟩ := RU.at hlt
          obtain ⟨ra, rcp, er⟩ := hrow.rd.form
          have rc := hrow.c
          rw [er] at rc
          by_cases h5 : (ck.getD k default).2.length ≤ 100
          · have q5 : ¬ ((ck.getD k default).2.length : Int) > 100 := by omega
            have HJ : Hid (∀ j, j < k + 1 → (ck.getD j default).2.length ≤ 100) := fun j hj2 => by
              by_cases e : j = k
              · rw [e]; exact h5
              · exact hj j (by omega)
            obtain ⟨m, hm⟩ : ∃ m, m = (ck.getD k default).2.length := ⟨_, rfl⟩
            rw [← hm] at rc q5
            clear hrow er hj hm h5
            go_wp2
            go_roundw
            case rel => exact ⟨k + 1, by omega, by go_num, by first | rfl | trivial, HJ.out⟩
            case measure => simp [intOf]; omega
          · have q5 : ((ck.getD k default).2.length : Int) > 100 := by omega
            have EX : Hid (x = false) := by
              show x = false
              rw [← hx.out]
              exact decide_eq_false (fun h => h5 (h.2.2 _ (VI_mem hlt)))
            obtain ⟨m, hm⟩ : ∃ m, m = (ck.getD k default).2.length := ⟨_, rfl⟩
            rw [← hm] at rc q5
            clear hrow er hj hm h5 hx
            go_wp2
            go_ret
            exact ⟨by rw [EX.out]; rfl, FB.out⟩
        · have hlt' : ¬ (k : Int) < (ck.length : Int) := by omega
          have EX : Hid (x = true) := by
            show x = true
            rw [← hx.out]
            refine decide_eq_true ⟨h1, h2, fun r hr => ?_⟩
            obtain ⟨i, hi, rfl⟩ := VI_ex hr
            exact hj i (by omega)
          clear hj hx RU
          go_wp2
          go_ret
          exact ⟨by rw [EX.out]; rfl, FB.out⟩
    · have q2 : (ck.length : Int) > 40 := by omega
      have EX : Hid (x = false) := by
        show x = false
        rw [← hx.out]
        exact decide_eq_false (fun h => h2 h.2.1)
      rw [EX.out]
      clear hx rb rk
      go_enter Try.func12, Try.ntmps12
      go_wp2
      go_ret
      exact ⟨rfl, belA _ _⟩
  · have q1 : (cb.length : Int) > 4200 := by omega
    have EX : Hid (x = false) := by
      show x = false
      rw [← hx.out]
      exact decide_eq_false (fun h => h1 h.1)
    rw [EX.out]
    clear hx rb rk
    go_enter Try.func12, Try.ntmps12
    go_wp2
    go_ret
    exact ⟨rfl, belA _ _⟩
-- DONE
/-- calls of a script that lie in none of the blocks -/
structure ApC (G : Nat → Prop) (c : CallA) : Prop where
  b : ApartG G c.vb
  k : ApartG G c.vk
  r : ∀ r ∈ c.keep, ApartG G r.1
structure ToldA (w : World) (G : Nat → Prop) (v : Value) (L : List CallA) : Prop where
  rd : RdA w v L
  ap : ApartG G v
  each : ∀ c ∈ L, ApC G c
theorem CA_mem {L : List CallA} {k : Nat} (hk : k < L.length) : L.getD k default ∈ L := by
  rw [show L.getD k default = L[k] by simp [List.getD, hk]]
  exact List.getElem_mem hk
theorem CA_ex {L : List CallA} {c : CallA} (h : c ∈ L) : ∃ k, k < L.length ∧ L.getD k default = c := by
  obtain ⟨i, hi, e⟩ := List.getElem_of_mem h
  exact ⟨i, hi, by rw [← e]; simp [List.getD, hi]⟩
section
variable {G G' : Nat → Prop} {w w' : World} {v : Value} {L : List CallA}
theorem ToldA.below (h : ToldA w G v L) (hb : Below w.heap.size w w') : ToldA w' G v L := ⟨h.rd.below hb, h.ap, h.each⟩
theorem ApC.grew {c : CallA} (h : ApC G c) (rb : Rd w c.vb c.b) (rk : RdII w c.vk c.keep) (g : Grew G w G' w') : Rd w' c.vb c.b ∧ RdII w' c.vk c.keep ∧ ApC G' c := by
  have T := ToldII.grew ⟨rk, h.k, h.r⟩ g
  exact ⟨rb.grew h.b g, T.rd, h.b.grew rb g, T.ap, T.each⟩
theorem ToldA.grew (h : ToldA w G v L) (g : Grew G w G' w') : ToldA w' G' v L := by
  have h0 := h.rd
  rcases h0 with ⟨ao, cp, e1, e2⟩ | ⟨b, off, cap, h1, h2, h3, h4, h5⟩
  · refine ⟨Or.inl ⟨ao, cp, e1, e2⟩, by rw [e2]; exact ApartG.nil _ _ _, ?_⟩
    rw [e1]
    intro c hc
    cases hc
  · have hb : ¬ G b := by
      rcases h.ap _ _ _ h2 with e | e
      · exact absurd (List.length_eq_zero_iff.1 e) h1
      · exact e
    have cc : ∀ o, w'.cell? ⟨b, o, none⟩ = w.cell? ⟨b, o, none⟩ := fun o => g.turn.cell (p := ⟨b, o, none⟩) h4 hb
    refine ⟨Or.inr ⟨b, off, cap, h1, h2, h3, Nat.lt_of_lt_of_le h4 g.turn.size, fun i hi => ?_⟩, ?_, ?_⟩
    · have h6 := h5 i hi
      obtain ⟨r1, r2, _⟩ := (h.each _ (CA_mem hi)).grew h6.rb h6.rk g
      exact ⟨(cc _).trans h6.c0, (cc _).trans h6.c1, (cc _).trans h6.c2, (cc _).trans h6.c3, (cc _).trans h6.c4, (cc _).trans h6.c5, (cc _).trans h6.c6, h6.wk, h6.wd, h6.wn, h6.wm, r1, r2⟩
    · rw [h2]
      intro x n c e
      simp at e
      obtain ⟨rfl, _⟩ := e
      exact Or.inr (g.off h4 hb)
    · intro c hc
      obtain ⟨i, hi, rfl⟩ := CA_ex hc
      exact ((h.each _ hc).grew (h5 i hi).rb (h5 i hi).rk g).2.2
theorem ApC.old {w0 : World} {c : CallA} (rb : Rd w0 c.vb c.b) (rk : RdII w0 c.vk c.keep) (hg : ∀ g, G g → w0.heap.size ≤ g) : ApC G c := by
  have T := ToldII.old (G := G) rk hg (Below.refl _ _)
  exact ⟨rb.apartG hg, T.ap, T.each⟩
theorem ToldA.old {w0 : World} (h : RdA w0 v L) (hg : ∀ g, G g → w0.heap.size ≤ g) (hw : Below w0.heap.size w0 w) : ToldA w G v L := by
  refine ⟨h.below hw, ?_, ?_⟩
  · rcases h with ⟨ao, cp, e1, e2⟩ | ⟨b, off, cap, h1, h2, h3, h4, h5⟩
    · rw [e2]
      exact ApartG.nil _ _ _
    · rw [h2]
      intro x n c e
      simp at e
      obtain ⟨rfl, _⟩ := e
      exact Or.inr (fun e2 => by have := hg _ e2; simp at this; omega)
  · intro c hc
    rcases h with ⟨ao, cp, e1, e2⟩ | ⟨b, off, cap, h1, h2, h3, h4, h5⟩
    · rw [e1] at hc; cases hc
    · obtain ⟨i, hi, rfl⟩ := CA_ex hc
      exact ApC.old (h5 i hi).rb (h5 i hi).rk hg
theorem CallAtA.toV {b off : Nat} {c : CallA} (h : CallAtA w b off c) : CallV w c := ⟨h.wk, h.wd, h.wn, h.wm, h.rb, h.rk⟩
end
/-- a list of one call -/
theorem litCA {w : World} {G : Nat → Prop} {c : CallA} (hv : CallV w c) (hp : ApC G c) (hG : ∀ k, G k → k < w.heap.size) (e : Nat) : ToldA (w.alloc (.cells (cellsA c) e)) G (.slice (some ⟨w.heap.size, 0, none⟩) 1 1) [c] := by
  have hv2 := hv.below (belA w (.cells (cellsA c) e))
  have cc : ∀ j, (w.alloc (.cells (cellsA c) e)).cell? ⟨w.heap.size, j, none⟩ = (cellsA c)[j]? := fun j => World.cell?_alloc_new _ _ _ _
  refine ⟨Or.inr ⟨w.heap.size, 0, 1, by simp, rfl, by simp [maxLen], by simp, fun i hi => ?_⟩, ?_, ?_⟩
  · have e0 : i = 0 := by simpa using hi
    subst e0
    exact ⟨(cc 0).trans rfl, (cc 1).trans rfl, (cc 2).trans rfl, (cc 3).trans rfl, (cc 4).trans rfl, (cc 5).trans rfl, (cc 6).trans rfl, hv2.wk, hv2.wd, hv2.wn, hv2.wm, hv2.rb, hv2.rk⟩
  · intro x n c' e1
    simp at e1
    obtain ⟨rfl, _⟩ := e1
    exact Or.inr (fun h => by have := hG _ h; simp at this)
  · intro d hd
    have : d = c := by simpa using hd
    rw [this]; exact hp
set_option maxRecDepth 100000 in
set_option maxHeartbeats 4000000 in
theorem adone_any {w : World} {ab : Nat} {GA : Nat → Prop} {a : ArS} (h : ArAt w ab GA a) {v : Value} {L : List CallA} (hL : ToldA w GA v L) :
    Calls Try.prog 23 #[.pointer (some ⟨ab, 0, none⟩), v] w (LeavesA w ab GA (runA a (L.take 50)) (.tuple #[])) := by
  obtain ⟨va, vc, rfl⟩ := hL.rd.form
  have START : Hid (∃ GA', ArAt w ab GA' (runA a (L.take 0)) ∧ Grew GA w GA' w) := ⟨GA, h, Grew.refl _ _⟩
  clear h
  go_enter Try.func23, Try.ntmps23
  go_wp2
  go_loopw [4] (fun i wr => ∃ k : Nat, k ≤ L.length ∧ k ≤ 50 ∧ i = .int .i64 (k : Int) ∧ ∃ GA', ArAt wr ab GA' (runA a (L.take k)) ∧ Grew GA w GA' wr) (fun i _ => 50 - (intOf i).toNat)
  case atStart => exact ⟨0, Nat.zero_le _, Nat.zero_le _, rfl, START.out⟩
  case round =>
    clear START
    obtain ⟨k, hk1, hk2, rfl, G, hD, hg⟩ := hrel
    by_cases hlt : k < L.length ∧ k < 50
    · obtain ⟨hl1, hl2⟩ := hlt
      have q1 : (k : Int) < (L.length : Int) := by omega
      have q2 : (k : Int) < 50 := by omega
      have g1 : IntKind.i64.wrap ((k : Int) + 1) = ((k + 1 : Nat) : Int) := by rw [IntKind.wrap_i64]; omega
      have hLr := hL.grew hg
      obtain ⟨b, off, rfl, hb, hc⟩ := hLr.rd.at hl1
      have hap := hLr.each _ (CA_mem hl1)
      have HS : Hid (runA a (L.take (k + 1)) = stepA (runA a (L.take k)) (L.getD k default)) := runA_take hl1
      obtain ⟨c, hcc⟩ : ∃ c, c = L.getD k default := ⟨_, rfl⟩
      rw [← hcc] at hc hap HS
      clear hcc hLr
      obtain ⟨d, hd⟩ : ∃ d, d = runA a (L.take k) := ⟨_, rfl⟩
      rw [← hd] at hD HS
      clear hd
      have hv := hc.toV
      obtain ⟨kd, cd, cn, cm, cy, cvb, cvk, cb, ck⟩ := c
      obtain ⟨c0, c1, c2, c3, c4, c5, c6, wk, wd, wn, wm, rb, rk⟩ := hc
      obtain ⟨ap1, ap2, ap3⟩ := hap
      simp only at c0 c1 c2 c3 c4 c5 c6 wk wd wn wm rb rk ap1 ap2 ap3
      obtain ⟨ba, bc, rfl⟩ := rb.form
      obtain ⟨ka, kc, rfl⟩ := rk.form
      have SM : Hid (∀ o, Calls Try.prog 12 #[.agg #[.int .i64 kd, .int .i64 cd, .int .i64 cn, .int .i64 cm, .int .u8 ((cy.toNat : Nat) : Int), .slice ba cb.length bc, .slice ka ck.length kc]] (wr.alloc o) fun e w' => e = .returned (.bool (decide (smallA ⟨kd, cd, cn, cm, cy, .slice ba cb.length bc, .slice ka ck.length kc, cb, ck⟩))) ∧ Below (wr.alloc o).heap.size (wr.alloc o) w') := fun o => asmall_any (hv.below (belA wr o))
      have NX : Hid (∀ W, Below (wr.alloc (.cells #[.int .i64 kd, .int .i64 cd, .int .i64 cn, .int .i64 cm, .int .u8 ((cy.toNat : Nat) : Int), .slice ba cb.length bc, .slice ka ck.length kc] 35)).heap.size (wr.alloc (.cells #[.int .i64 kd, .int .i64 cd, .int .i64 cn, .int .i64 cm, .int .u8 ((cy.toNat : Nat) : Int), .slice ba cb.length bc, .slice ka ck.length kc] 35)) W →
          Below wr.heap.size wr W ∧ ∀ j, W.cell? ⟨wr.heap.size, j, none⟩ = (#[.int .i64 kd, .int .i64 cd, .int .i64 cn, .int .i64 cm, .int .u8 ((cy.toNat : Nat) : Int), .slice ba cb.length bc, .slice ka ck.length kc] : Array Value)[j]?) := fun W h =>
        ⟨((Below.refl _ _).alloc (Nat.le_refl _) _).trans (h.mono (by simp)), fun j => (h.cell (p := ⟨wr.heap.size, j, none⟩) (by simp)).trans (World.cell?_alloc_new _ _ _ _)⟩
      clear hv
      by_cases hs : smallA ⟨kd, cd, cn, cm, cy, .slice ba cb.length bc, .slice ka ck.length kc, cb, ck⟩
      · have ES : decide (smallA ⟨kd, cd, cn, cm, cy, .slice ba cb.length bc, .slice ka ck.length kc, cb, ck⟩) = true := decide_eq_true hs
        rw [ES] at SM
        have hs3 : Hid (∀ r ∈ ck, r.2.length ≤ 1000000) := fun r hr => Nat.le_trans (hs.2.2 r hr) (by decide)
        obtain ⟨PL, hPL⟩ : ∃ PL, Hid (PL = playA d ⟨kd, cd, cn, cm, cy, .slice ba cb.length bc, .slice ka ck.length kc, cb, ck⟩) := ⟨_, rfl⟩
        have HP : Hid (runA a (L.take (k + 1)) = PL) := by
          show _ = _
          rw [HS.out, hPL.out]
          exact if_pos hs
        have END : Hid (∀ W w3 G3, Below wr.heap.size wr W → ArAt w3 ab G3 PL → Grew G W G3 w3 → ∃ G, ArAt w3 ab G (runA a (L.take (k + 1))) ∧ Grew GA w G w3) := by
          intro W w3 G3 hW hD3 hg3
          exact ⟨G3, by rw [HP.out]; exact hD3, (hg.trans (Grew.of_below hW)).trans hg3⟩
        clear HS HP ES hs
        by_cases k1 : kd = 1
        · subst k1
          have HQ : Hid (PL = wrAS d cd cn cb) := by rw [hPL.out]; rfl
          clear hPL
          go_wp2_with fail
          refine (SM.out _).mono ?_
          rintro _ w2 ⟨rfl, B2⟩
          obtain ⟨B3, X⟩ := NX.out _ B2
          have x0 := X 0
          have x1 := X 1
          have x2 := X 2
          have x3 := X 3
          have x4 := X 4
          have x5 := X 5
          have x6 := X 6
          simp at x0 x1 x2 x3 x4 x5 x6
          have D2 := hD.below B3
          clear X B2 NX SM hD c0 c1 c2 c3 c4 c5 c6
          go_wp2_with fail
          refine (awrite_any D2 wd wn (rb.below B3)).mono ?_
          rintro _ w3 ⟨rfl, G3, D3, g3⟩
          have E3 : Hid (∃ G, ArAt w3 ab G (runA a (L.take (k + 1))) ∧ Grew GA w G w3) := END.out _ w3 G3 B3 (by rw [HQ.out]; exact D3) g3
          clear END D3 g3 D2 B3 rb rk ap1 ap2 ap3 hg x0 x1 x2 x3 x4 x5 x6 HQ
          go_wp2
          go_roundw
          case rel => exact ⟨k + 1, by omega, by omega, by go_num, E3.out⟩
          case measure => simp [intOf]; omega
        have z1 : (kd == 1) = false := beq_eq_false_iff_ne.2 k1
        by_cases k3 : kd = 3
        · subst k3
          have HQ : Hid (PL = flAS d) := by rw [hPL.out]; rfl
          clear hPL
          go_wp2_with fail
          refine (SM.out _).mono ?_
          rintro _ w2 ⟨rfl, B2⟩
          obtain ⟨B3, X⟩ := NX.out _ B2
          have x0 := X 0
          have x1 := X 1
          have x2 := X 2
          have x3 := X 3
          have x4 := X 4
          have x5 := X 5
          have x6 := X 6
          simp at x0 x1 x2 x3 x4 x5 x6
          have D2 := hD.below B3
          clear X B2 NX SM hD c0 c1 c2 c3 c4 c5 c6
          go_wp2_with fail
          refine (aflush_any D2).mono ?_
          rintro _ w3 ⟨rfl, G3, D3, g3⟩
          have E3 : Hid (∃ G, ArAt w3 ab G (runA a (L.take (k + 1))) ∧ Grew GA w G w3) := END.out _ w3 G3 B3 (by rw [HQ.out]; exact D3) g3
          clear END D3 g3 D2 B3 rb rk ap1 ap2 ap3 hg x0 x1 x2 x3 x4 x5 x6 HQ
          go_wp2
          go_roundw
          case rel => exact ⟨k + 1, by omega, by omega, by go_num, E3.out⟩
          case measure => simp [intOf]; omega
        have z3 : (kd == 3) = false := beq_eq_false_iff_ne.2 k3
        by_cases k4 : kd = 4
        · subst k4
          have HQ : Hid (PL = caA d cn) := by rw [hPL.out]; rfl
          clear hPL
          go_wp2_with fail
          refine (SM.out _).mono ?_
          rintro _ w2 ⟨rfl, B2⟩
          obtain ⟨B3, X⟩ := NX.out _ B2
          have x0 := X 0
          have x1 := X 1
          have x2 := X 2
          have x3 := X 3
          have x4 := X 4
          have x5 := X 5
          have x6 := X 6
          simp at x0 x1 x2 x3 x4 x5 x6
          have D2 := hD.below B3
          clear X B2 NX SM hD c0 c1 c2 c3 c4 c5 c6
          go_wp2_with fail
          refine (aafter_any D2 wn).mono ?_
          rintro _ w3 ⟨rfl, G3, D3, g3⟩
          have E3 : Hid (∃ G, ArAt w3 ab G (runA a (L.take (k + 1))) ∧ Grew GA w G w3) := END.out _ w3 G3 B3 (by rw [HQ.out]; exact D3) g3
          clear END D3 g3 D2 B3 rb rk ap1 ap2 ap3 hg x0 x1 x2 x3 x4 x5 x6 HQ
          go_wp2
          go_roundw
          case rel => exact ⟨k + 1, by omega, by omega, by go_num, E3.out⟩
          case measure => simp [intOf]; omega
        have z4 : (kd == 4) = false := beq_eq_false_iff_ne.2 k4
        by_cases k5 : kd = 5
        · subst k5
          have HQ : Hid (PL = reAS d (ck.map (·.2))) := by rw [hPL.out]; rfl
          clear hPL
          go_wp2_with fail
          refine (SM.out _).mono ?_
          rintro _ w2 ⟨rfl, B2⟩
          obtain ⟨B3, X⟩ := NX.out _ B2
          have x0 := X 0
          have x1 := X 1
          have x2 := X 2
          have x3 := X 3
          have x4 := X 4
          have x5 := X 5
          have x6 := X 6
          simp at x0 x1 x2 x3 x4 x5 x6
          have D2 := hD.below B3
          clear X B2 NX SM hD c0 c1 c2 c3 c4 c5 c6
          go_wp2_with fail
          refine (arestart_any D2 ⟨rk.below B3, ap2, ap3⟩ hs3.out).mono ?_
          rintro _ w3 ⟨rfl, G3, D3, g3⟩
          have E3 : Hid (∃ G, ArAt w3 ab G (runA a (L.take (k + 1))) ∧ Grew GA w G w3) := END.out _ w3 G3 B3 (by rw [HQ.out]; exact D3) g3
          clear END D3 g3 D2 B3 rb rk ap1 ap2 ap3 hg x0 x1 x2 x3 x4 x5 x6 HQ
          go_wp2
          go_roundw
          case rel => exact ⟨k + 1, by omega, by omega, by go_num, E3.out⟩
          case measure => simp [intOf]; omega
        have z5 : (kd == 5) = false := beq_eq_false_iff_ne.2 k5
        by_cases k6 : kd = 6
        · subst k6
          have HQ : Hid (PL = faAS d cd) := by rw [hPL.out]; rfl
          clear hPL
          go_wp2_with fail
          refine (SM.out _).mono ?_
          rintro _ w2 ⟨rfl, B2⟩
          obtain ⟨B3, X⟩ := NX.out _ B2
          have x0 := X 0
          have x1 := X 1
          have x2 := X 2
          have x3 := X 3
          have x4 := X 4
          have x5 := X 5
          have x6 := X 6
          simp at x0 x1 x2 x3 x4 x5 x6
          have D2 := hD.below B3
          clear X B2 NX SM hD c0 c1 c2 c3 c4 c5 c6
          go_wp2_with fail
          refine (afail_any D2 wd).mono ?_
          rintro _ w3 ⟨rfl, G3, D3, g3⟩
          have E3 : Hid (∃ G, ArAt w3 ab G (runA a (L.take (k + 1))) ∧ Grew GA w G w3) := END.out _ w3 G3 B3 (by rw [HQ.out]; exact D3) g3
          clear END D3 g3 D2 B3 rb rk ap1 ap2 ap3 hg x0 x1 x2 x3 x4 x5 x6 HQ
          go_wp2
          go_roundw
          case rel => exact ⟨k + 1, by omega, by omega, by go_num, E3.out⟩
          case measure => simp [intOf]; omega
        have z6 : (kd == 6) = false := beq_eq_false_iff_ne.2 k6
        by_cases k7 : kd = 7
        · subst k7
          have HQ : Hid (PL = rpAS d cd) := by rw [hPL.out]; rfl
          clear hPL
          go_wp2_with fail
          refine (SM.out _).mono ?_
          rintro _ w2 ⟨rfl, B2⟩
          obtain ⟨B3, X⟩ := NX.out _ B2
          have x0 := X 0
          have x1 := X 1
          have x2 := X 2
          have x3 := X 3
          have x4 := X 4
          have x5 := X 5
          have x6 := X 6
          simp at x0 x1 x2 x3 x4 x5 x6
          have D2 := hD.below B3
          clear X B2 NX SM hD c0 c1 c2 c3 c4 c5 c6
          go_wp2_with fail
          refine (arepl_any D2 wd).mono ?_
          rintro _ w3 ⟨rfl, G3, D3, g3⟩
          have E3 : Hid (∃ G, ArAt w3 ab G (runA a (L.take (k + 1))) ∧ Grew GA w G w3) := END.out _ w3 G3 B3 (by rw [HQ.out]; exact D3) g3
          clear END D3 g3 D2 B3 rb rk ap1 ap2 ap3 hg x0 x1 x2 x3 x4 x5 x6 HQ
          go_wp2
          go_roundw
          case rel => exact ⟨k + 1, by omega, by omega, by go_num, E3.out⟩
          case measure => simp [intOf]; omega
        have z7 : (kd == 7) = false := beq_eq_false_iff_ne.2 k7
        by_cases k8 : kd = 8
        · subst k8
          have HQ : Hid (PL = coAS d cd cn cm cy) := by rw [hPL.out]; rfl
          clear hPL
          go_wp2_with fail
          refine (SM.out _).mono ?_
          rintro _ w2 ⟨rfl, B2⟩
          obtain ⟨B3, X⟩ := NX.out _ B2
          have x0 := X 0
          have x1 := X 1
          have x2 := X 2
          have x3 := X 3
          have x4 := X 4
          have x5 := X 5
          have x6 := X 6
          simp at x0 x1 x2 x3 x4 x5 x6
          have D2 := hD.below B3
          clear X B2 NX SM hD c0 c1 c2 c3 c4 c5 c6
          go_wp2_with fail
          refine (acorr_any D2 wd wn wm cy).mono ?_
          rintro _ w3 ⟨rfl, G3, D3, g3⟩
          have E3 : Hid (∃ G, ArAt w3 ab G (runA a (L.take (k + 1))) ∧ Grew GA w G w3) := END.out _ w3 G3 B3 (by rw [HQ.out]; exact D3) g3
          clear END D3 g3 D2 B3 rb rk ap1 ap2 ap3 hg x0 x1 x2 x3 x4 x5 x6 HQ
          go_wp2
          go_roundw
          case rel => exact ⟨k + 1, by omega, by omega, by go_num, E3.out⟩
          case measure => simp [intOf]; omega
        have z8 : (kd == 8) = false := beq_eq_false_iff_ne.2 k8
        have HQ : Hid (PL = d) := by show PL = d; rw [hPL.out]; unfold playA; simp [k1, k3, k4, k5, k6, k7, k8]
        clear k1 k3 k4 k5 k6 k7 k8
        clear hPL
        go_wp2_with fail
        refine (SM.out _).mono ?_
        rintro _ w2 ⟨rfl, B2⟩
        obtain ⟨B3, X⟩ := NX.out _ B2
        have x0 := X 0
        simp at x0
        have E3 : Hid (∃ G, ArAt w2 ab G (runA a (L.take (k + 1))) ∧ Grew GA w G w2) := END.out _ w2 G B3 (by rw [HQ.out]; exact hD.below B3) (Grew.refl G w2)
        clear X B2 NX SM hD c0 c1 c2 c3 c4 c5 c6 END B3 rb rk ap1 ap2 ap3 hg HQ
        go_wp2
        go_roundw
        case rel => exact ⟨k + 1, by omega, by omega, by go_num, E3.out⟩
        case measure => simp [intOf]; omega
      · have ES : decide (smallA ⟨kd, cd, cn, cm, cy, .slice ba cb.length bc, .slice ka ck.length kc, cb, ck⟩) = false := decide_eq_false hs
        rw [ES] at SM
        have HP : Hid (runA a (L.take (k + 1)) = d) := by
          show _ = _
          rw [HS.out]
          exact if_neg hs
        clear HS ES
        go_wp2_with fail
        refine (SM.out _).mono ?_
        rintro _ w2 ⟨rfl, B2⟩
        obtain ⟨B3, X⟩ := NX.out _ B2
        have E3 : Hid (∃ G, ArAt w2 ab G (runA a (L.take (k + 1))) ∧ Grew GA w G w2) := ⟨G, by rw [HP.out]; exact hD.below B3, hg.trans (Grew.of_below B3)⟩
        clear X B2 NX SM hD c0 c1 c2 c3 c4 c5 c6 HP B3 rb rk ap1 ap2 ap3 hg hs
        go_wp2
        go_roundw
        case rel => exact ⟨k + 1, by omega, by omega, by go_num, E3.out⟩
        case measure => simp [intOf]; omega
    · have FIN : Hid (∃ G, ArAt wr ab G (runA a (L.take 50)) ∧ Grew GA w G wr) := by
        refine ⟨G, ?_, hg⟩
        have : L.take 50 = L.take k := by
          by_cases h3 : k = 50
          · rw [h3]
          · rw [List.take_of_length_le (by omega), List.take_of_length_le (by omega)]
        rw [this]
        exact hD
      clear hD hg hL
      by_cases hl1 : k < L.length
      · have q1 : (k : Int) < (L.length : Int) := by omega
        have q2 : ¬ (k : Int) < 50 := by omega
        go_wp2
        go_end0
        exact ⟨rfl, FIN.out⟩
      · have q1 : ¬ (k : Int) < (L.length : Int) := by omega
        go_wp2
        go_end0
        exact ⟨rfl, FIN.out⟩
end Go.Proofs.Ytpijncnpicgjeaa.Gf

/-
  ROWS OF LISTS, BUILT BY 'append': two of them, apart from an array and from what they hold: 'Two'; a value appended to a row of the call's own.
-/


namespace Go.Proofs.Ytpijncnpicgjeaa.Gf
set_option linter.unusedVariables false
set_option linter.unusedSimpArgs false
open Go.RowKit

/-- 'append(s, x)': one value of one cell, laid as a list of one -/
theorem wpList_append_v {P : Program} (w : World) {ops : Array Oper} {rest : List Oper} {o : Oper} {a : Act} {Q : Exit → Act → World → Prop} (hgd : o.guard = none) (s x : Operand) (t : TypeId)
    (ho : o.op = .call { callee := .builtin .append, args := #[s, x], argTypes := #[t, t] })
    (base : Nat) (e : TypeId) (i : TypeInfo) (z : Value) (by_ : Nat) (ht : P.underlying t = some (.slice e)) (hi : P.info? e = some i) (hz : i.zero = some z) (hsize : i.size = 1) (hby : i.bytes = by_) (hzc : z.cells.size = 1) (hb24 : by_ ≤ 24)
    (v : Value) (n : Nat) (xs : List Value) (hs : a.eval s = v) (hown : w.ownsRow base e 1 v n xs) (b c : Nat) (u : Value) (hx : a.eval x = .slice (some ⟨b, 0, none⟩) 1 c) (hr : w.cell? ⟨b, 0, none⟩ = some u) (hu : u.oneCell' = true) (hl : n ≤ 100000) (hbase : base ≤ w.heap.size)
    (h : ∀ v' w', w'.ownsRow base e 1 v' (n + 1) (xs ++ [u]) → w.grownBy w' v.ownBlock → (v'.ownBlock = v.ownBlock ∨ v'.ownBlock = some w.heap.size) → wpList P ops Q rest (a.put o.dst v') w') : wpList P ops Q (o :: rest) a w := by
  refine wpList_plain hgd fun K hK => ?_
  have hb6 : (n + 1) * by_ ≤ 140737488355328 := Nat.le_trans (Nat.mul_le_mul (show n + 1 ≤ 100001 by omega) hb24) (by decide)
  obtain ⟨v', w', hrun, h2, h3, _, h5⟩ := run_append_own_at (P := P) w base t o.type e i z 1 by_ ht hi hz hsize hby hzc (by decide) v n xs hown ⟨b, 0, none⟩ 1 c [u] rfl (by intro j y hj; rw [add_at, Nat.zero_add]; rcases j with _ | j <;> simp at hj; subst hj; exact hr) (by intro y hy; simp at hy; rw [hy]; exact hu) (by unfold maxLen; omega) hb6 hbase
  unfold Oper.wp execOp
  simp only [ho, resolve, invoke, builtin, Sem.run_bind, Sem.run_pure, Result.andThen_ok, List.map_toArray, List.map_cons, List.map_nil, hs, hx, hrun]
  exact hK _ _ (h v' w' h2 h3 h5)

theorem ToldT.ownG {w w' : World} {G : Nat → Prop} {v : Value} {T : List TH} (hlt : ∀ k, G k → k < w.heap.size) (ho : OwnT w' w.heap.size v T) (hl : T.length ≤ 100000) : ToldT w' G v T := by
  refine ⟨ho.rd hl, ?_, fun t ht => ApartG.own (ho.each t ht) hlt⟩
  intro x n c e
  right
  intro hg
  have h1 := row_at ho.row (g := x.block) (by rw [e]; rfl)
  have h2 := hlt _ hg
  omega
theorem ToldH.ownG {w w' : World} {G : Nat → Prop} {v : Value} {L : List (Int × List UInt8)} (hlt : ∀ k, G k → k < w.heap.size) (ho : OwnH w' w.heap.size v L) (hl : L.length ≤ 100000) : ToldH w' G v L := by
  obtain ⟨T, h1, h2⟩ := ho
  exact ⟨T, h1, ToldT.ownG hlt h2 (by rw [← h1, bareT_length] at hl; exact hl)⟩
theorem OwnH.rdA {w : World} {base : Nat} {v : Value} {L : List (Int × List UInt8)} (h : OwnH w base v L) (hl : L.length ≤ 100000) : RdH w v L := by
  obtain ⟨T, h1, h2⟩ := h
  exact ⟨T, h1, h2.rd (by rw [← h1, bareT_length] at hl; exact hl)⟩
theorem ToldH.form {w : World} {G : Nat → Prop} {v : Value} {L : List (Int × List UInt8)} (h : ToldH w G v L) : ∃ a c, v = .slice a L.length c := by
  obtain ⟨T, h1, h2⟩ := h
  obtain ⟨a, c, e⟩ := h2.rd.form
  exact ⟨a, c, by rw [e, ← h1, bareT_length]⟩
theorem ToldH.wide {w : World} {G G' : Nat → Prop} {v : Value} {L : List (Int × List UInt8)} (h : ToldH w G v L) (hg : ∀ k, G' k → G k) : ToldH w G' v L := by
  obtain ⟨T, h1, h2⟩ := h
  exact ⟨T, h1, h2.rd, fun x n c e => (h2.ap x n c e).imp id (fun h3 h4 => h3 (hg _ h4)), fun t ht x n c e => (h2.each t ht x n c e).imp id (fun h3 h4 => h3 (hg _ h4))⟩

/-- what may turn: the array's blocks, and both rows -/
def Hot2 (G : Nat → Prop) (v u : Value) : Nat → Prop := fun k => G k ∨ v.ownBlock = some k ∨ u.ownBlock = some k
structure Two (w : World) (base : Nat) (G : Nat → Prop) (v u : Value) (vs us : List Value) (L M : List (List (Int × List UInt8))) : Prop where
  rv : w.ownsRow base 44 1 v vs.length vs
  ru : w.ownsRow base 44 1 u us.length us
  lv : vs.length = L.length
  lu : us.length = M.length
  nv : ∀ k, v.ownBlock = some k → ¬ G k
  nu : ∀ k, u.ownBlock = some k → ¬ G k
  nn : ∀ k, v.ownBlock = some k → u.ownBlock ≠ some k
  ev : ∀ i, i < L.length → ToldH w (Hot2 G v u) (vs.getD i undef) (L.getD i [])
  eu : ∀ i, i < M.length → ToldH w (Hot2 G v u) (us.getD i undef) (M.getD i [])
section
variable {w w' w1 w2 : World} {base : Nat} {G G' : Nat → Prop} {v u v' x : Value} {vs us : List Value} {L M : List (List (Int × List UInt8))} {l : List (Int × List UInt8)}
theorem Two.nil (w : World) (base : Nat) (G : Nat → Prop) : Two w base G (.slice none 0 0) (.slice none 0 0) [] [] [] [] :=
  ⟨⟨rfl, Or.inl ⟨rfl, rfl⟩⟩, ⟨rfl, Or.inl ⟨rfl, rfl⟩⟩, rfl, rfl, (fun k h => by cases h), (fun k h => by cases h), (fun k h => by cases h), (fun i hi => absurd hi (Nat.not_lt_zero _)), (fun i hi => absurd hi (Nat.not_lt_zero _))⟩
theorem hot_swap (G : Nat → Prop) (v u : Value) : Hot2 G u v = Hot2 G v u := by
  funext k
  unfold Hot2
  exact propext ⟨fun h => h.elim Or.inl (fun h => Or.inr h.symm), fun h => h.elim Or.inl (fun h => Or.inr h.symm)⟩
theorem Two.swap (h : Two w base G v u vs us L M) : Two w base G u v us vs M L :=
  ⟨h.ru, h.rv, h.lu, h.lv, h.nu, h.nv, fun k h1 h2 => h.nn k h2 h1, fun i hi => by rw [hot_swap]; exact h.eu i hi, fun i hi => by rw [hot_swap]; exact h.ev i hi⟩
theorem Two.below (h : Two w base G v u vs us L M) (hb : Below w.heap.size w w') : Two w' base G v u vs us L M :=
  ⟨owns_later h.rv hb, owns_later h.ru hb, h.lv, h.lu, h.nv, h.nu, h.nn, fun i hi => (h.ev i hi).below hb, fun i hi => (h.eu i hi).below hb⟩
theorem Two.lt (h : Two w base G v u vs us L M) (hG : ∀ k, G k → k < w.heap.size) : ∀ k, Hot2 G v u k → k < w.heap.size := by
  intro k hk
  rcases hk with h1 | h1 | h1
  · exact hG k h1
  · exact (row_at h.rv h1).2.1
  · exact (row_at h.ru h1).2.1
theorem Two.grew (h : Two w base G v u vs us L M) (g : Grew G w G' w') : Two w' base G' v u vs us L M := by
  have gg : Grew (Hot2 G v u) w (Hot2 G' v u) w' := by
    refine g.wide (fun k hk => Or.inl hk) (fun k hk => ?_)
    rcases hk with h1 | h1
    · rcases g.grow k h1 with h2 | h2
      · exact Or.inl (Or.inl h2)
      · exact Or.inr h2
    · exact Or.inl (Or.inr h1)
  refine ⟨owns_block h.rv (fun k hk => g.turn.block k (row_at h.rv hk).2.1 (h.nv k hk)), owns_block h.ru (fun k hk => g.turn.block k (row_at h.ru hk).2.1 (h.nu k hk)), h.lv, h.lu, fun k hk => g.off (row_at h.rv hk).2.1 (h.nv k hk), fun k hk => g.off (row_at h.ru hk).2.1 (h.nu k hk), h.nn, fun i hi => (h.ev i hi).grew gg, fun i hi => (h.eu i hi).grew gg⟩
theorem getD_snoc {α : Type} {l : List α} {x d : α} {i : Nat} : (l ++ [x]).getD i d = if i < l.length then l.getD i d else if i = l.length then x else d := by
  by_cases h : i < l.length
  · rw [if_pos h]; simp [List.getD, h, List.getElem?_append_left]
  · rw [if_neg h]
    by_cases h2 : i = l.length
    · subst h2; simp [List.getD]
    · rw [if_neg h2]
      have : (l ++ [x])[i]? = none := List.getElem?_eq_none (by simp; omega)
      simp [List.getD, this]
/-- a list is appended to the first row -/
theorem Two.push (h : Two w base G v u vs us L M) (hG : ∀ k, G k → k < w.heap.size) (hx : ToldH w (Hot2 G v u) x l) (hr : w2.ownsRow base 44 1 v' (vs.length + 1) (vs ++ [x])) (g : w.grownBy w2 v.ownBlock) (hv : v'.ownBlock = v.ownBlock ∨ v'.ownBlock = some w.heap.size) : Two w2 base G v' u (vs ++ [x]) us (L ++ [l]) M := by
  have t : TurnG (fun k => v.ownBlock = some k) w w2 := ⟨g.os, g.tape, g.output, g.size, fun k hk hn => g.block k hk (fun e => hn e.symm)⟩
  have gg : Grew (Hot2 G v u) w (Hot2 G v' u) w2 := by
    refine Grew.wide ⟨t, fun k hk => Or.inl hk⟩ (fun k hk => Or.inr (Or.inl hk)) (fun k hk => ?_)
    rcases hk with h1 | h1 | h1
    · exact Or.inl (Or.inl h1)
    · rcases hv with e | e
      · rw [e] at h1; exact Or.inl (Or.inr (Or.inl h1))
      · rw [e] at h1; cases h1; exact Or.inr (Nat.le_refl _)
    · exact Or.inl (Or.inr (Or.inr h1))
  have hl : (vs ++ [x]).length = vs.length + 1 := by simp
  refine ⟨by rw [hl]; exact hr, owns_block h.ru (fun k hk => t.block k (row_at h.ru hk).2.1 (fun e => h.nn k e hk)), by simp [h.lv], h.lu, fun k hk => ?_, h.nu, fun k hk => ?_, fun i hi => ?_, fun i hi => (h.eu i hi).grew gg⟩
  · rcases hv with e | e
    · rw [e] at hk; exact h.nv k hk
    · rw [e] at hk; cases hk; intro h1; have := hG _ h1; omega
  · rcases hv with e | e
    · rw [e] at hk; exact h.nn k hk
    · rw [e] at hk; cases hk; intro h1; have := (row_at h.ru h1).2.1; omega
  · rw [getD_snoc, getD_snoc, h.lv]
    have hi2 : i < L.length + 1 := by simpa using hi
    by_cases e : i < L.length
    · rw [if_pos e, if_pos e]
      exact (h.ev i e).grew gg
    · rw [if_neg e, if_neg e, if_pos (by omega), if_pos (by omega)]
      exact hx.grew gg
theorem Two.gg (h : Two w base G v u vs us L M) (g : w.grownBy w2 v.ownBlock) (hv : v'.ownBlock = v.ownBlock ∨ v'.ownBlock = some w.heap.size) : Grew (Hot2 G v u) w (Hot2 G v' u) w2 := by
  have t : TurnG (fun k => v.ownBlock = some k) w w2 := ⟨g.os, g.tape, g.output, g.size, fun k hk hn => g.block k hk (fun e => hn e.symm)⟩
  refine Grew.wide ⟨t, fun k hk => Or.inl hk⟩ (fun k hk => Or.inr (Or.inl hk)) (fun k hk => ?_)
  rcases hk with h1 | h1 | h1
  · exact Or.inl (Or.inl h1)
  · rcases hv with e | e
    · rw [e] at h1; exact Or.inl (Or.inr (Or.inl h1))
    · rw [e] at h1; cases h1; exact Or.inr (Nat.le_refl _)
  · exact Or.inl (Or.inr (Or.inr h1))
theorem ArB.grown {N ab : Nat} {a : ArS} (h : ArB w N ab G a) (hn : ∀ k, v.ownBlock = some k → ¬ G k) (g : w.grownBy w2 v.ownBlock) : ArB w2 N ab G a :=
  ⟨h.at_.keep (fun k hk => g.block k (h.at_.lt k hk) (fun e => hn k e.symm hk)) g.size, h.low, Nat.le_trans h.size g.size⟩
theorem Two.bel {B0 : World} (h : Two w base G v u vs us L M) (hb : Below base B0 w) (hs : base ≤ w.heap.size) (g : w.grownBy w2 v.ownBlock) : Below base B0 w2 := hb.grown g hs (fun q hq => (row_at h.rv hq).1)
/-- what may turn, behind what the array has done -/
theorem hot_grew (v u : Value) (g : Grew G w G' w') : Grew (Hot2 G v u) w (Hot2 G' v u) w' := by
  refine g.wide (fun k hk => Or.inl hk) (fun k hk => ?_)
  rcases hk with h1 | h1
  · rcases g.grow k h1 with h2 | h2
    · exact Or.inl (Or.inl h2)
    · exact Or.inr h2
  · exact Or.inl (Or.inr h1)
/-- an entry of the first row -/
theorem Two.at (h : Two w base G v u vs us L M) {i : Nat} (hi : i < L.length) : ∃ g c, v = .slice (some ⟨g, 0, none⟩) L.length c ∧ w.cell? ⟨g, i, none⟩ = some (vs.getD i undef) := by
  have hn : vs.length ≠ 0 := by rw [h.lv]; omega
  obtain ⟨g, c, e, _, h2⟩ := owns_form h.rv hn
  refine ⟨g, c, by rw [e, h.lv], ?_⟩
  have hi2 : i < vs.length := by rw [h.lv]; exact hi
  rw [World.ownsRow.cellAt h2 i (by omega)]
  simp [List.getD, hi2]
end
theorem ToldR.none {w : World} {G : Nat → Prop} {g t n : Nat} {f : Nat → Value} (h : ToldR w G g t n f) : ToldR w (Hot2 G (.slice none 0 0) (.slice none 0 0)) g t n f := ⟨h.row, fun e => e.elim h.ap (fun e => e.elim (fun e => by cases e) (fun e => by cases e))⟩
theorem ToldR.base {w : World} {G : Nat → Prop} {v u : Value} {g t n : Nat} {f : Nat → Value} (h : ToldR w (Hot2 G v u) g t n f) : ToldR w G g t n f := ⟨h.row, fun e => h.ap (Or.inl e)⟩
theorem Rd.nilA {w : World} : Rd w (.slice none 0 0) [] := by
  obtain ⟨p, e, hp⟩ := rd_row (w := w) (a := none) (len := 0) (cap := 0) (zs := []) (Or.inl ⟨rfl, rfl, rfl, rfl⟩)
  have : p = [] := List.length_eq_zero_iff.1 (by simpa using e.symm)
  rw [this] at hp
  exact hp
theorem info_helds13 : (Try.prog.info? 44).map (fun i => (i.zero, i.size, i.bytes)) = some (some (.slice none 0 0), 1, 24) := by kernel_rfl
/-- what lasts, and what waits, on the first k disks -/
def lsF (a : ArS) (k : Nat) : List (List (Int × List UInt8)) := (List.range k).map fun i => heldL (a.D.getD i default).last (a.D.getD i default).s
def wsF (a : ArS) (k : Nat) : List (List (Int × List UInt8)) := (List.range k).map fun i => heldL (a.D.getD i default).wait (a.D.getD i default).s
theorem lsF_succ (a : ArS) (k : Nat) : lsF a k ++ [heldL (a.D.getD k default).last (a.D.getD k default).s] = lsF a (k + 1) := by simp [lsF, List.range_succ]
theorem wsF_succ (a : ArS) (k : Nat) : wsF a k ++ [heldL (a.D.getD k default).wait (a.D.getD k default).s] = wsF a (k + 1) := by simp [wsF, List.range_succ]
theorem lsF_len (a : ArS) (k : Nat) : (lsF a k).length = k := by simp [lsF]
theorem wsF_len (a : ArS) (k : Nat) : (wsF a k).length = k := by simp [wsF]
theorem lsF_at (a : ArS) {k i : Nat} (h : i < k) : (lsF a k).getD i [] = heldL (a.D.getD i default).last (a.D.getD i default).s := by simp [lsF, List.getD, h]
theorem wsF_at (a : ArS) {k i : Nat} (h : i < k) : (wsF a k).getD i [] = heldL (a.D.getD i default).wait (a.D.getD i default).s := by simp [wsF, List.getD, h]
theorem held_few {a : ArS} (ok : a.Ok) {i : Nat} (hi : i < a.D.length) (f : Int → Option (List UInt8)) : (heldL f (a.D.getD i default).s).length ≤ 100000 := by
  have h1 : a.D.getD i default ∈ a.D := by
    rw [show a.D.getD i default = a.D[i] by simp [List.getD, hi]]
    exact List.getElem_mem hi
  have h2 := (ok.each _ h1).s2
  have h3 := heldL_length f (a.D.getD i default).s
  omega
end Go.Proofs.Ytpijncnpicgjeaa.Gf

/-
  WHAT THE STATEMENTS OF LAYER 13 ASK: what is done to one disk changes no other one; what a restart leaves. No program's function is named here.
-/

namespace Go.Proofs.Ytpijncnpicgjeaa.Gf
set_option linter.unusedVariables false
set_option linter.unusedSimpArgs false
open Go.RowKit

theorem setA_other {a : ArS} {j : Int} {d : DkS} {i : Nat} (hj : thA a j) (hi : (i : Int) ≠ j) : (setA a j d).D.getD i default = a.D.getD i default := by
  have h1 : j.toNat ≠ i := by have := hj.1; omega
  simp [setA, List.getD, List.getElem?_set_ne h1]
theorem tickA_D (a : ArS) : (tickA a).D = a.D := by unfold tickA; split <;> rfl
theorem caA_D (a : ArS) (n : Int) : (caA a n).D = a.D := by unfold caA; split <;> rfl
/-- what is done to one disk changes no other one -/
theorem play_other {a : ArS} {c : CallA} {i : Nat} (h3 : c.kind ≠ 3) (h5 : c.kind ≠ 5) (hi : (i : Int) ≠ c.d) : (playA a c).D.getD i default = a.D.getD i default := by
  unfold playA
  split
  · unfold wrAS
    split
    · rfl
    split
    · rename_i h2
      split
      · rw [tickA_D]; exact setA_other h2 hi
      · rfl
    · rfl
  split
  · rw [caA_D]
  split
  · unfold faAS
    split
    · rename_i h2; exact setA_other h2 hi
    · rfl
  split
  · unfold rpAS
    split
    · rename_i h2; exact setA_other h2 hi
    · rfl
  split
  · unfold coAS
    split
    · rename_i h2; exact setA_other h2 hi
    · rfl
  · rfl
theorem playA_len (a : ArS) (c : CallA) : (playA a c).D.length = a.D.length := by
  unfold playA
  split
  · unfold wrAS
    split
    · rfl
    split
    · split
      · rw [tickA_D]; simp [setA]
      · rfl
    · rfl
  split
  · unfold flAS; split <;> simp
  split
  · rw [caA_D]
  split
  · simp [reAS]
  split
  · unfold faAS; split <;> simp [bornA, setA]
  split
  · unfold rpAS; split <;> simp [bornA, setA]
  split
  · unfold coAS; split <;> simp [setA]
  · rfl
theorem stepA_len (a : ArS) (c : CallA) : (stepA a c).D.length = a.D.length := by
  unfold stepA
  split
  · exact playA_len a c
  · rfl
theorem runA_len (L : List CallA) (a : ArS) : (runA a L).D.length = a.D.length := by
  unfold runA
  induction L generalizing a with
  | nil => rfl
  | cons c L ih => exact (ih _).trans (stepA_len a c)
/-- a restart, disk by disk -/
theorem re_at {a : ArS} {K : List (List Int)} {i : Nat} (hi : i < a.D.length) : (reAS a K).D.getD i default = crS (a.D.getD i default) (K.getD i []) := by simp [reAS, List.getD, hi]
theorem re_births (a : ArS) (K : List (List Int)) : (reAS a K).B = a.B := rfl
theorem re_live (a : ArS) (K : List (List Int)) : (reAS a K).D.map (fun d => !d.dead) = a.D.map (fun d => !d.dead) := by
  refine List.ext_getElem (by simp [reAS]) fun i h1 h2 => ?_
  simp [reAS, crS]
/-- no write tells that it is down when no crash is to come -/
theorem wr_up {a : ArS} (ho : a.off = false) (hl : a.left = -1) (i ad : Int) (b : List UInt8) : (wrAS a i ad b).off = false ∧ (wrAS a i ad b).left = -1 := by
  have ht : ∀ e : ArS, e.left = -1 → tickA e = e := fun e he => by unfold tickA; rw [if_neg (by omega)]
  unfold wrAS
  rw [if_neg (by rw [ho]; decide)]
  split
  · split
    · rw [ht _ (by exact hl)]; exact ⟨ho, hl⟩
    · exact ⟨ho, hl⟩
  · exact ⟨ho, hl⟩
theorem wrX_130 (d : DkS) (a : Int) (b : List UInt8) : wrX d a b ≠ 130 := by
  have h0 : faX d a = 120 ∨ faX d a = 0 ∨ faX d a = 121 := by
    unfold faX
    by_cases h1 : d.dead = true
    · exact Or.inl (if_pos h1)
    · rw [if_neg h1]
      by_cases h2 : 0 ≤ a ∧ a < (d.s : Int)
      · exact Or.inr (Or.inl (if_pos h2))
      · exact Or.inr (Or.inr (if_neg h2))
  unfold wrX
  rcases h0 with h | h | h
  · rw [h, if_neg (by decide)]; decide
  · rw [h, if_pos rfl]
    by_cases h3 : OkB b
    · rw [if_pos h3]; decide
    · rw [if_neg h3]; decide
  · rw [h, if_neg (by decide)]; decide
/-- a disk on which nothing waits lasts as it was -/
theorem crS_same {d : DkS} (h : d.Ok) (K : List Int) (hw : heldL d.wait d.s = []) : heldL (crS d K).last (crS d K).s = heldL d.last d.s := by
  have h1 : d.wait = noneI := by
    funext x
    cases hx : d.wait x with
    | none => rfl
    | some b =>
      have h2 := h.iw x b hx
      have h3 := (heldL_mem (f := d.wait) (s := d.s)).2 ⟨h2.1, h2.2.1, hx⟩
      rw [hw] at h3
      cases h3
  show heldL (overB (onlyB d.wait K) d.last) d.s = heldL d.last d.s
  rw [h1]
  congr 1
  funext x
  unfold overB onlyB noneI
  by_cases e : x ∈ K
  · simp [e]
  · simp [e]
theorem wrAX_up {a : ArS} (ho : a.off = false) (i ad : Int) (b : List UInt8) : wrAX a i ad b ≠ 130 := by
  unfold wrAX
  rw [if_neg (by rw [ho]; simp)]
  split
  · exact wrX_130 _ _ _
  · decide
end Go.Proofs.Ytpijncnpicgjeaa.Gf

