/- TEXTS JOINED: DkRb. -/
import Derived.Test.YtgahaebfgmbckaaGreatTome14
namespace Go.Proofs.YtgahaebfgmbckaaGreat.Gf
set_option linter.unusedVariables false
set_option linter.unusedSimpArgs false
open Go.RowKit
theorem made_T (W : World) {N : Nat} (h : N ≤ W.heap.size) : (W.alloc (.cells #[] 112)).ownsRow N 112 2 (.slice (some ⟨W.heap.size, 0, none⟩) 0 0) 0 [] :=
  owns_low (World.ownsRow_made W #[] 0 (Nat.le_refl _) (Nat.zero_le _) rfl) h
/-- a list that lies off a row which has grown -/
theorem RdT.grown {w w' : World} {v : Value} {T : List TH} {g : Nat} (h : RdT w v T) (hg : w.grownBy w' (some g)) (ha : ApartG (fun k => k = g) v) (he : ∀ t ∈ T, ApartG (fun k => k = g) t.2.2) : RdT w' v T :=
  (ToldT.grew (G := fun k => k = g) (G' := fun k => k = g) ⟨h, ha, he⟩ ⟨⟨hg.os, hg.tape, hg.output, hg.size, fun k hk hn => hg.block k hk (fun e => hn (by cases e; rfl))⟩, fun k hk => Or.inl hk⟩).rd
theorem apart_one {g b o n c : Nat} (h : b ≠ g) : ApartG (fun k => k = g) (.slice (some ⟨b, o, none⟩) n c) := fun x m c' e => by
  simp at e
  obtain ⟨rfl, _⟩ := e
  exact Or.inr (fun h2 => h h2)
theorem Rd.apartN {w : World} {v : Value} {p : List UInt8} (h : Rd w v p) {g : Nat} (hg : w.heap.size ≤ g) : ApartG (fun k => k = g) v := h.apartG (fun k hk => by rw [hk]; exact hg)
/-- what 'with' answers: a list in a row of its own -/
def WithT (w : World) (T' : List TH) (e : Ending) (w' : World) : Prop := ∃ v, e = .returned v ∧ w'.ownsRow w.heap.size 112 2 v T'.length (cellsT T') ∧ Below w.heap.size w w'
/-- what is at hand ahead of the three appends -/
structure P12 (W : World) (B : Nat) (x : Int) (p : List UInt8) (ba : Option Addr) (bc : Nat) (T : List TH) (VL : Value) : Prop where
  kp : ∀ W', Below W.heap.size W W' → (W'.cell? ⟨B, 0, none⟩ = some (.int .i64 x) ∧ W'.cell? ⟨B, 1, none⟩ = some (.slice ba p.length bc))
  b0 : Below W.heap.size W W.drew
  bH : Below W.heap.size W (W.alloc (.cells #[.int .i64 x, .slice ba p.length bc] 112)).drew
  bA1 : Below W.heap.size W (W.alloc (.cells #[] 112)).drew
  bA2 : Below W.heap.size W ((W.alloc (.cells #[] 112)).alloc (.cells #[.int .i64 x, .slice ba p.length bc] 112)).drew
  bA3 : Below W.heap.size W ((W.alloc (.cells #[.int .i64 x, .slice ba p.length bc] 112)).alloc (.cells #[] 112)).drew
  oA1 : (W.alloc (.cells #[] 112)).drew.ownsRow W.heap.size 112 2 (.slice (some ⟨W.heap.size, 0, none⟩) 0 0) 0 []
  oA2 : ((W.alloc (.cells #[] 112)).alloc (.cells #[.int .i64 x, .slice ba p.length bc] 112)).drew.ownsRow W.heap.size 112 2 (.slice (some ⟨W.heap.size, 0, none⟩) 0 0) 0 []
  oA3 : ((W.alloc (.cells #[.int .i64 x, .slice ba p.length bc] 112)).alloc (.cells #[] 112)).drew.ownsRow W.heap.size 112 2 (.slice (some ⟨W.heap.size + 1, 0, none⟩) 0 0) 0 []
  rA1 : RdT (W.alloc (.cells #[] 112)).drew VL T
  rA2 : RdT ((W.alloc (.cells #[] 112)).alloc (.cells #[.int .i64 x, .slice ba p.length bc] 112)).drew VL T
  rA3 : RdT ((W.alloc (.cells #[.int .i64 x, .slice ba p.length bc] 112)).alloc (.cells #[] 112)).drew VL T
  lA2 : RdT ((W.alloc (.cells #[] 112)).alloc (.cells #[.int .i64 x, .slice ba p.length bc] 112)).drew (.slice (some ⟨W.heap.size + 1, 0, none⟩) 1 1) [(x, p, .slice ba p.length bc)]
  lA3 : RdT ((W.alloc (.cells #[.int .i64 x, .slice ba p.length bc] 112)).alloc (.cells #[] 112)).drew (.slice (some ⟨W.heap.size, 0, none⟩) 1 1) [(x, p, .slice ba p.length bc)]
  capH : ∀ n : Nat, CapOk (.slice (some ⟨n, 0, none⟩) 1 1)
  aH2 : ∀ t ∈ [(x, p, Value.slice ba p.length bc)], ApartG (fun k => k = W.heap.size) t.2.2
  aH3 : ∀ t ∈ [(x, p, Value.slice ba p.length bc)], ApartG (fun k => k = W.heap.size + 1) t.2.2
theorem pre12 {W : World} {B : Nat} {x : Int} {p : List UInt8} {ba : Option Addr} {bc : Nat} {T : List TH} {VL : Value} (hLq : RdT W VL T) (hp2 : Rd W (.slice ba p.length bc) p) (y0' : W.cell? ⟨B, 0, none⟩ = some (.int .i64 x)) (y1' : W.cell? ⟨B, 1, none⟩ = some (.slice ba p.length bc)) : P12 W B x p ba bc T VL := by
  have hBW : B < W.heap.size := by
    have e := y0'
    unfold World.cell? at e
    by_cases hb : B < W.heap.size
    · exact hb
    · rw [Array.getElem?_eq_none (by show W.heap.size ≤ B; omega)] at e; cases e
  have bA1 : Below W.heap.size W (W.alloc (.cells #[] 112)).drew := ((Below.refl _ _).alloc (Nat.le_refl _) _).drew
  have bA2 : Below W.heap.size W ((W.alloc (.cells #[] 112)).alloc (.cells #[.int .i64 x, .slice ba p.length bc] 112)).drew := (((Below.refl _ _).alloc (Nat.le_refl _) _).alloc (by simp) _).drew
  have bA3 : Below W.heap.size W ((W.alloc (.cells #[.int .i64 x, .slice ba p.length bc] 112)).alloc (.cells #[] 112)).drew := (((Below.refl _ _).alloc (Nat.le_refl _) _).alloc (by simp) _).drew
  refine ⟨fun W' h => ⟨(h.cell (p := ⟨B, 0, none⟩) hBW).trans y0', (h.cell (p := ⟨B, 1, none⟩) hBW).trans y1'⟩, (Below.refl _ _).drew, ((Below.refl _ _).alloc (Nat.le_refl _) _).drew, bA1, bA2, bA3, World.ownsRow.drew (made_T W (Nat.le_refl _)), World.ownsRow.drew (World.ownsRow.alloc (made_T W (Nat.le_refl _)) _), ?_, hLq.below bA1, hLq.below bA2, hLq.below bA3, ?_, ((rdT_lit (x := x) hp2).below (belA _ _)).below ((Below.refl _ _).drew), fun n a m c e => by simp at e; obtain ⟨rfl, rfl, rfl⟩ := e; exact ⟨by omega, fun h => by cases h⟩, ?_, ?_⟩
  · have := World.ownsRow.drew (made_T (W.alloc (.cells #[.int .i64 x, .slice ba p.length bc] 112)) (N := W.heap.size) (by simp))
    simpa using this
  · have := (rdT_lit (x := x) (hp2.below (belA W (.cells #[] 112)))).below ((Below.refl _ _).drew)
    simpa using this
  · intro t ht; simp at ht; subst ht; exact hp2.apartN (Nat.le_refl _)
  · intro t ht; simp at ht; subst ht; exact hp2.apartN (by omega)
theorem fin12 {w W w9 : World} {v9 : Value} {L R : List TH} {t : TH} (hC : Below w.heap.size w W) (C9 : Below W.heap.size W w9) (h9 : w9.ownsRow W.heap.size 112 2 v9 (0 + L.length + [t].length + R.length) ([] ++ cellsT L ++ cellsT [t] ++ cellsT R)) : Hid (w9.ownsRow w.heap.size 112 2 v9 (L ++ t :: R).length (cellsT (L ++ t :: R)) ∧ Below w.heap.size w w9) := by
  refine ⟨?_, hC.step12 C9 hC.size⟩
  have h10 := owns_low h9 hC.size
  rw [show 0 + L.length + [t].length + R.length = (L ++ t :: R).length by simp <;> omega, show [] ++ cellsT L ++ cellsT [t] ++ cellsT R = cellsT (L ++ t :: R) by simp [cellsT]] at h10
  exact h10
set_option maxRecDepth 100000 in
set_option maxHeartbeats 4000000 in
theorem with_any {w : World} {v : Value} {T : List TH} (hT : RdT w v T) (hc : CapOk v) {x : Int} {p : List UInt8} {vb : Value} (hp : Rd w vb p) (hl : T.length ≤ 5000) (k0 k1 : Nat) (hk0 : k0 ≤ T.length) (hlo : ∀ j, j < k0 → (T.getD j default).1 < x)
    (hhi : (k0 = T.length ∧ k1 = k0) ∨ (k0 < T.length ∧ (T.getD k0 default).1 = x ∧ k1 = k0 + 1) ∨ (k0 < T.length ∧ x < (T.getD k0 default).1 ∧ k1 = k0)) :
    Calls Tryz.prog 104 #[v, .agg #[.int .i64 x, vb]] w (WithT w (T.take k0 ++ (x, p, vb) :: T.drop k1)) := by
  obtain ⟨aa, ca, rfl⟩ := hT.form
  obtain ⟨ba, bc, rfl⟩ := hp.form
  have CA : T.length ≤ ca := (hc _ _ _ rfl).1
  obtain ⟨i0, hi, hz0, hz1, hz2⟩ := info_parts2 info_held
  obtain ⟨w1, hw1⟩ : ∃ w1, w1 = w.alloc (.cells #[.int .i64 x, .slice ba p.length bc] 112) := ⟨_, rfl⟩
  have C1 : Below w.heap.size w w1 := by rw [hw1]; exact belA _ _
  have x0 : w1.cell? ⟨w.heap.size, 0, none⟩ = some (.int .i64 x) := by rw [hw1, World.cell?_alloc_new]; rfl
  have x1 : w1.cell? ⟨w.heap.size, 1, none⟩ = some (.slice ba p.length bc) := by rw [hw1, World.cell?_alloc_new]; rfl
  have hT1 := hT.below C1
  have hp1 := hp.below C1
  have hlo' : Hid (∀ j, j < k0 → (T.getD j default).1 < x) := hlo
  have hhi' : Hid ((k0 = T.length ∧ k1 = k0) ∨ (k0 < T.length ∧ (T.getD k0 default).1 = x ∧ k1 = k0 + 1) ∨ (k0 < T.length ∧ x < (T.getD k0 default).1 ∧ k1 = k0)) := hhi
  obtain ⟨B, hB⟩ : ∃ B, Hid (B = w.heap.size) := ⟨_, rfl⟩
  go_enter Tryz.func104, Tryz.ntmps104
  go_wp2
  rw [← hw1]
  rw [← hB.out] at x0 x1 ⊢
  clear hw1 hT hp hlo hhi
  go_loopw [5] (fun i wr => ∃ k : Nat, k ≤ k0 ∧ i = .int .i64 (k : Int) ∧ ∃ m, Hid (wr = w1.drewN m)) (fun i _ => T.length - (intOf i).toNat)
  case atStart => exact ⟨0, Nat.zero_le _, rfl, 0, rfl⟩
  case round =>
    obtain ⟨k, hk, rfl, m, hd⟩ := hrel
    have hTr : RdT wr (.slice aa T.length ca) T := by rw [hd.out]; exact hT1.drewN _
    have hpr : Rd wr (.slice ba p.length bc) p := by rw [hd.out]; exact hp1.drewN _
    have y0 : wr.cell? ⟨B, 0, none⟩ = some (.int .i64 x) := by rw [hd.out]; exact x0
    have y1 : wr.cell? ⟨B, 1, none⟩ = some (.slice ba p.length bc) := by rw [hd.out]; exact x1
    clear x0 x1
    by_cases hlt : k < k0
    · have hlT : k < T.length := by omega
      have hlt' : (k : Int) < (T.length : Int) := by omega
      have g1 : IntKind.i64.wrap ((k : Int) + 1) = ((k + 1 : Nat) : Int) := by rw [IntKind.wrap_i64]; omega
      obtain ⟨b, off, rfl, c0, c1, r1⟩ := hTr.at hlT
      have hx := hlo'.out k hlt
      obtain ⟨t, ht⟩ : ∃ t, t = T.getD k default := ⟨_, rfl⟩
      rw [← ht] at c0 c1 r1 hx
      obtain ⟨t1, t2, t3⟩ := t
      simp only at c0 c1 r1 hx
      clear ht hTr r1 hT1 hpr hp1
      go_wp2
      go_quiet (fail)
      go_wp2
      go_roundw
      case rel => exact ⟨k + 1, by omega, by go_num, _, by show _ = _; rw [hd.out, World.drewN_drewN]⟩
      case measure => simp [intOf]; omega
    · have ek : k = k0 := by omega
      subst ek
      clear hlo' hlt
      rcases hhi'.out with ⟨e1, e2⟩ | ⟨e1, e3, e2⟩ | ⟨e1, e3, e2⟩
      · subst k1
        clear hhi'
        subst e1
        have hge : ¬ (T.length : Int) < (T.length : Int) := by omega
        rcases aa with _ | ad
        · have hca := (hc _ _ _ rfl).2 rfl
          subst hca
          obtain rfl : T = [] := List.length_eq_zero_iff.1 (by omega)
          go_wp2
          go_quiet (fail)
          obtain ⟨n1, hn1⟩ : ∃ n1, n1 = nq := ⟨nq, rfl⟩
          subst hn1
          go_wp2
          go_quiet (fail)
          go_wp2
          have hTq := (hTr.drewN n1).drewN nq
          have hp2 := (hpr.drewN n1).drewN nq
          have hC : Below w.heap.size w ((wr.drewN n1).drewN nq) := by rw [hd.out]; exact ((C1.drewN _).drewN _).drewN _
          obtain ⟨W, hW⟩ : ∃ W, W = (wr.drewN n1).drewN nq := ⟨_, rfl⟩
          have y0' : W.cell? ⟨B, 0, none⟩ = some (.int .i64 x) := by rw [hW]; exact y0
          have y1' : W.cell? ⟨B, 1, none⟩ = some (.slice ba p.length bc) := by rw [hW]; exact y1
          rw [← hW] at hTq hp2 hC ⊢
          have hLq : RdT W (.slice none 0 0) (([] : List TH).take ([] : List TH).length) := Or.inl ⟨none, 0, rfl, rfl⟩
          have hRq : RdT W (.slice none 0 0) (([] : List TH).drop ([] : List TH).length) := Or.inl ⟨none, 0, rfl, rfl⟩
          have capL : CapOk (.slice none 0 0) := fun a n c e => by simp at e; obtain ⟨rfl, rfl, rfl⟩ := e; exact ⟨by omega, fun h => rfl⟩
          have capR := capL
          clear hW hTr hTq y0 y1 hd hT1 hpr hp1
          have P := pre12 hLq hp2 y0' y1'
          clear y0' y1'
          go_region_held3 (fun wx => wx.cell? ⟨B, 0, none⟩ = some (.int .i64 x) ∧ wx.cell? ⟨B, 1, none⟩ = some (.slice ba p.length bc)) (first | exact P.kp _ (Below.refl _ _) | exact P.kp _ P.b0 | exact P.kp _ P.bA1 | exact P.kp _ P.bH | exact P.kp _ P.bA2 | exact P.kp _ P.bA3 | exact P.kp _ C9 | exact P.kp _ C7 | exact P.kp _ C4 | exact P.kp _ C5) (first
            | (refine step_append_T rfl (.tmp 40) (.tmp 43) rfl W.heap.size hi hz0 hz1 hz2 (.slice (some ⟨W.heap.size, 0, none⟩) 0 0) 0 [] rfl P.oA1 _ _ rfl P.rA1 capL (by simp <;> omega) P.bA1.size ?_; intro v4 w4 h4 g4; have C4 := P.bA1.grown g4 P.bA1.size (fun q hq => by cases hq; first | exact Nat.le_refl _ | exact Nat.le_succ _); have P4 := hp2.below C4; have C5 := C4.alloc C4.size (.cells #[.int .i64 x, .slice ba p.length bc] 112); have h5 := World.ownsRow.alloc h4 (.cells #[.int .i64 x, .slice ba p.length bc] 112); have l5 := rdT_lit (x := x) P4)
            | (refine step_append_T rfl (.tmp 40) (.tmp 43) rfl W.heap.size hi hz0 hz1 hz2 (.slice (some ⟨W.heap.size, 0, none⟩) 0 0) 0 [] rfl P.oA2 _ _ rfl P.rA2 capL (by simp <;> omega) P.bA2.size ?_; intro v4 w4 h4 g4; have C4 := P.bA2.grown g4 P.bA2.size (fun q hq => by cases hq; first | exact Nat.le_refl _ | exact Nat.le_succ _); have h5 := h4; have C5 := C4; have l5 := RdT.grown (g := W.heap.size) P.lA2 g4 (apart_one (by omega)) P.aH2)
            | (refine step_append_T rfl (.tmp 40) (.tmp 43) rfl W.heap.size hi hz0 hz1 hz2 (.slice (some ⟨W.heap.size + 1, 0, none⟩) 0 0) 0 [] rfl P.oA3 _ _ rfl P.rA3 capL (by simp <;> omega) P.bA3.size ?_; intro v4 w4 h4 g4; have C4 := P.bA3.grown g4 P.bA3.size (fun q hq => by cases hq; first | exact Nat.le_refl _ | exact Nat.le_succ _); have h5 := h4; have C5 := C4; have l5 := RdT.grown (g := W.heap.size + 1) P.lA3 g4 (apart_one (by omega)) P.aH3)
            | (refine step_append_T rfl (.tmp 44) (.tmp 46) rfl W.heap.size hi hz0 hz1 hz2 v4 _ _ rfl h5 _ [(x, p, .slice ba p.length bc)] rfl l5 (P.capH _) (by simp <;> omega) C5.size ?_; intro v7 w7 h7 g7; have C7 := C5.grown g7 C5.size (fun q hq => (row_at h4 hq).1); have r7 := hRq.below C7)
            | (refine step_append_T rfl (.tmp 47) (.tmp 48) rfl W.heap.size hi hz0 hz1 hz2 v7 _ _ rfl h7 _ _ rfl r7 capR (by simp <;> omega) C7.size ?_; intro v9 w9 h9 g9; have C9 := C7.grown g9 C7.size (fun q hq => (row_at h7 hq).1)))
          · have FIN := fin12 hC C9 h9
            clear h9 g9 C9
            go_wp2
            go_ret
            exact ⟨_, rfl, FIN.out⟩
          · have FIN := fin12 hC C9 h9
            clear h9 g9 C9
            go_wp2
            go_ret
            exact ⟨_, rfl, FIN.out⟩
          · have FIN := fin12 hC C9 h9
            clear h9 g9 C9
            go_wp2
            go_ret
            exact ⟨_, rfl, FIN.out⟩
        · by_cases hc0 : ca = T.length
          · have hc1 : ca = T.length := hc0
            subst hc1
            go_wp2
            go_quiet (fail)
            obtain ⟨n1, hn1⟩ : ∃ n1, n1 = nq := ⟨nq, rfl⟩
            subst hn1
            go_wp2
            go_quiet (fail)
            go_wp2
            have hTq := (hTr.drewN n1).drewN nq
            have hp2 := (hpr.drewN n1).drewN nq
            have hC : Below w.heap.size w ((wr.drewN n1).drewN nq) := by rw [hd.out]; exact ((C1.drewN _).drewN _).drewN _
            obtain ⟨W, hW⟩ : ∃ W, W = (wr.drewN n1).drewN nq := ⟨_, rfl⟩
            have y0' : W.cell? ⟨B, 0, none⟩ = some (.int .i64 x) := by rw [hW]; exact y0
            have y1' : W.cell? ⟨B, 1, none⟩ = some (.slice ba p.length bc) := by rw [hW]; exact y1
            rw [← hW] at hTq hp2 hC ⊢
            have hLq : RdT W (.slice (some ad) T.length T.length) (T.take T.length) := by rw [List.take_length]; exact hTq
            have hRq : RdT W (.slice (some ad) 0 0) (T.drop T.length) := Or.inl ⟨_, _, by simp, rfl⟩
            have capL : CapOk (.slice (some ad) T.length T.length) := fun a n c e => by simp at e; obtain ⟨rfl, rfl, rfl⟩ := e; exact ⟨by omega, fun h => by cases h⟩
            have capR : CapOk (.slice (some ad) 0 0) := fun a n c e => by simp at e; obtain ⟨rfl, rfl, rfl⟩ := e; exact ⟨by omega, fun h => by cases h⟩
            clear hW hTr hTq y0 y1 hd hT1 hpr hp1
            have P := pre12 hLq hp2 y0' y1'
            clear y0' y1'
            go_region_held3 (fun wx => wx.cell? ⟨B, 0, none⟩ = some (.int .i64 x) ∧ wx.cell? ⟨B, 1, none⟩ = some (.slice ba p.length bc)) (first | exact P.kp _ (Below.refl _ _) | exact P.kp _ P.b0 | exact P.kp _ P.bA1 | exact P.kp _ P.bH | exact P.kp _ P.bA2 | exact P.kp _ P.bA3 | exact P.kp _ C9 | exact P.kp _ C7 | exact P.kp _ C4 | exact P.kp _ C5) (first
              | (refine step_append_T rfl (.tmp 40) (.tmp 43) rfl W.heap.size hi hz0 hz1 hz2 (.slice (some ⟨W.heap.size, 0, none⟩) 0 0) 0 [] rfl P.oA1 _ _ rfl P.rA1 capL (by simp <;> omega) P.bA1.size ?_; intro v4 w4 h4 g4; have C4 := P.bA1.grown g4 P.bA1.size (fun q hq => by cases hq; first | exact Nat.le_refl _ | exact Nat.le_succ _); have P4 := hp2.below C4; have C5 := C4.alloc C4.size (.cells #[.int .i64 x, .slice ba p.length bc] 112); have h5 := World.ownsRow.alloc h4 (.cells #[.int .i64 x, .slice ba p.length bc] 112); have l5 := rdT_lit (x := x) P4)
              | (refine step_append_T rfl (.tmp 40) (.tmp 43) rfl W.heap.size hi hz0 hz1 hz2 (.slice (some ⟨W.heap.size, 0, none⟩) 0 0) 0 [] rfl P.oA2 _ _ rfl P.rA2 capL (by simp <;> omega) P.bA2.size ?_; intro v4 w4 h4 g4; have C4 := P.bA2.grown g4 P.bA2.size (fun q hq => by cases hq; first | exact Nat.le_refl _ | exact Nat.le_succ _); have h5 := h4; have C5 := C4; have l5 := RdT.grown (g := W.heap.size) P.lA2 g4 (apart_one (by omega)) P.aH2)
              | (refine step_append_T rfl (.tmp 40) (.tmp 43) rfl W.heap.size hi hz0 hz1 hz2 (.slice (some ⟨W.heap.size + 1, 0, none⟩) 0 0) 0 [] rfl P.oA3 _ _ rfl P.rA3 capL (by simp <;> omega) P.bA3.size ?_; intro v4 w4 h4 g4; have C4 := P.bA3.grown g4 P.bA3.size (fun q hq => by cases hq; first | exact Nat.le_refl _ | exact Nat.le_succ _); have h5 := h4; have C5 := C4; have l5 := RdT.grown (g := W.heap.size + 1) P.lA3 g4 (apart_one (by omega)) P.aH3)
              | (refine step_append_T rfl (.tmp 44) (.tmp 46) rfl W.heap.size hi hz0 hz1 hz2 v4 _ _ rfl h5 _ [(x, p, .slice ba p.length bc)] rfl l5 (P.capH _) (by simp <;> omega) C5.size ?_; intro v7 w7 h7 g7; have C7 := C5.grown g7 C5.size (fun q hq => (row_at h4 hq).1); have r7 := hRq.below C7)
              | (refine step_append_T rfl (.tmp 47) (.tmp 48) rfl W.heap.size hi hz0 hz1 hz2 v7 _ _ rfl h7 _ _ rfl r7 capR (by simp <;> omega) C7.size ?_; intro v9 w9 h9 g9; have C9 := C7.grown g9 C7.size (fun q hq => (row_at h7 hq).1)))
            · have FIN := fin12 hC C9 h9
              clear h9 g9 C9
              go_wp2
              go_ret
              exact ⟨_, rfl, FIN.out⟩
            · have FIN := fin12 hC C9 h9
              clear h9 g9 C9
              go_wp2
              go_ret
              exact ⟨_, rfl, FIN.out⟩
            · have FIN := fin12 hC C9 h9
              clear h9 g9 C9
              go_wp2
              go_ret
              exact ⟨_, rfl, FIN.out⟩
          · have hc1 : ¬ ca = T.length := hc0
            go_wp2
            go_quiet (fail)
            obtain ⟨n1, hn1⟩ : ∃ n1, n1 = nq := ⟨nq, rfl⟩
            subst hn1
            go_wp2
            go_quiet (fail)
            go_wp2
            have hTq := (hTr.drewN n1).drewN nq
            have hp2 := (hpr.drewN n1).drewN nq
            have hC : Below w.heap.size w ((wr.drewN n1).drewN nq) := by rw [hd.out]; exact ((C1.drewN _).drewN _).drewN _
            obtain ⟨W, hW⟩ : ∃ W, W = (wr.drewN n1).drewN nq := ⟨_, rfl⟩
            have y0' : W.cell? ⟨B, 0, none⟩ = some (.int .i64 x) := by rw [hW]; exact y0
            have y1' : W.cell? ⟨B, 1, none⟩ = some (.slice ba p.length bc) := by rw [hW]; exact y1
            rw [← hW] at hTq hp2 hC ⊢
            have hLq : RdT W (.slice (some ad) T.length ca) (T.take T.length) := by rw [List.take_length]; exact hTq
            have hRq : RdT W (.slice (some (ad.add (T.length * 2))) 0 (ca - T.length)) (T.drop T.length) := Or.inl ⟨_, _, by simp, rfl⟩
            have capL : CapOk (.slice (some ad) T.length ca) := fun a n c e => by simp at e; obtain ⟨rfl, rfl, rfl⟩ := e; exact ⟨by omega, fun h => by cases h⟩
            have capR : CapOk (.slice (some (ad.add (T.length * 2))) 0 (ca - T.length)) := fun a n c e => by simp at e; obtain ⟨rfl, rfl, rfl⟩ := e; exact ⟨by omega, fun h => by cases h⟩
            clear hW hTr hTq y0 y1 hd hT1 hpr hp1
            have P := pre12 hLq hp2 y0' y1'
            clear y0' y1'
            go_region_held3 (fun wx => wx.cell? ⟨B, 0, none⟩ = some (.int .i64 x) ∧ wx.cell? ⟨B, 1, none⟩ = some (.slice ba p.length bc)) (first | exact P.kp _ (Below.refl _ _) | exact P.kp _ P.b0 | exact P.kp _ P.bA1 | exact P.kp _ P.bH | exact P.kp _ P.bA2 | exact P.kp _ P.bA3 | exact P.kp _ C9 | exact P.kp _ C7 | exact P.kp _ C4 | exact P.kp _ C5) (first
              | (refine step_append_T rfl (.tmp 40) (.tmp 43) rfl W.heap.size hi hz0 hz1 hz2 (.slice (some ⟨W.heap.size, 0, none⟩) 0 0) 0 [] rfl P.oA1 _ _ rfl P.rA1 capL (by simp <;> omega) P.bA1.size ?_; intro v4 w4 h4 g4; have C4 := P.bA1.grown g4 P.bA1.size (fun q hq => by cases hq; first | exact Nat.le_refl _ | exact Nat.le_succ _); have P4 := hp2.below C4; have C5 := C4.alloc C4.size (.cells #[.int .i64 x, .slice ba p.length bc] 112); have h5 := World.ownsRow.alloc h4 (.cells #[.int .i64 x, .slice ba p.length bc] 112); have l5 := rdT_lit (x := x) P4)
              | (refine step_append_T rfl (.tmp 40) (.tmp 43) rfl W.heap.size hi hz0 hz1 hz2 (.slice (some ⟨W.heap.size, 0, none⟩) 0 0) 0 [] rfl P.oA2 _ _ rfl P.rA2 capL (by simp <;> omega) P.bA2.size ?_; intro v4 w4 h4 g4; have C4 := P.bA2.grown g4 P.bA2.size (fun q hq => by cases hq; first | exact Nat.le_refl _ | exact Nat.le_succ _); have h5 := h4; have C5 := C4; have l5 := RdT.grown (g := W.heap.size) P.lA2 g4 (apart_one (by omega)) P.aH2)
              | (refine step_append_T rfl (.tmp 40) (.tmp 43) rfl W.heap.size hi hz0 hz1 hz2 (.slice (some ⟨W.heap.size + 1, 0, none⟩) 0 0) 0 [] rfl P.oA3 _ _ rfl P.rA3 capL (by simp <;> omega) P.bA3.size ?_; intro v4 w4 h4 g4; have C4 := P.bA3.grown g4 P.bA3.size (fun q hq => by cases hq; first | exact Nat.le_refl _ | exact Nat.le_succ _); have h5 := h4; have C5 := C4; have l5 := RdT.grown (g := W.heap.size + 1) P.lA3 g4 (apart_one (by omega)) P.aH3)
              | (refine step_append_T rfl (.tmp 44) (.tmp 46) rfl W.heap.size hi hz0 hz1 hz2 v4 _ _ rfl h5 _ [(x, p, .slice ba p.length bc)] rfl l5 (P.capH _) (by simp <;> omega) C5.size ?_; intro v7 w7 h7 g7; have C7 := C5.grown g7 C5.size (fun q hq => (row_at h4 hq).1); have r7 := hRq.below C7)
              | (refine step_append_T rfl (.tmp 47) (.tmp 48) rfl W.heap.size hi hz0 hz1 hz2 v7 _ _ rfl h7 _ _ rfl r7 capR (by simp <;> omega) C7.size ?_; intro v9 w9 h9 g9; have C9 := C7.grown g9 C7.size (fun q hq => (row_at h7 hq).1)))
            · have FIN := fin12 hC C9 h9
              clear h9 g9 C9
              go_wp2
              go_ret
              exact ⟨_, rfl, FIN.out⟩
            · have FIN := fin12 hC C9 h9
              clear h9 g9 C9
              go_wp2
              go_ret
              exact ⟨_, rfl, FIN.out⟩
            · have FIN := fin12 hC C9 h9
              clear h9 g9 C9
              go_wp2
              go_ret
              exact ⟨_, rfl, FIN.out⟩
      · subst k1
        by_cases hc0 : ca - k = 1
        · clear hhi'
          have hlt' : (k : Int) < (T.length : Int) := by omega
          obtain ⟨b, off, rfl, c0, c1, r1⟩ := hTr.at e1
          obtain ⟨t, ht⟩ : ∃ t, t = T.getD k default := ⟨_, rfl⟩
          rw [← ht] at c0 c1 r1 e3
          obtain ⟨t1, t2, t3⟩ := t
          simp only at c0 c1 r1 e3
          have hc1 : ca - k = 1 := hc0
          have hx : ¬ t1 < x := by omega
          have z1 : (t1 == x) = true := beq_iff_eq.2 e3
          have zl : decide (0 < T.length - k) = true := decide_eq_true (by omega)
          have zl2 : (1 : Int) ≤ ((T.length - k : Nat) : Int) := by omega
          have zl3 : 1 ≤ T.length - k := by omega
          have zl4 : (1 : Int) ≤ ((ca - k : Nat) : Int) := by omega
          have zl5 : 1 ≤ ca - k := by omega
          go_wp2
          go_quiet (fail)
          obtain ⟨n1, hn1⟩ : ∃ n1, n1 = nq := ⟨nq, rfl⟩
          subst hn1
          go_wp2
          go_quiet (fail)
          go_wp2
          have hTq := hTr.drewN (n1 + nq)
          have hp2 := hpr.drewN (n1 + nq)
          have hC : Below w.heap.size w (wr.drewN (n1 + nq)) := by rw [hd.out]; exact (C1.drewN _).drewN _
          obtain ⟨W, hW⟩ : ∃ W, W = wr.drewN (n1 + nq) := ⟨_, rfl⟩
          have y0' : W.cell? ⟨B, 0, none⟩ = some (.int .i64 x) := by rw [hW]; exact y0
          have y1' : W.cell? ⟨B, 1, none⟩ = some (.slice ba p.length bc) := by rw [hW]; exact y1
          rw [← hW] at hTq hp2 hC ⊢
          have hLq := hTq.take (k := k) (n := k) (c' := ca) (by omega) rfl
          have i1 : (0 : Int) ≤ (k : Int) := by omega
          have i2 : (k : Int) ≤ (ca : Int) := by omega
          have i3 : (k : Int) ≤ (T.length : Int) := by omega
          have i4 : k ≤ ca := by omega
          have capL : CapOk (.slice (some ⟨b, off, none⟩) k ca) := fun a n c e => by simp at e; obtain ⟨rfl, rfl, rfl⟩ := e; exact ⟨by omega, fun h => by cases h⟩
          have hRq : RdT W (.slice (some ⟨b, off + k * 2, none⟩) (T.length - k - 1) 0) (T.drop (k + 1)) := Or.inl ⟨some ⟨b, off + k * 2, none⟩, 0, by rw [List.drop_eq_nil_iff]; omega, by rw [show T.length - k - 1 = 0 by omega]⟩
          have capR : CapOk (.slice (some ⟨b, off + k * 2, none⟩) (T.length - k - 1) 0) := fun a n c e => by simp at e; obtain ⟨rfl, rfl, rfl⟩ := e; exact ⟨by omega, fun h => by cases h⟩
          clear hW c0 c1 r1 hTr hTq y0 y1 hd hT1 z1 zl zl2 zl3 zl4 zl5 hpr hp1 ht
          have P := pre12 hLq hp2 y0' y1'
          clear y0' y1'
          go_region_held3 (fun wx => wx.cell? ⟨B, 0, none⟩ = some (.int .i64 x) ∧ wx.cell? ⟨B, 1, none⟩ = some (.slice ba p.length bc)) (first | exact P.kp _ (Below.refl _ _) | exact P.kp _ P.b0 | exact P.kp _ P.bA1 | exact P.kp _ P.bH | exact P.kp _ P.bA2 | exact P.kp _ P.bA3 | exact P.kp _ C9 | exact P.kp _ C7 | exact P.kp _ C4 | exact P.kp _ C5) (first
            | (refine step_append_T rfl (.tmp 40) (.tmp 43) rfl W.heap.size hi hz0 hz1 hz2 (.slice (some ⟨W.heap.size, 0, none⟩) 0 0) 0 [] rfl P.oA1 _ _ rfl P.rA1 capL (by simp <;> omega) P.bA1.size ?_; intro v4 w4 h4 g4; have C4 := P.bA1.grown g4 P.bA1.size (fun q hq => by cases hq; first | exact Nat.le_refl _ | exact Nat.le_succ _); have P4 := hp2.below C4; have C5 := C4.alloc C4.size (.cells #[.int .i64 x, .slice ba p.length bc] 112); have h5 := World.ownsRow.alloc h4 (.cells #[.int .i64 x, .slice ba p.length bc] 112); have l5 := rdT_lit (x := x) P4)
            | (refine step_append_T rfl (.tmp 40) (.tmp 43) rfl W.heap.size hi hz0 hz1 hz2 (.slice (some ⟨W.heap.size, 0, none⟩) 0 0) 0 [] rfl P.oA2 _ _ rfl P.rA2 capL (by simp <;> omega) P.bA2.size ?_; intro v4 w4 h4 g4; have C4 := P.bA2.grown g4 P.bA2.size (fun q hq => by cases hq; first | exact Nat.le_refl _ | exact Nat.le_succ _); have h5 := h4; have C5 := C4; have l5 := RdT.grown (g := W.heap.size) P.lA2 g4 (apart_one (by omega)) P.aH2)
            | (refine step_append_T rfl (.tmp 40) (.tmp 43) rfl W.heap.size hi hz0 hz1 hz2 (.slice (some ⟨W.heap.size + 1, 0, none⟩) 0 0) 0 [] rfl P.oA3 _ _ rfl P.rA3 capL (by simp <;> omega) P.bA3.size ?_; intro v4 w4 h4 g4; have C4 := P.bA3.grown g4 P.bA3.size (fun q hq => by cases hq; first | exact Nat.le_refl _ | exact Nat.le_succ _); have h5 := h4; have C5 := C4; have l5 := RdT.grown (g := W.heap.size + 1) P.lA3 g4 (apart_one (by omega)) P.aH3)
            | (refine step_append_T rfl (.tmp 44) (.tmp 46) rfl W.heap.size hi hz0 hz1 hz2 v4 _ _ rfl h5 _ [(x, p, .slice ba p.length bc)] rfl l5 (P.capH _) (by simp <;> omega) C5.size ?_; intro v7 w7 h7 g7; have C7 := C5.grown g7 C5.size (fun q hq => (row_at h4 hq).1); have r7 := hRq.below C7)
            | (refine step_append_T rfl (.tmp 47) (.tmp 48) rfl W.heap.size hi hz0 hz1 hz2 v7 _ _ rfl h7 _ _ rfl r7 capR (by simp <;> omega) C7.size ?_; intro v9 w9 h9 g9; have C9 := C7.grown g9 C7.size (fun q hq => (row_at h7 hq).1)))
          · have FIN := fin12 hC C9 h9
            clear h9 g9 C9
            go_wp2
            go_ret
            exact ⟨_, rfl, FIN.out⟩
          · have FIN := fin12 hC C9 h9
            clear h9 g9 C9
            go_wp2
            go_ret
            exact ⟨_, rfl, FIN.out⟩
          · have FIN := fin12 hC C9 h9
            clear h9 g9 C9
            go_wp2
            go_ret
            exact ⟨_, rfl, FIN.out⟩
        · clear hhi'
          have hlt' : (k : Int) < (T.length : Int) := by omega
          obtain ⟨b, off, rfl, c0, c1, r1⟩ := hTr.at e1
          obtain ⟨t, ht⟩ : ∃ t, t = T.getD k default := ⟨_, rfl⟩
          rw [← ht] at c0 c1 r1 e3
          obtain ⟨t1, t2, t3⟩ := t
          simp only at c0 c1 r1 e3
          have hc1 : ¬ ca - k = 1 := hc0
          have hx : ¬ t1 < x := by omega
          have z1 : (t1 == x) = true := beq_iff_eq.2 e3
          have zl : decide (0 < T.length - k) = true := decide_eq_true (by omega)
          have zl2 : (1 : Int) ≤ ((T.length - k : Nat) : Int) := by omega
          have zl3 : 1 ≤ T.length - k := by omega
          have zl4 : (1 : Int) ≤ ((ca - k : Nat) : Int) := by omega
          have zl5 : 1 ≤ ca - k := by omega
          go_wp2
          go_quiet (fail)
          obtain ⟨n1, hn1⟩ : ∃ n1, n1 = nq := ⟨nq, rfl⟩
          subst hn1
          go_wp2
          go_quiet (fail)
          go_wp2
          have hTq := hTr.drewN (n1 + nq)
          have hp2 := hpr.drewN (n1 + nq)
          have hC : Below w.heap.size w (wr.drewN (n1 + nq)) := by rw [hd.out]; exact (C1.drewN _).drewN _
          obtain ⟨W, hW⟩ : ∃ W, W = wr.drewN (n1 + nq) := ⟨_, rfl⟩
          have y0' : W.cell? ⟨B, 0, none⟩ = some (.int .i64 x) := by rw [hW]; exact y0
          have y1' : W.cell? ⟨B, 1, none⟩ = some (.slice ba p.length bc) := by rw [hW]; exact y1
          rw [← hW] at hTq hp2 hC ⊢
          have hLq := hTq.take (k := k) (n := k) (c' := ca) (by omega) rfl
          have i1 : (0 : Int) ≤ (k : Int) := by omega
          have i2 : (k : Int) ≤ (ca : Int) := by omega
          have i3 : (k : Int) ≤ (T.length : Int) := by omega
          have i4 : k ≤ ca := by omega
          have capL : CapOk (.slice (some ⟨b, off, none⟩) k ca) := fun a n c e => by simp at e; obtain ⟨rfl, rfl, rfl⟩ := e; exact ⟨by omega, fun h => by cases h⟩
          have hRq : RdT W (.slice (some ⟨b, off + k * 2 + 2, none⟩) (T.length - k - 1) (ca - k - 1)) (T.drop (k + 1)) := by
            have h1 := hTq.drop (k := k + 1) (n := T.length - k - 1) (c' := ca - k - 1) (by omega) (by omega)
            rw [show off + (k + 1) * 2 = off + k * 2 + 2 by omega] at h1
            exact h1
          have capR : CapOk (.slice (some ⟨b, off + k * 2 + 2, none⟩) (T.length - k - 1) (ca - k - 1)) := fun a n c e => by simp at e; obtain ⟨rfl, rfl, rfl⟩ := e; exact ⟨by omega, fun h => by cases h⟩
          clear hW c0 c1 r1 hTr hTq y0 y1 hd hT1 z1 zl zl2 zl3 zl4 zl5 hpr hp1 ht
          have P := pre12 hLq hp2 y0' y1'
          clear y0' y1'
          go_region_held3 (fun wx => wx.cell? ⟨B, 0, none⟩ = some (.int .i64 x) ∧ wx.cell? ⟨B, 1, none⟩ = some (.slice ba p.length bc)) (first | exact P.kp _ (Below.refl _ _) | exact P.kp _ P.b0 | exact P.kp _ P.bA1 | exact P.kp _ P.bH | exact P.kp _ P.bA2 | exact P.kp _ P.bA3 | exact P.kp _ C9 | exact P.kp _ C7 | exact P.kp _ C4 | exact P.kp _ C5) (first
            | (refine step_append_T rfl (.tmp 40) (.tmp 43) rfl W.heap.size hi hz0 hz1 hz2 (.slice (some ⟨W.heap.size, 0, none⟩) 0 0) 0 [] rfl P.oA1 _ _ rfl P.rA1 capL (by simp <;> omega) P.bA1.size ?_; intro v4 w4 h4 g4; have C4 := P.bA1.grown g4 P.bA1.size (fun q hq => by cases hq; first | exact Nat.le_refl _ | exact Nat.le_succ _); have P4 := hp2.below C4; have C5 := C4.alloc C4.size (.cells #[.int .i64 x, .slice ba p.length bc] 112); have h5 := World.ownsRow.alloc h4 (.cells #[.int .i64 x, .slice ba p.length bc] 112); have l5 := rdT_lit (x := x) P4)
            | (refine step_append_T rfl (.tmp 40) (.tmp 43) rfl W.heap.size hi hz0 hz1 hz2 (.slice (some ⟨W.heap.size, 0, none⟩) 0 0) 0 [] rfl P.oA2 _ _ rfl P.rA2 capL (by simp <;> omega) P.bA2.size ?_; intro v4 w4 h4 g4; have C4 := P.bA2.grown g4 P.bA2.size (fun q hq => by cases hq; first | exact Nat.le_refl _ | exact Nat.le_succ _); have h5 := h4; have C5 := C4; have l5 := RdT.grown (g := W.heap.size) P.lA2 g4 (apart_one (by omega)) P.aH2)
            | (refine step_append_T rfl (.tmp 40) (.tmp 43) rfl W.heap.size hi hz0 hz1 hz2 (.slice (some ⟨W.heap.size + 1, 0, none⟩) 0 0) 0 [] rfl P.oA3 _ _ rfl P.rA3 capL (by simp <;> omega) P.bA3.size ?_; intro v4 w4 h4 g4; have C4 := P.bA3.grown g4 P.bA3.size (fun q hq => by cases hq; first | exact Nat.le_refl _ | exact Nat.le_succ _); have h5 := h4; have C5 := C4; have l5 := RdT.grown (g := W.heap.size + 1) P.lA3 g4 (apart_one (by omega)) P.aH3)
            | (refine step_append_T rfl (.tmp 44) (.tmp 46) rfl W.heap.size hi hz0 hz1 hz2 v4 _ _ rfl h5 _ [(x, p, .slice ba p.length bc)] rfl l5 (P.capH _) (by simp <;> omega) C5.size ?_; intro v7 w7 h7 g7; have C7 := C5.grown g7 C5.size (fun q hq => (row_at h4 hq).1); have r7 := hRq.below C7)
            | (refine step_append_T rfl (.tmp 47) (.tmp 48) rfl W.heap.size hi hz0 hz1 hz2 v7 _ _ rfl h7 _ _ rfl r7 capR (by simp <;> omega) C7.size ?_; intro v9 w9 h9 g9; have C9 := C7.grown g9 C7.size (fun q hq => (row_at h7 hq).1)))
          · have FIN := fin12 hC C9 h9
            clear h9 g9 C9
            go_wp2
            go_ret
            exact ⟨_, rfl, FIN.out⟩
          · have FIN := fin12 hC C9 h9
            clear h9 g9 C9
            go_wp2
            go_ret
            exact ⟨_, rfl, FIN.out⟩
          · have FIN := fin12 hC C9 h9
            clear h9 g9 C9
            go_wp2
            go_ret
            exact ⟨_, rfl, FIN.out⟩
      · subst k1
        clear hhi'
        have hlt' : (k : Int) < (T.length : Int) := by omega
        obtain ⟨b, off, rfl, c0, c1, r1⟩ := hTr.at e1
        obtain ⟨t, ht⟩ : ∃ t, t = T.getD k default := ⟨_, rfl⟩
        rw [← ht] at c0 c1 r1 e3
        obtain ⟨t1, t2, t3⟩ := t
        simp only at c0 c1 r1 e3
        have hx : ¬ t1 < x := by omega
        have z1 : (t1 == x) = false := beq_eq_false_iff_ne.2 (by omega)
        have zl : decide (0 < T.length - k) = true := decide_eq_true (by omega)
        have zl2 : (1 : Int) ≤ ((T.length - k : Nat) : Int) := by omega
        have zl3 : 1 ≤ T.length - k := by omega
        have zl4 : (1 : Int) ≤ ((ca - k : Nat) : Int) := by omega
        have zl5 : 1 ≤ ca - k := by omega
        go_wp2
        go_quiet (fail)
        obtain ⟨n1, hn1⟩ : ∃ n1, n1 = nq := ⟨nq, rfl⟩
        subst hn1
        go_wp2
        go_quiet (fail)
        go_wp2
        have hTq := (hTr.drewN n1).drewN nq
        have hp2 := (hpr.drewN n1).drewN nq
        have hC : Below w.heap.size w ((wr.drewN n1).drewN nq) := by rw [hd.out]; exact ((C1.drewN _).drewN _).drewN _
        obtain ⟨W, hW⟩ : ∃ W, W = (wr.drewN n1).drewN nq := ⟨_, rfl⟩
        have y0' : W.cell? ⟨B, 0, none⟩ = some (.int .i64 x) := by rw [hW]; exact y0
        have y1' : W.cell? ⟨B, 1, none⟩ = some (.slice ba p.length bc) := by rw [hW]; exact y1
        rw [← hW] at hTq hp2 hC ⊢
        have hLq := hTq.take (k := k) (n := k) (c' := ca) (by omega) rfl
        have i1 : (0 : Int) ≤ (k : Int) := by omega
        have i2 : (k : Int) ≤ (ca : Int) := by omega
        have i3 : (k : Int) ≤ (T.length : Int) := by omega
        have i4 : k ≤ ca := by omega
        have capL : CapOk (.slice (some ⟨b, off, none⟩) k ca) := fun a n c e => by simp at e; obtain ⟨rfl, rfl, rfl⟩ := e; exact ⟨by omega, fun h => by cases h⟩
        have hRq := hTq.drop (k := k) (n := T.length - k) (c' := ca - k) (by omega) rfl
        have capR : CapOk (.slice (some ⟨b, off + k * 2, none⟩) (T.length - k) (ca - k)) := fun a n c e => by simp at e; obtain ⟨rfl, rfl, rfl⟩ := e; exact ⟨by omega, fun h => by cases h⟩
        clear hW c0 c1 r1 hTr hTq y0 y1 hd hT1 z1 zl zl2 zl3 zl4 zl5 hpr hp1 ht
        have P := pre12 hLq hp2 y0' y1'
        clear y0' y1'
        go_region_held3 (fun wx => wx.cell? ⟨B, 0, none⟩ = some (.int .i64 x) ∧ wx.cell? ⟨B, 1, none⟩ = some (.slice ba p.length bc)) (first | exact P.kp _ (Below.refl _ _) | exact P.kp _ P.b0 | exact P.kp _ P.bA1 | exact P.kp _ P.bH | exact P.kp _ P.bA2 | exact P.kp _ P.bA3 | exact P.kp _ C9 | exact P.kp _ C7 | exact P.kp _ C4 | exact P.kp _ C5) (first
          | (refine step_append_T rfl (.tmp 40) (.tmp 43) rfl W.heap.size hi hz0 hz1 hz2 (.slice (some ⟨W.heap.size, 0, none⟩) 0 0) 0 [] rfl P.oA1 _ _ rfl P.rA1 capL (by simp <;> omega) P.bA1.size ?_; intro v4 w4 h4 g4; have C4 := P.bA1.grown g4 P.bA1.size (fun q hq => by cases hq; first | exact Nat.le_refl _ | exact Nat.le_succ _); have P4 := hp2.below C4; have C5 := C4.alloc C4.size (.cells #[.int .i64 x, .slice ba p.length bc] 112); have h5 := World.ownsRow.alloc h4 (.cells #[.int .i64 x, .slice ba p.length bc] 112); have l5 := rdT_lit (x := x) P4)
          | (refine step_append_T rfl (.tmp 40) (.tmp 43) rfl W.heap.size hi hz0 hz1 hz2 (.slice (some ⟨W.heap.size, 0, none⟩) 0 0) 0 [] rfl P.oA2 _ _ rfl P.rA2 capL (by simp <;> omega) P.bA2.size ?_; intro v4 w4 h4 g4; have C4 := P.bA2.grown g4 P.bA2.size (fun q hq => by cases hq; first | exact Nat.le_refl _ | exact Nat.le_succ _); have h5 := h4; have C5 := C4; have l5 := RdT.grown (g := W.heap.size) P.lA2 g4 (apart_one (by omega)) P.aH2)
          | (refine step_append_T rfl (.tmp 40) (.tmp 43) rfl W.heap.size hi hz0 hz1 hz2 (.slice (some ⟨W.heap.size + 1, 0, none⟩) 0 0) 0 [] rfl P.oA3 _ _ rfl P.rA3 capL (by simp <;> omega) P.bA3.size ?_; intro v4 w4 h4 g4; have C4 := P.bA3.grown g4 P.bA3.size (fun q hq => by cases hq; first | exact Nat.le_refl _ | exact Nat.le_succ _); have h5 := h4; have C5 := C4; have l5 := RdT.grown (g := W.heap.size + 1) P.lA3 g4 (apart_one (by omega)) P.aH3)
          | (refine step_append_T rfl (.tmp 44) (.tmp 46) rfl W.heap.size hi hz0 hz1 hz2 v4 _ _ rfl h5 _ [(x, p, .slice ba p.length bc)] rfl l5 (P.capH _) (by simp <;> omega) C5.size ?_; intro v7 w7 h7 g7; have C7 := C5.grown g7 C5.size (fun q hq => (row_at h4 hq).1); have r7 := hRq.below C7)
          | (refine step_append_T rfl (.tmp 47) (.tmp 48) rfl W.heap.size hi hz0 hz1 hz2 v7 _ _ rfl h7 _ _ rfl r7 capR (by simp <;> omega) C7.size ?_; intro v9 w9 h9 g9; have C9 := C7.grown g9 C7.size (fun q hq => (row_at h7 hq).1)))
        · have FIN := fin12 hC C9 h9
          clear h9 g9 C9
          go_wp2
          go_ret
          exact ⟨_, rfl, FIN.out⟩
        · have FIN := fin12 hC C9 h9
          clear h9 g9 C9
          go_wp2
          go_ret
          exact ⟨_, rfl, FIN.out⟩
        · have FIN := fin12 hC C9 h9
          clear h9 g9 C9
          go_wp2
          go_ret
          exact ⟨_, rfl, FIN.out⟩
end Go.Proofs.YtgahaebfgmbckaaGreat.Gf
