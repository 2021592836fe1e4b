/- TEXTS JOINED: SeCC, SeCD, SeAwake. -/
import Derived.Test.YtfdihdndldiafaaTome3
/-
  'sector.Pack' BY CONTRACT.
-/

namespace Go.Proofs.Ytfdihdndldiafaa.Gf
set_option linter.unusedVariables false
set_option linter.unusedSimpArgs false
open Go.RowKit

/-- what is left: bytes, an error -/
def MakesS (w : World) (X : Int) (R : List UInt8) (e : Ending) (w' : World) : Prop := ∃ v, e = .returned (.tuple #[v, .int .i64 X]) ∧ Rd w' v R ∧ Below w.heap.size w w'

theorem RowF.partS {w : World} {base e g L C : Nat} {f : Nat → UInt8} (h : RowF w base e g L C f) {c cap : Nat} (hc : 0 < c) (hl : c ≤ L) (hcap : c ≤ cap) (hm : cap ≤ maxLen) : Rd w (.slice (some ⟨g, 0, none⟩) c cap) (upto f c) := by
  refine Or.inr ⟨g, 0, cap, fun e => ?_, by rw [upto_length], by rw [upto_length]; exact hcap, hm, h.lt.2, fun i hi => ?_⟩
  · have := upto_length f c
    rw [e] at this
    simp at this
    omega
  · rw [upto_length] at hi
    rw [co_upto_lt hi, Nat.zero_add]
    exact h.cell (by omega)
/-- the first numbers are those of a list -/
def Pre (f : Nat → UInt8) (r : List UInt8) : Prop := ∀ t, t < r.length → f t = co r t
theorem Pre.nil (f : Nat → UInt8) : Pre f [] := fun t h => by simp at h
theorem Pre.put {f : Nat → UInt8} {r : List UInt8} (h : Pre f r) (q : List UInt8) {k n : Nat} (hk : k = r.length) (hn : n = q.length) : Pre (putAt f k n (co q)) (r ++ q) := by
  subst hk hn
  intro t ht
  rw [List.length_append] at ht
  by_cases h1 : t < r.length
  · rw [putAt_out (Or.inl h1), co_append_lt h1]
    exact h t h1
  · obtain ⟨j, rfl⟩ := Nat.exists_eq_add_of_le (show r.length ≤ t by omega)
    rw [putAt_in (by omega), co_append_ge (by omega), Nat.add_sub_cancel_left]
theorem Pre.upto {f : Nat → UInt8} {r : List UInt8} (h : Pre f r) {n : Nat} (hn : n = r.length) : upto f n = r := by
  subst hn
  refine co_ext (upto_length _ _) fun i hi => ?_
  rw [upto_length] at hi
  rw [co_upto_lt hi]
  exact h i hi

set_option maxRecDepth 100000 in
set_option maxHeartbeats 4000000 in
theorem spack_any {a e : Int} {v : Value} {p : List UInt8} {w : World} (hp : Rd w v p) : Calls Try.prog 10 #[.int .i64 a, .int .i64 e, v] w (MakesS w (paX a e p) (paR a e p)) := by
  obtain ⟨va, vc, rfl⟩ := hp.form
  have hmax := hp.len
  unfold maxLen at hmax
  by_cases ha : 0 ≤ a ∧ a ≤ 2147483647
  · have da : decide (0 ≤ a ∧ a ≤ 2147483647) = true := decide_eq_true ha
    by_cases he : 0 ≤ e ∧ e ≤ 2147483647
    · have de : decide (0 ≤ e ∧ e ≤ 2147483647) = true := decide_eq_true he
      by_cases hl : p.length ≤ 4096
      · rw [(pa_ok ⟨ha, he, hl⟩).1, (pa_ok ⟨ha, he, hl⟩).2]
        have hl' : ¬ (p.length : Int) > 4096 := by omega
        obtain ⟨i0, hi, hz0, hz1, hz2⟩ := info_parts info_u8
        obtain ⟨L, hL⟩ : ∃ L, Hid (L = 12 + p.length) := ⟨_, rfl⟩
        have g0 : (12 : Int) + (p.length : Int) = (L : Int) := by have := hL.out; omega
        have gw : IntKind.i64.wrap (L : Int) = (L : Int) := by rw [IntKind.wrap_i64]; have := hL.out; omega
        have hL5 : L ≤ 5000 := by have := hL.out; omega
        have hL4 : 12 ≤ L := by have := hL.out; omega
        go_enter Try.func10, Try.ntmps10
        go_wp2_with fail
        refine smay_any.mono ?_
        rintro e' w' ⟨rfl, rfl⟩
        rw [da]
        go_wp2_with fail
        refine smay_any.mono ?_
        rintro e' w' ⟨rfl, rfl⟩
        rw [de]
        clear da de
        obtain ⟨wo, hwo⟩ : ∃ wo, wo = w' := ⟨_, rfl⟩
        subst hwo
        obtain ⟨A, rfl⟩ : ∃ A : Nat, a = (A : Int) := ⟨a.toNat, by omega⟩
        obtain ⟨E, rfl⟩ : ∃ E : Nat, e = (E : Int) := ⟨e.toNat, by omega⟩
        rw [Int.toNat_natCast, Int.toNat_natCast]
        have wA : IntKind.u32.wrap (A : Int) = (A : Int) := by rw [IntKind.wrap_u32]; omega
        have wE : IntKind.u32.wrap (E : Int) = (E : Int) := by rw [IntKind.wrap_u32]; omega
        go_wp2_with (at_make; go_loud (refine wpList_make_full _ rfl (.tmp 26) (.tmp 26) 23 rfl wo.heap.size 5 i0 (.int .u8 0) 1 Try.underlying23 hi hz0 hz1 _ _ _ _ L rfl rfl (by omega) (by omega) (by rw [hz2]; omega) (by unfold maxLen; omega) (Nat.le_refl _) ?_); intro w1 hown1 hgrow1; have R1 := RowF.made hown1; have B1 : Below wo.heap.size wo w1 := (Below.refl _ _).grown hgrow1 (Nat.le_refl _) (fun k h => by cases h); clear hown1 hgrow1)
        obtain ⟨g, hg⟩ : ∃ g, g = wo.heap.size := ⟨_, rfl⟩
        obtain ⟨bb, hbb⟩ : ∃ bb, bb = w1.heap.size := ⟨_, rfl⟩
        obtain ⟨lb, hlb⟩ : ∃ lb, lb = w1.heap.size + 1 := ⟨_, rfl⟩
        have hlt := R1.lt.2
        obtain ⟨w2, hw2⟩ : ∃ w2, w2 = ((w1.alloc (.cells #[.slice (some ⟨wo.heap.size, 0, none⟩) L L] 23)).alloc (.cells #[.int .i64 0] 3)) := ⟨_, rfl⟩
        have D2 : Below w1.heap.size w1 w2 := by rw [hw2]; exact below_lit (below_lit (Below.refl _ _) _) _
        have R2 : RowF w2 wo.heap.size 5 wo.heap.size L L (fun _ => 0) := R1.later D2
        have s2 : w2.heap.size = w1.heap.size + 2 := by rw [hw2]; simp
        have c1 : w2.cell? ⟨lb, 0, none⟩ = some (.int .i64 ((0 : Nat) : Int)) := by rw [hw2, hlb]; go_simp
        have c2 : w2.cell? ⟨bb, 0, none⟩ = some (.slice (some ⟨g, 0, none⟩) L L) := by rw [hw2, hbb, hg]; go_simp
        have fz : w2.frozen? ⟨lb, 0, none⟩ = false := by rw [hw2, hlb]; go_simp
        have B2 : Below wo.heap.size wo w2 := Below.step B1 D2
        rw [← hw2, ← hlb, ← hbb, ← hg]
        rw [← hg] at R2
        have n1 : lb ≠ g := by omega
        have n2 : bb ≠ g := by omega
        have n3 : lb ≠ bb := by omega
        have l1 : lb < w2.heap.size := by omega
        have l2 : bb < w2.heap.size := by omega
        have AP : ApartL [lb, g] (.slice va p.length vc) := hp.apartL (by intro x hx; simp at hx; omega)
        have R2p := hp.below B2
        have GB : ∀ x, x ∈ [lb, g] → wo.heap.size ≤ x := by intro x hx; simp at hx; omega
        have PZ : Pre (fun _ => 0) [] := Pre.nil _
        clear hw2 s2 D2 R1 B1 hlt hg hbb hlb hp
        refine (slay_any (n := A) rfl c1 c2 fz R2 (by omega) hL5 l1 l2 n1 n2 n3).mono ?_
        rintro e' w3 ⟨rfl, d1, d2, dz, R3, T3⟩
        have P3 : Pre (putAt (fun _ => 0) 0 4 (co (fo A))) ([] ++ fo A) := PZ.put (fo A) rfl rfl
        have s3 := T3.size
        clear c1 c2 fz R2 PZ
        generalize putAt (fun _ => 0) 0 4 (co (fo A)) = f3 at *
        go_wp2_with fail
        refine (slay_any (n := E) rfl d1 d2 dz R3 (by omega) hL5 (by omega) (by omega) n1 n2 n3).mono ?_
        rintro e' w4 ⟨rfl, c1, c2, fz, R4, T4⟩
        have P4 : Pre (putAt f3 (0 + 4) 4 (co (fo E))) (([] ++ fo A) ++ fo E) := P3.put (fo E) rfl rfl
        replace T4 := T3.trans T4
        have s4 := T4.size
        clear d1 d2 dz R3 P3 T3 s3
        generalize putAt f3 (0 + 4) 4 (co (fo E)) = f4 at *
        rw [show 0 + 4 + 4 = 8 from rfl] at c1
        have RD := (R2p.turnL AP T4).drewN 1
        have RA : RowF w4.drew g 5 g L L f4 := R4.later (Below.refl _ _).drew
        obtain ⟨M, hM⟩ : ∃ M, Hid (M = 8 + p.length) := ⟨_, rfl⟩
        have g5 : (8 : Int) + (p.length : Int) = (M : Int) := by have := hM.out; omega
        have gw5 : IntKind.i64.wrap (M : Int) = (M : Int) := by rw [IntKind.wrap_i64]; have := hM.out; omega
        have hML : M + 4 = L := by have := hM.out; have := hL.out; omega
        have hM8 : 8 ≤ M := by have := hM.out; omega
        have P5 : Pre (putAt f4 8 p.length (co p)) (([] ++ fo A ++ fo E) ++ p) := P4.put p rfl rfl
        have HH : Hid (upto (putAt f4 8 p.length (co p)) M = hdS A E p) := by
          show _ = _
          rw [P5.upto (by rw [hM.out]; simp [fo_length]; omega)]
          unfold hdS
          simp
        have hdl : p.length ≤ L - 8 := by have := hM.out; omega
        have g6 : (8 : Int) ≤ (L : Int) := by omega
        have g7 : ¬ L = 8 := by omega
        have g8 : 8 < L := by omega
        have hpl : 8 + p.length ≤ L := by have := hM.out; omega
        have FIN : ∀ v3, Only g w4.drew v3 → RowF v3 g 5 g L L (putAt f4 8 p.length (co p)) → Hid ((v3.setCell ⟨lb, 0, none⟩ (.int .i64 (M : Int))).cell? ⟨lb, 0, none⟩ = some (.int .i64 (M : Int)) ∧ (v3.setCell ⟨lb, 0, none⟩ (.int .i64 (M : Int))).cell? ⟨bb, 0, none⟩ = some (.slice (some ⟨g, 0, none⟩) L L) ∧ (v3.setCell ⟨lb, 0, none⟩ (.int .i64 (M : Int))).frozen? ⟨lb, 0, none⟩ = false ∧ RowF (v3.setCell ⟨lb, 0, none⟩ (.int .i64 (M : Int))) g 5 g L L (putAt f4 8 p.length (co p)) ∧ TurnL [lb, g] w2 (v3.setCell ⟨lb, 0, none⟩ (.int .i64 (M : Int)))) := by
          intro v3 O3 R3
          have c1v := (O3.cell (p := ⟨lb, 0, none⟩) n1).trans c1
          have c2v := (O3.cell (p := ⟨bb, 0, none⟩) n2).trans c2
          have fzv := (O3.frozen (p := ⟨lb, 0, none⟩) n1).trans fz
          have OO := (Only.refl lb v3).setCell 0 (.int .i64 (M : Int))
          refine ⟨by simp [go_sem, c1v], (OO.cell (p := ⟨bb, 0, none⟩) n3.symm).trans c2v, by simp [go_sem, fzv], R3.only n1.symm OO, ((T4.drew).trans (O3.turnL (by simp))).trans (OO.turnL (by simp))⟩
        clear R2p AP R4 hM P4 hL
        go_wp2
        -- REGION
        refine wp_region_held_drew (S := (fun wx => wx.cell? ⟨bb, 0, none⟩ = some (.slice (some ⟨g, 0, none⟩) L L))) (by kernel_rfl) ?_ (fun hHeld => ?_)
        · exact c2
        refine wpAnyH_take (i := 1) (v := ?_) rfl (by kernel_rfl) (by kernel_rfl) (by kernel_rfl) (fun _ _ _ h => h) (Or.inl ⟨by rfl, ?_⟩) (by assumption) ?_
        rotate_left
        · intro w hSw; (try dsimp only at hSw); go_simp; try with_reducible rfl
        try simp only [List.getElem_toArray, List.getElem_cons_succ, List.getElem_cons_zero, Act.put, List.setIfInBounds_toArray, List.set_cons_zero, List.set_cons_succ]
        refine wpAnyH_take (i := 4) (v := ?_) rfl (by kernel_rfl) (by kernel_rfl) (by kernel_rfl) (fun _ _ _ h => h) (Or.inl ⟨by rfl, ?_⟩) (by assumption) ?_
        rotate_left
        · intro w hSw; (try dsimp only at hSw); go_simp; try with_reducible rfl
        try simp only [List.getElem_toArray, List.getElem_cons_succ, List.getElem_cons_zero, Act.put, List.setIfInBounds_toArray, List.set_cons_zero, List.set_cons_succ]
        refine wpAnyH_ready (rs := [0, 2]) (by kernel_rfl) (by simp) ?_
        refine AllReadyH.cons rfl (fun K hK => ?_) (AllReadyH.cons rfl (fun K hK => ?_) AllReadyH.nil)
        · go_simp
          refine hK.out _ _ ?_ (fun hHeld => ?_)
          · assumption
          clear hK K
          try simp only [List.getElem_toArray, List.getElem_cons_succ, List.getElem_cons_zero, Act.put, List.setIfInBounds_toArray, List.set_cons_zero, List.set_cons_succ]
          refine wpAnyH_ready (rs := [2]) (by kernel_rfl) (by simp) ?_
          refine AllReadyH.cons rfl (fun K hK => ?_) AllReadyH.nil
          go_simp
          refine hK.out _ _ ?_ (fun hHeld => ?_)
          · assumption
          clear hK K
          try simp only [List.getElem_toArray, List.getElem_cons_succ, List.getElem_cons_zero, Act.put, List.setIfInBounds_toArray, List.set_cons_zero, List.set_cons_succ]
          refine wpAnyH_take (i := 3) (v := ?_) rfl (by kernel_rfl) (by kernel_rfl) (by kernel_rfl) (fun _ _ _ h => h) (Or.inl ⟨by rfl, ?_⟩) (by assumption) ?_
          rotate_left
          · intro w hSw; (try dsimp only at hSw); go_simp; try with_reducible rfl
          try simp only [List.getElem_toArray, List.getElem_cons_succ, List.getElem_cons_zero, Act.put, List.setIfInBounds_toArray, List.set_cons_zero, List.set_cons_succ]
          refine wpAnyH_ready (rs := [5]) (by kernel_rfl) (by simp) ?_
          refine AllReadyH.cons rfl (fun K hK => ?_) AllReadyH.nil
          refine step_copy_rd rfl (.tmp 40) (.tmp 41) 23 23 rfl 5 Try.underlying23 info1_u8s rfl rfl RD rfl hdl RA (by omega) ?_
          intro v3 O3 R3
          have c1v := (O3.cell (p := ⟨lb, 0, none⟩) n1).trans c1
          have c2v := (O3.cell (p := ⟨bb, 0, none⟩) n2).trans c2
          have fzv := (O3.frozen (p := ⟨lb, 0, none⟩) n1).trans fz
          have FW := FIN v3 O3 R3
          clear FIN RD RA
          refine hK.out _ _ ?_ (fun hHeld => ?_)
          · exact c2v
          clear hK K
          try simp only [List.getElem_toArray, List.getElem_cons_succ, List.getElem_cons_zero, Act.put, List.setIfInBounds_toArray, List.set_cons_zero, List.set_cons_succ]
          refine wpAnyH_take (i := 6) (v := ?_) rfl (by kernel_rfl) (by kernel_rfl) (by kernel_rfl) (fun _ _ _ h => h) (Or.inl ⟨by rfl, ?_⟩) (by assumption) ?_
          rotate_left
          · intro w hSw; (try dsimp only at hSw); go_simp; try with_reducible rfl
          try simp only [List.getElem_toArray, List.getElem_cons_succ, List.getElem_cons_zero, Act.put, List.setIfInBounds_toArray, List.set_cons_zero, List.set_cons_succ]
          refine wpAnyH_ready (rs := [7]) (by kernel_rfl) (by simp) ?_
          refine AllReadyH.cons rfl (fun K hK => ?_) AllReadyH.nil
          go_simp
          refine hK.out _ _ ?_ (fun hHeld => ?_)
          · exact (((Only.refl lb v3).setCell 0 _).cell (p := ⟨bb, 0, none⟩) n3.symm).trans c2v
          clear hK K
          try simp only [List.getElem_toArray, List.getElem_cons_succ, List.getElem_cons_zero, Act.put, List.setIfInBounds_toArray, List.set_cons_zero, List.set_cons_succ]
          refine wpAnyH_done (by kernel_rfl) ?_ _
          try simp only [List.getElem_toArray, List.getElem_cons_succ, List.getElem_cons_zero, Act.put, List.setIfInBounds_toArray, List.set_cons_zero, List.set_cons_succ]
          clear c1v c2v fzv hHeld c1 c2 fz O3 R3
          obtain ⟨c1, c2, fz, R5, T5⟩ := FW.out
          clear FW
          generalize v3.setCell ⟨lb, 0, none⟩ (.int .i64 (M : Int)) = w5 at *
          generalize putAt f4 8 p.length (co p) = f5 at *
          have RS : Rd w5 (.slice (some ⟨g, 0, none⟩) M L) (hdS A E p) := by rw [← HH.out]; exact R5.partS (by omega) (by omega) (by omega) (by unfold maxLen; omega)
          have hsl := hdS_length A E p
          have hML' : (M : Int) ≤ (L : Int) := by omega
          have s5 := T5.size
          go_wp2_with fail
          refine (csum_any RS (by omega)).mono ?_
          rintro e' w6 ⟨rfl, b6⟩
          have R6 := R5.later b6
          have d1 := (b6.cell (p := ⟨lb, 0, none⟩) (show lb < w5.heap.size by omega)).trans c1
          have d2 := (b6.cell (p := ⟨bb, 0, none⟩) (show bb < w5.heap.size by omega)).trans c2
          have dz := (b6.frozen (p := ⟨lb, 0, none⟩) (show lb < w5.heap.size by omega)).trans fz
          have T6 : TurnL [lb, g] w2 w6 := T5.trans (Below.turnL b6 _)
          have s6 := T6.size
          clear RS R5 c1 c2 fz T5 b6 s5
          go_wp2_with fail
          refine (slay_any (n := more 0 (hdS A E p)) rfl d1 d2 dz R6 (by omega) hL5 (by omega) (by omega) n1 n2 n3).mono ?_
          rintro e' w7 ⟨rfl, c1, c2, fz, R7, T7⟩
          replace T7 := T6.trans T7
          have HR : Hid (Rd w7 (.slice (some ⟨g, 0, none⟩) L L) (pkS A E p)) := by
            have e1 : upto (putAt f5 M 4 (co (fo (more 0 (hdS A E p))))) L = pkS A E p := by
              have q1 := P5.put (fo (more 0 (hdS A E p))) (k := M) (n := 4) (by simp [fo_length]; omega) rfl
              rw [q1.upto (by simp [fo_length]; omega)]
              unfold pkS hdS
              simp
            rw [← e1]
            exact R7.rd
          have HB : Hid (Below wo.heap.size wo w7) := B2.trans (T7.below GB B2.size)
          clear d1 d2 dz R6 T6 c1 fz R7 T7 P5 HH
          go_wp2
          go_ret2
          exact ⟨_, rfl, HR.out, HB.out⟩
        · go_simp
          refine hK.out _ _ ?_ (fun hHeld => ?_)
          · assumption
          clear hK K
          try simp only [List.getElem_toArray, List.getElem_cons_succ, List.getElem_cons_zero, Act.put, List.setIfInBounds_toArray, List.set_cons_zero, List.set_cons_succ]
          refine wpAnyH_take (i := 3) (v := ?_) rfl (by kernel_rfl) (by kernel_rfl) (by kernel_rfl) (fun _ _ _ h => h) (Or.inl ⟨by rfl, ?_⟩) (by assumption) ?_
          rotate_left
          · intro w hSw; (try dsimp only at hSw); go_simp; try with_reducible rfl
          try simp only [List.getElem_toArray, List.getElem_cons_succ, List.getElem_cons_zero, Act.put, List.setIfInBounds_toArray, List.set_cons_zero, List.set_cons_succ]
          refine wpAnyH_ready (rs := [0, 5]) (by kernel_rfl) (by simp) ?_
          refine AllReadyH.cons rfl (fun K hK => ?_) (AllReadyH.cons rfl (fun K hK => ?_) AllReadyH.nil)
          · go_simp
            refine hK.out _ _ ?_ (fun hHeld => ?_)
            · assumption
            clear hK K
            try simp only [List.getElem_toArray, List.getElem_cons_succ, List.getElem_cons_zero, Act.put, List.setIfInBounds_toArray, List.set_cons_zero, List.set_cons_succ]
            refine wpAnyH_ready (rs := [5]) (by kernel_rfl) (by simp) ?_
            refine AllReadyH.cons rfl (fun K hK => ?_) AllReadyH.nil
            refine step_copy_rd rfl (.tmp 40) (.tmp 41) 23 23 rfl 5 Try.underlying23 info1_u8s rfl rfl RD rfl hdl RA (by omega) ?_
            intro v3 O3 R3
            have c1v := (O3.cell (p := ⟨lb, 0, none⟩) n1).trans c1
            have c2v := (O3.cell (p := ⟨bb, 0, none⟩) n2).trans c2
            have fzv := (O3.frozen (p := ⟨lb, 0, none⟩) n1).trans fz
            have FW := FIN v3 O3 R3
            clear FIN RD RA
            refine hK.out _ _ ?_ (fun hHeld => ?_)
            · exact c2v
            clear hK K
            try simp only [List.getElem_toArray, List.getElem_cons_succ, List.getElem_cons_zero, Act.put, List.setIfInBounds_toArray, List.set_cons_zero, List.set_cons_succ]
            refine wpAnyH_take (i := 6) (v := ?_) rfl (by kernel_rfl) (by kernel_rfl) (by kernel_rfl) (fun _ _ _ h => h) (Or.inl ⟨by rfl, ?_⟩) (by assumption) ?_
            rotate_left
            · intro w hSw; (try dsimp only at hSw); go_simp; try with_reducible rfl
            try simp only [List.getElem_toArray, List.getElem_cons_succ, List.getElem_cons_zero, Act.put, List.setIfInBounds_toArray, List.set_cons_zero, List.set_cons_succ]
            refine wpAnyH_ready (rs := [7]) (by kernel_rfl) (by simp) ?_
            refine AllReadyH.cons rfl (fun K hK => ?_) AllReadyH.nil
            go_simp
            refine hK.out _ _ ?_ (fun hHeld => ?_)
            · exact (((Only.refl lb v3).setCell 0 _).cell (p := ⟨bb, 0, none⟩) n3.symm).trans c2v
            clear hK K
            try simp only [List.getElem_toArray, List.getElem_cons_succ, List.getElem_cons_zero, Act.put, List.setIfInBounds_toArray, List.set_cons_zero, List.set_cons_succ]
            refine wpAnyH_done (by kernel_rfl) ?_ _
            try simp only [List.getElem_toArray, List.getElem_cons_succ, List.getElem_cons_zero, Act.put, List.setIfInBounds_toArray, List.set_cons_zero, List.set_cons_succ]
            clear c1v c2v fzv hHeld c1 c2 fz O3 R3
            obtain ⟨c1, c2, fz, R5, T5⟩ := FW.out
            clear FW
            generalize v3.setCell ⟨lb, 0, none⟩ (.int .i64 (M : Int)) = w5 at *
            generalize putAt f4 8 p.length (co p) = f5 at *
            have RS : Rd w5 (.slice (some ⟨g, 0, none⟩) M L) (hdS A E p) := by rw [← HH.out]; exact R5.partS (by omega) (by omega) (by omega) (by unfold maxLen; omega)
            have hsl := hdS_length A E p
            have hML' : (M : Int) ≤ (L : Int) := by omega
            have s5 := T5.size
            go_wp2_with fail
            refine (csum_any RS (by omega)).mono ?_
            rintro e' w6 ⟨rfl, b6⟩
            have R6 := R5.later b6
            have d1 := (b6.cell (p := ⟨lb, 0, none⟩) (show lb < w5.heap.size by omega)).trans c1
            have d2 := (b6.cell (p := ⟨bb, 0, none⟩) (show bb < w5.heap.size by omega)).trans c2
            have dz := (b6.frozen (p := ⟨lb, 0, none⟩) (show lb < w5.heap.size by omega)).trans fz
            have T6 : TurnL [lb, g] w2 w6 := T5.trans (Below.turnL b6 _)
            have s6 := T6.size
            clear RS R5 c1 c2 fz T5 b6 s5
            go_wp2_with fail
            refine (slay_any (n := more 0 (hdS A E p)) rfl d1 d2 dz R6 (by omega) hL5 (by omega) (by omega) n1 n2 n3).mono ?_
            rintro e' w7 ⟨rfl, c1, c2, fz, R7, T7⟩
            replace T7 := T6.trans T7
            have HR : Hid (Rd w7 (.slice (some ⟨g, 0, none⟩) L L) (pkS A E p)) := by
              have e1 : upto (putAt f5 M 4 (co (fo (more 0 (hdS A E p))))) L = pkS A E p := by
                have q1 := P5.put (fo (more 0 (hdS A E p))) (k := M) (n := 4) (by simp [fo_length]; omega) rfl
                rw [q1.upto (by simp [fo_length]; omega)]
                unfold pkS hdS
                simp
              rw [← e1]
              exact R7.rd
            have HB : Hid (Below wo.heap.size wo w7) := B2.trans (T7.below GB B2.size)
            clear d1 d2 dz R6 T6 c1 fz R7 T7 P5 HH
            go_wp2
            go_ret2
            exact ⟨_, rfl, HR.out, HB.out⟩
          · refine step_copy_rd rfl (.tmp 40) (.tmp 41) 23 23 rfl 5 Try.underlying23 info1_u8s rfl rfl RD rfl hdl RA (by omega) ?_
            intro v3 O3 R3
            have c1v := (O3.cell (p := ⟨lb, 0, none⟩) n1).trans c1
            have c2v := (O3.cell (p := ⟨bb, 0, none⟩) n2).trans c2
            have fzv := (O3.frozen (p := ⟨lb, 0, none⟩) n1).trans fz
            have FW := FIN v3 O3 R3
            clear FIN RD RA
            refine hK.out _ _ ?_ (fun hHeld => ?_)
            · exact c2v
            clear hK K
            try simp only [List.getElem_toArray, List.getElem_cons_succ, List.getElem_cons_zero, Act.put, List.setIfInBounds_toArray, List.set_cons_zero, List.set_cons_succ]
            refine wpAnyH_ready (rs := [0]) (by kernel_rfl) (by simp) ?_
            refine AllReadyH.cons rfl (fun K hK => ?_) AllReadyH.nil
            go_simp
            refine hK.out _ _ ?_ (fun hHeld => ?_)
            · assumption
            clear hK K
            try simp only [List.getElem_toArray, List.getElem_cons_succ, List.getElem_cons_zero, Act.put, List.setIfInBounds_toArray, List.set_cons_zero, List.set_cons_succ]
            refine wpAnyH_take (i := 6) (v := ?_) rfl (by kernel_rfl) (by kernel_rfl) (by kernel_rfl) (fun _ _ _ h => h) (Or.inl ⟨by rfl, ?_⟩) (by assumption) ?_
            rotate_left
            · intro w hSw; (try dsimp only at hSw); go_simp; try with_reducible rfl
            try simp only [List.getElem_toArray, List.getElem_cons_succ, List.getElem_cons_zero, Act.put, List.setIfInBounds_toArray, List.set_cons_zero, List.set_cons_succ]
            refine wpAnyH_ready (rs := [7]) (by kernel_rfl) (by simp) ?_
            refine AllReadyH.cons rfl (fun K hK => ?_) AllReadyH.nil
            go_simp
            refine hK.out _ _ ?_ (fun hHeld => ?_)
            · exact (((Only.refl lb v3).setCell 0 _).cell (p := ⟨bb, 0, none⟩) n3.symm).trans c2v
            clear hK K
            try simp only [List.getElem_toArray, List.getElem_cons_succ, List.getElem_cons_zero, Act.put, List.setIfInBounds_toArray, List.set_cons_zero, List.set_cons_succ]
            refine wpAnyH_done (by kernel_rfl) ?_ _
            try simp only [List.getElem_toArray, List.getElem_cons_succ, List.getElem_cons_zero, Act.put, List.setIfInBounds_toArray, List.set_cons_zero, List.set_cons_succ]
            clear c1v c2v fzv hHeld c1 c2 fz O3 R3
            obtain ⟨c1, c2, fz, R5, T5⟩ := FW.out
            clear FW
            generalize v3.setCell ⟨lb, 0, none⟩ (.int .i64 (M : Int)) = w5 at *
            generalize putAt f4 8 p.length (co p) = f5 at *
            have RS : Rd w5 (.slice (some ⟨g, 0, none⟩) M L) (hdS A E p) := by rw [← HH.out]; exact R5.partS (by omega) (by omega) (by omega) (by unfold maxLen; omega)
            have hsl := hdS_length A E p
            have hML' : (M : Int) ≤ (L : Int) := by omega
            have s5 := T5.size
            go_wp2_with fail
            refine (csum_any RS (by omega)).mono ?_
            rintro e' w6 ⟨rfl, b6⟩
            have R6 := R5.later b6
            have d1 := (b6.cell (p := ⟨lb, 0, none⟩) (show lb < w5.heap.size by omega)).trans c1
            have d2 := (b6.cell (p := ⟨bb, 0, none⟩) (show bb < w5.heap.size by omega)).trans c2
            have dz := (b6.frozen (p := ⟨lb, 0, none⟩) (show lb < w5.heap.size by omega)).trans fz
            have T6 : TurnL [lb, g] w2 w6 := T5.trans (Below.turnL b6 _)
            have s6 := T6.size
            clear RS R5 c1 c2 fz T5 b6 s5
            go_wp2_with fail
            refine (slay_any (n := more 0 (hdS A E p)) rfl d1 d2 dz R6 (by omega) hL5 (by omega) (by omega) n1 n2 n3).mono ?_
            rintro e' w7 ⟨rfl, c1, c2, fz, R7, T7⟩
            replace T7 := T6.trans T7
            have HR : Hid (Rd w7 (.slice (some ⟨g, 0, none⟩) L L) (pkS A E p)) := by
              have e1 : upto (putAt f5 M 4 (co (fo (more 0 (hdS A E p))))) L = pkS A E p := by
                have q1 := P5.put (fo (more 0 (hdS A E p))) (k := M) (n := 4) (by simp [fo_length]; omega) rfl
                rw [q1.upto (by simp [fo_length]; omega)]
                unfold pkS hdS
                simp
              rw [← e1]
              exact R7.rd
            have HB : Hid (Below wo.heap.size wo w7) := B2.trans (T7.below GB B2.size)
            clear d1 d2 dz R6 T6 c1 fz R7 T7 P5 HH
            go_wp2
            go_ret2
            exact ⟨_, rfl, HR.out, HB.out⟩
  -- REGION END
      · rw [(pa_not (fun h => hl h.2.2)).1, (pa_not (fun h => hl h.2.2)).2]
        have hl' : (p.length : Int) > 4096 := by omega
        go_enter Try.func10, Try.ntmps10
        go_wp2_with fail
        refine smay_any.mono ?_
        rintro e' w' ⟨rfl, rfl⟩
        rw [da]
        go_wp2_with fail
        refine smay_any.mono ?_
        rintro e' w' ⟨rfl, rfl⟩
        rw [de]
        go_wp2
        go_ret2
        exact ⟨_, rfl, rd_nil0, Below.refl _ _⟩
    · have de : decide (0 ≤ e ∧ e ≤ 2147483647) = false := decide_eq_false he
      rw [(pa_not (fun h => he h.2.1)).1, (pa_not (fun h => he h.2.1)).2]
      go_enter Try.func10, Try.ntmps10
      go_wp2_with fail
      refine smay_any.mono ?_
      rintro e' w' ⟨rfl, rfl⟩
      rw [da]
      go_wp2_with fail
      refine smay_any.mono ?_
      rintro e' w' ⟨rfl, rfl⟩
      rw [de]
      go_wp2
      go_ret2
      exact ⟨_, rfl, rd_nil0, Below.refl _ _⟩
  · have da : decide (0 ≤ a ∧ a ≤ 2147483647) = false := decide_eq_false ha
    rw [(pa_not (fun h => ha h.1)).1, (pa_not (fun h => ha h.1)).2]
    go_enter Try.func10, Try.ntmps10
    go_wp2_with fail
    refine smay_any.mono ?_
    rintro e' w' ⟨rfl, rfl⟩
    rw [da]
    go_wp2
    go_ret2
    exact ⟨_, rfl, rd_nil0, Below.refl _ _⟩

end Go.Proofs.Ytfdihdndldiafaa.Gf

/-
  'sector.Unpack' BY CONTRACT.
-/

namespace Go.Proofs.Ytfdihdndldiafaa.Gf
set_option linter.unusedVariables false
set_option linter.unusedSimpArgs false
open Go.RowKit

/-- what is left: a number, bytes, an error -/
def MakesU (w : World) (N : Nat) (D : List UInt8) (X : Int) (e : Ending) (w' : World) : Prop := ∃ v, e = .returned (.tuple #[.int .i64 (N : Int), v, .int .i64 X]) ∧ Rd w' v D ∧ Below w.heap.size w w'
/-- a part of bytes -/
theorem Rd.cutS {w : World} {b off n c : Nat} {p : List UInt8} (h : Rd w (.slice (some ⟨b, off, none⟩) n c) p) {i m c' : Nat} (hm : i + m ≤ p.length) (hi : 0 < p.length) (hc : c' = c - i) : Rd w (.slice (some ⟨b, off + i, none⟩) m c') ((p.drop i).take m) := by
  rcases h with ⟨a, c0, e, _⟩ | ⟨b', off', c0, h1, h2, h3, h4, h5, h6⟩
  · subst e; simp at hi
  · simp at h2
    obtain ⟨⟨rfl, rfl⟩, rfl, rfl⟩ := h2
    subst hc
    have hl : ((p.drop i).take m).length = m := by rw [List.length_take, List.length_drop]; omega
    by_cases h0 : m = 0
    · subst h0
      exact Or.inl ⟨_, _, rfl, rfl, by omega, fun e => by cases e⟩
    · refine Or.inr ⟨b, off + i, c - i, fun e => by rw [e] at hl; simp at hl; omega, by rw [hl], by rw [hl]; omega, by omega, h5, fun j hj => ?_⟩
      rw [hl] at hj
      rw [co_take hj, co_drop0, Nat.add_assoc]
      exact h6 (i + j) (by omega)

set_option maxRecDepth 100000 in
set_option maxHeartbeats 4000000 in
theorem sunpack_any {a : Int} {v : Value} {p : List UInt8} {w : World} (hp : Rd w v p) (hl : p.length ≤ 100000) : Calls Try.prog 12 #[.int .i64 a, v] w (MakesU w (upN a p) (upD a p) (upX a p)) := by
  by_cases h12 : 12 ≤ p.length
  · rcases hp.form with ⟨va, vc, rfl⟩
    rcases hp with ⟨a', c', rfl, _⟩ | ⟨b, o, c', hp0, e0, h1, h2, h3, hpc⟩
    · simp at h12
    simp at e0
    obtain ⟨rfl, rfl⟩ := e0
    have hp : Rd w (.slice (some ⟨b, o, none⟩) p.length vc) p := Or.inr ⟨b, o, vc, hp0, rfl, h1, h2, h3, hpc⟩
    clear hpc hp0
    have hlt : ¬ (p.length : Int) < 12 := by omega
    obtain ⟨n4, hn4⟩ : ∃ n4, Hid (n4 = p.length - 4) := ⟨_, rfl⟩
    have hn5 : n4 + 4 = p.length := by have := hn4.out; omega
    have g0 : (p.length : Int) - 4 = (n4 : Int) := by omega
    have gw : IntKind.i64.wrap (n4 : Int) = (n4 : Int) := by rw [IntKind.wrap_i64]; omega
    have g1 : (n4 : Int) ≤ (p.length : Int) := by omega
    have g2 : (8 : Int) ≤ (n4 : Int) := by omega
    have g3 : 8 ≤ n4 := by omega
    have g4 : n4 ≤ vc := by omega
    have g5 : (n4 : Int) ≤ (vc : Int) := by omega
    have g6 : ¬ vc = 8 := by omega
    have hda : Rd w (.slice (some ⟨b, o + 8, none⟩) (n4 - 8) (vc - 8)) (daS p) := hp.cutS (i := 8) (m := n4 - 8) (by omega) (by omega) rfl |> (by rw [show daS p = (p.drop 8).take (n4 - 8) by unfold daS; congr 1; omega]; exact ·)
    have hdl := daS_length p
    by_cases hk : OkS a ((epS p : Nat) : Int) (daS p).length
    · have px := pa_ok hk
      rw [Int.toNat_natCast] at px
      have hpk : (pkS a.toNat (epS p) (daS p)).length = p.length := by rw [pk_length]; omega
      by_cases hs : pkS a.toNat (epS p) (daS p) = p
      · have hu : OkU a p := ⟨h12, hk, hs⟩
        rw [(up_ok hu).1, (up_ok hu).2.1, (up_ok hu).2.2]
        have ds : sameB (pkS a.toNat (epS p) (daS p)) p = true := decide_eq_true hs
        clear hs hu
        go_enter Try.func12, Try.ntmps12
        go_wp2_with fail
        refine (snum_any hp h12).mono ?_
        rintro e' w' ⟨rfl, rfl⟩
        go_wp2_with fail
        obtain ⟨wo, hwo⟩ : ∃ wo, wo = w' := ⟨_, rfl⟩
        subst hwo
        refine (spack_any hda).mono ?_
        rintro e' w1 ⟨v1, rfl, R1, B1⟩
        rw [px.1]
        rw [px.2] at R1
        obtain ⟨a1, c1, rfl⟩ := R1.form
        rw [hpk] at R1 ⊢
        replace hp := hp.below B1
        replace hda := hda.below B1
        go_wp2_with fail
        refine (beq_any R1 hp).mono ?_
        rintro e' w2 ⟨rfl, rfl⟩
        rw [ds]
        go_wp2_with fail
        obtain ⟨w1, hw1⟩ : ∃ w1, w1 = w2 := ⟨_, rfl⟩
        subst hw1
        have hn8 : n4 - 8 = (daS p).length := by omega
        rw [hn8] at hda ⊢
        refine (sclone_any hda (by omega)).mono ?_
        rintro e' w3 ⟨v3, rfl, R3, B3⟩
        have HB : Hid (Below wo.heap.size wo w3) := Below.step B1 B3
        clear R1 hp hda B1 B3
        go_wp2
        go_ret3
        exact ⟨_, rfl, R3, HB.out⟩
      · have hn : ¬ OkU a p := fun h => hs h.2.2
        rw [(up_not hn).1, (up_not hn).2.1, (up_not hn).2.2]
        have ds : sameB (pkS a.toNat (epS p) (daS p)) p = false := decide_eq_false hs
        go_enter Try.func12, Try.ntmps12
        go_wp2_with fail
        refine (snum_any hp h12).mono ?_
        rintro e' w' ⟨rfl, rfl⟩
        go_wp2_with fail
        obtain ⟨wo, hwo⟩ : ∃ wo, wo = w' := ⟨_, rfl⟩
        subst hwo
        refine (spack_any hda).mono ?_
        rintro e' w1 ⟨v1, rfl, R1, B1⟩
        rw [px.1]
        rw [px.2] at R1
        obtain ⟨a1, c1, rfl⟩ := R1.form
        rw [hpk] at R1 ⊢
        replace hp := hp.below B1
        have HB : Hid (Below wo.heap.size wo w1) := B1
        clear hda B1
        go_wp2_with fail
        refine (beq_any R1 hp).mono ?_
        rintro e' w2 ⟨rfl, rfl⟩
        rw [ds]
        clear R1 hp
        go_wp2
        go_ret3
        exact ⟨_, rfl, rd_nil0, HB.out⟩
    · have px := pa_not hk
      have hn : ¬ OkU a p := fun h => hk h.2.1
      rw [(up_not hn).1, (up_not hn).2.1, (up_not hn).2.2]
      go_enter Try.func12, Try.ntmps12
      go_wp2_with fail
      refine (snum_any hp h12).mono ?_
      rintro e' w' ⟨rfl, rfl⟩
      go_wp2_with fail
      obtain ⟨wo, hwo⟩ : ∃ wo, wo = w' := ⟨_, rfl⟩
      subst hwo
      refine (spack_any hda).mono ?_
      rintro e' w1 ⟨v1, rfl, R1, B1⟩
      rw [px.1]
      have HB : Hid (Below wo.heap.size wo w1) := B1
      clear hda B1 R1 hp
      go_wp2
      go_ret3
      exact ⟨_, rfl, rd_nil0, HB.out⟩
  · have hn : ¬ OkU a p := fun h => h12 h.1
    rw [(up_not hn).1, (up_not hn).2.1, (up_not hn).2.2]
    obtain ⟨va, vc, rfl⟩ := hp.form
    have hlt : (p.length : Int) < 12 := by omega
    go_enter Try.func12, Try.ntmps12
    go_wp2
    go_ret3
    exact ⟨_, rfl, rd_nil0, Below.refl _ _⟩

end Go.Proofs.Ytfdihdndldiafaa.Gf

/-
  THE STATEMENTS' HEAD OF LAYER 11 BY CONTRACT: 'awake' answers true.
-/

namespace Go.Proofs.Ytfdihdndldiafaa.Gf
set_option linter.unusedVariables false
set_option linter.unusedSimpArgs false
open Go.RowKit

theorem Below.drawsS {w w1 : World} (h : Below w.heap.size w w1) (n : Nat) : Below w.heap.size w (w1.drewN n) := h.trans ⟨rfl, rfl, rfl, Nat.le_refl _, fun _ _ => rfl⟩
theorem aw11_ok : OkS 1 2 [(7 : UInt8)].length := by decide
theorem aw11_len : (pkS 1 2 [7]).length = 13 := rfl
theorem aw11_a : paX 1 2 [7] = 0 ∧ paR 1 2 [7] = pkS 1 2 [7] := pa_ok aw11_ok
theorem aw11_b : upX 1 (pkS 1 2 [7]) = 0 ∧ upN 1 (pkS 1 2 [7]) = 2 ∧ upD 1 (pkS 1 2 [7]) = [7] := by
  have h := ok_pk aw11_ok
  have u := up_ok h.1
  exact ⟨u.1, u.2.1.trans h.2.1, u.2.2.trans h.2.2⟩
theorem aw11_c : upX 2 (pkS 1 2 [7]) = 110 := (up_not (pk_other aw11_ok (by decide))).1
theorem aw11_3 : ((co (pkS 1 2 [7]) 3).toNat : Int) = 1 := rfl
theorem aw11_7 : ((co (pkS 1 2 [7]) 7).toNat : Int) = 2 := rfl
theorem Rd.someS {w : World} {v : Value} {p : List UInt8} (h : Rd w v p) (h0 : 0 < p.length) : ∃ b o c, v = .slice (some ⟨b, o, none⟩) p.length c ∧ p.length ≤ c ∧ b < w.heap.size ∧ ∀ i, i < p.length → w.cell? ⟨b, o + i, none⟩ = some (.int .u8 ((co p i).toNat : Nat)) := by
  rcases h with ⟨a, c, rfl, _⟩ | ⟨b, o, c, _, e, h1, _, h3, h4⟩
  · simp at h0
  · exact ⟨b, o, c, e, h1, h3, h4⟩

theorem take_min_lengthS (P : List UInt8) (n : Nat) : P.take (min n P.length) = P.take n := by
  by_cases h : n ≤ P.length
  · rw [Nat.min_eq_left h]
  · rw [Nat.min_eq_right (by omega), List.take_length, List.take_of_length_le (by omega)]
theorem Rd.capS {w : World} {a : Option Addr} {n c : Nat} {p : List UInt8} (h : Rd w (.slice a n c) p) : p.length ≤ c := by
  rcases h with ⟨a', c', rfl, e, _⟩ | ⟨b, off, c', h1, e, h3, _⟩
  · exact Nat.zero_le _
  · simp at e
    omega
theorem Rd.headS {w : World} {a : Option Addr} {n c k : Nat} {p : List UInt8} (h : Rd w (.slice a n c) p) (hk : k ≤ p.length) : Rd w (.slice a k c) (p.take k) := by
  rcases h with ⟨a', c', rfl, e, h1, h2⟩ | ⟨b, off, c', h1, e, h3, h4, h5, h6⟩
  · simp at e
    obtain ⟨rfl, _, rfl⟩ := e
    have : k = 0 := by simpa using hk
    subst this
    exact Or.inl ⟨_, _, rfl, rfl, h1, h2⟩
  · simp at e
    obtain ⟨rfl, rfl, rfl⟩ := e
    have hl : (p.take k).length = k := by rw [List.length_take]; omega
    by_cases h0 : k = 0
    · subst h0
      exact Or.inl ⟨_, _, rfl, rfl, h4, fun e => by cases e⟩
    · refine Or.inr ⟨b, off, c, fun e => by rw [e] at hl; simp at hl; omega, by rw [hl], by rw [hl]; omega, h4, h5, fun j hj => ?_⟩
      rw [hl] at hj
      rw [co_take hj]
      exact h6 j (by omega)

set_option maxRecDepth 100000 in
set_option maxHeartbeats 2000000 in
theorem awake11_any (w : World) : Calls Try.prog 9 #[] w fun e w' => e = .returned (.bool true) ∧ Below w.heap.size w w' := by
  go_enter Try.func9, Try.ntmps9
  go_wp2_with fail
  refine (spack_any (rd_lit [7] rfl rfl (by decide))).mono ?_
  rintro e u1 ⟨v1, rfl, R1, B1⟩
  rw [aw11_a.1]
  rw [aw11_a.2] at R1
  replace B1 : Below w.heap.size w u1 := Below.step ((Below.refl _ _).alloc (Nat.le_refl _) _) B1
  obtain ⟨b1, o1, c1, rfl, q1, s1, k1⟩ := R1.someS (by rw [aw11_len]; decide)
  rw [aw11_len] at R1 q1 k1 ⊢
  go_wp2_with fail
  refine (sunpack_any R1 (by rw [aw11_len]; decide)).mono ?_
  rintro e u2 ⟨v2, rfl, R2, B2⟩
  rw [aw11_b.1, aw11_b.2.1]
  rw [aw11_b.2.2] at R2
  replace R1 := R1.below B2
  have C2 := Below.step B1 B2
  go_wp2_with fail
  refine (sunpack_any R1 (by rw [aw11_len]; decide)).mono ?_
  rintro e u3 ⟨v3, rfl, R3, B3⟩
  rw [aw11_c]
  have C3 : Hid (Below w.heap.size w u3) := Below.step C2 B3
  have m3 := (B3.cell (p := ⟨b1, o1 + 3, none⟩) (Nat.lt_of_lt_of_le s1 B2.size)).trans ((B2.cell (p := ⟨b1, o1 + 3, none⟩) s1).trans (k1 3 (by decide)))
  have m7 := (B3.cell (p := ⟨b1, o1 + 7, none⟩) (Nat.lt_of_lt_of_le s1 B2.size)).trans ((B2.cell (p := ⟨b1, o1 + 7, none⟩) s1).trans (k1 7 (by decide)))
  rw [aw11_3] at m3
  rw [aw11_7] at m7
  replace R2 := R2.below B3
  obtain ⟨b2, o2, c2, rfl, q2, s2, k2⟩ := R2.someS (by decide)
  have m0 : u3.cell? ⟨b2, o2, none⟩ = some (.int .u8 7) := k2 0 (by decide)
  clear R1 R2 B2 B3 C2 k1 k2 B1
  go_wp2
  go_ret
  exact ⟨rfl, C3.out⟩

end Go.Proofs.Ytfdihdndldiafaa.Gf

