/- TEXTS JOINED: SeCC, SeCD, DkCall, DkMath, DkAt, DkCA, DkSe, DkCB. -/
import Derived.Test.YtddnfhfangfgeaaGreatTome12
import Derived.Test.YtddnfhfangfgeaaGreatTome3
import Derived.Deep.Slices
import Derived.Deep.RegionHeld3
namespace Go.Proofs.YtddnfhfangfgeaaGreat.Gf
set_option linter.unusedVariables false
set_option linter.unusedSimpArgs false
open Go.RowKit
/-- what is left: bytes, an error -/
def MakesS (w : World) (X : Int) (R : List UInt8) (e : Ending) (w' : World) : Prop := ∃ v, e = .returned (.tuple #[v, .int .i64 X]) ∧ Rd w' v R ∧ Below w.heap.size w w'
theorem RowF.partS {w : World} {base e g L C : Nat} {f : Nat → UInt8} (h : RowF w base e g L C f) {c cap : Nat} (hc : 0 < c) (hl : c ≤ L) (hcap : c ≤ cap) (hm : cap ≤ maxLen) : Rd w (.slice (some ⟨g, 0, none⟩) c cap) (upto f c) := by
  refine Or.inr ⟨g, 0, cap, fun e => ?_, by rw [upto_length], by rw [upto_length]; exact hcap, hm, h.lt.2, fun i hi => ?_⟩
  · have := upto_length f c
    rw [e] at this
    simp at this
    omega
  · rw [upto_length] at hi
    rw [co_upto_lt hi, Nat.zero_add]
    exact h.cell (by omega)
/-- the first numbers are those of a list -/
def Pre (f : Nat → UInt8) (r : List UInt8) : Prop := ∀ t, t < r.length → f t = co r t
theorem Pre.nil (f : Nat → UInt8) : Pre f [] := fun t h => by simp at h
theorem Pre.put {f : Nat → UInt8} {r : List UInt8} (h : Pre f r) (q : List UInt8) {k n : Nat} (hk : k = r.length) (hn : n = q.length) : Pre (putAt f k n (co q)) (r ++ q) := by
  subst hk hn
  intro t ht
  rw [List.length_append] at ht
  by_cases h1 : t < r.length
  · rw [putAt_out (Or.inl h1), co_append_lt h1]
    exact h t h1
  · obtain ⟨j, rfl⟩ := Nat.exists_eq_add_of_le (show r.length ≤ t by omega)
    rw [putAt_in (by omega), co_append_ge (by omega), Nat.add_sub_cancel_left]
theorem Pre.upto {f : Nat → UInt8} {r : List UInt8} (h : Pre f r) {n : Nat} (hn : n = r.length) : upto f n = r := by
  subst hn
  refine co_ext (upto_length _ _) fun i hi => ?_
  rw [upto_length] at hi
  rw [co_upto_lt hi]
  exact h i hi
set_option maxRecDepth 100000 in
set_option maxHeartbeats 4000000 in
theorem spack_any {a e : Int} {v : Value} {p : List UInt8} {w : World} (hp : Rd w v p) : Calls Tryz.prog 85 #[.int .i64 a, .int .i64 e, v] w (MakesS w (paX a e p) (paR a e p)) := by
  obtain ⟨va, vc, rfl⟩ := hp.form
  have hmax := hp.len
  unfold maxLen at hmax
  by_cases ha : 0 ≤ a ∧ a ≤ 2147483647
  · have da : decide (0 ≤ a ∧ a ≤ 2147483647) = true := decide_eq_true ha
    by_cases he : 0 ≤ e ∧ e ≤ 2147483647
    · have de : decide (0 ≤ e ∧ e ≤ 2147483647) = true := decide_eq_true he
      by_cases hl : p.length ≤ 4096
      · rw [(pa_ok ⟨ha, he, hl⟩).1, (pa_ok ⟨ha, he, hl⟩).2]
        have hl' : ¬ (p.length : Int) > 4096 := by omega
        obtain ⟨i0, hi, hz0, hz1, hz2⟩ := info_parts info_u8
        obtain ⟨L, hL⟩ : ∃ L, Hid (L = 12 + p.length) := ⟨_, rfl⟩
        have g0 : (12 : Int) + (p.length : Int) = (L : Int) := by have := hL.out; omega
        have gw : IntKind.i64.wrap (L : Int) = (L : Int) := by rw [IntKind.wrap_i64]; have := hL.out; omega
        have hL5 : L ≤ 5000 := by have := hL.out; omega
        have hL4 : 12 ≤ L := by have := hL.out; omega
        go_enter Tryz.func85, Tryz.ntmps85
        go_wp2_with fail
        refine smay_any.mono ?_
        rintro e' w' ⟨rfl, rfl⟩
        rw [da]
        go_wp2_with fail
        refine smay_any.mono ?_
        rintro e' w' ⟨rfl, rfl⟩
        rw [de]
        clear da de
        obtain ⟨wo, hwo⟩ : ∃ wo, wo = w' := ⟨_, rfl⟩
        subst hwo
        obtain ⟨A, rfl⟩ : ∃ A : Nat, a = (A : Int) := ⟨a.toNat, by omega⟩
        obtain ⟨E, rfl⟩ : ∃ E : Nat, e = (E : Int) := ⟨e.toNat, by omega⟩
        rw [Int.toNat_natCast, Int.toNat_natCast]
        have wA : IntKind.u32.wrap (A : Int) = (A : Int) := by rw [IntKind.wrap_u32]; omega
        have wE : IntKind.u32.wrap (E : Int) = (E : Int) := by rw [IntKind.wrap_u32]; omega
        go_wp2_with (at_make; go_loud (refine wpList_make_full _ rfl (.tmp 26) (.tmp 26) 36 rfl wo.heap.size 5 i0 (.int .u8 0) 1 Tryz.underlying36 hi hz0 hz1 _ _ _ _ L rfl rfl (by omega) (by omega) (by rw [hz2]; omega) (by unfold maxLen; omega) (Nat.le_refl _) ?_); intro w1 hown1 hgrow1; have R1 := RowF.made hown1; have B1 : Below wo.heap.size wo w1 := (Below.refl _ _).grown hgrow1 (Nat.le_refl _) (fun k h => by cases h); clear hown1 hgrow1)
        obtain ⟨g, hg⟩ : ∃ g, g = wo.heap.size := ⟨_, rfl⟩
        obtain ⟨bb, hbb⟩ : ∃ bb, bb = w1.heap.size := ⟨_, rfl⟩
        obtain ⟨lb, hlb⟩ : ∃ lb, lb = w1.heap.size + 1 := ⟨_, rfl⟩
        have hlt := R1.lt.2
        obtain ⟨w2, hw2⟩ : ∃ w2, w2 = ((w1.alloc (.cells #[.slice (some ⟨wo.heap.size, 0, none⟩) L L] 36)).alloc (.cells #[.int .i64 0] 3)) := ⟨_, rfl⟩
        have D2 : Below w1.heap.size w1 w2 := by rw [hw2]; exact below_lit (below_lit (Below.refl _ _) _) _
        have R2 : RowF w2 wo.heap.size 5 wo.heap.size L L (fun _ => 0) := R1.later D2
        have s2 : w2.heap.size = w1.heap.size + 2 := by rw [hw2]; simp
        have c1 : w2.cell? ⟨lb, 0, none⟩ = some (.int .i64 ((0 : Nat) : Int)) := by rw [hw2, hlb]; go_simp
        have c2 : w2.cell? ⟨bb, 0, none⟩ = some (.slice (some ⟨g, 0, none⟩) L L) := by rw [hw2, hbb, hg]; go_simp
        have fz : w2.frozen? ⟨lb, 0, none⟩ = false := by rw [hw2, hlb]; go_simp
        have B2 : Below wo.heap.size wo w2 := Below.step B1 D2
        rw [← hw2, ← hlb, ← hbb, ← hg]
        rw [← hg] at R2
        have n1 : lb ≠ g := by omega
        have n2 : bb ≠ g := by omega
        have n3 : lb ≠ bb := by omega
        have l1 : lb < w2.heap.size := by omega
        have l2 : bb < w2.heap.size := by omega
        have AP : ApartL [lb, g] (.slice va p.length vc) := hp.apartL (by intro x hx; simp at hx; omega)
        have R2p := hp.below B2
        have GB : ∀ x, x ∈ [lb, g] → wo.heap.size ≤ x := by intro x hx; simp at hx; omega
        have PZ : Pre (fun _ => 0) [] := Pre.nil _
        clear hw2 s2 D2 R1 B1 hlt hg hbb hlb hp
        refine (slay_any (n := A) rfl c1 c2 fz R2 (by omega) hL5 l1 l2 n1 n2 n3).mono ?_
        rintro e' w3 ⟨rfl, d1, d2, dz, R3, T3⟩
        have P3 : Pre (putAt (fun _ => 0) 0 4 (co (fo A))) ([] ++ fo A) := PZ.put (fo A) rfl rfl
        have s3 := T3.size
        clear c1 c2 fz R2 PZ
        generalize putAt (fun _ => 0) 0 4 (co (fo A)) = f3 at *
        go_wp2_with fail
        refine (slay_any (n := E) rfl d1 d2 dz R3 (by omega) hL5 (by omega) (by omega) n1 n2 n3).mono ?_
        rintro e' w4 ⟨rfl, c1, c2, fz, R4, T4⟩
        have P4 : Pre (putAt f3 (0 + 4) 4 (co (fo E))) (([] ++ fo A) ++ fo E) := P3.put (fo E) rfl rfl
        replace T4 := T3.trans T4
        have s4 := T4.size
        clear d1 d2 dz R3 P3 T3 s3
        generalize putAt f3 (0 + 4) 4 (co (fo E)) = f4 at *
        rw [show 0 + 4 + 4 = 8 from rfl] at c1
        have RD := (R2p.turnL AP T4).drewN 1
        have RA : RowF w4.drew g 5 g L L f4 := R4.later (Below.refl _ _).drew
        obtain ⟨M, hM⟩ : ∃ M, Hid (M = 8 + p.length) := ⟨_, rfl⟩
        have g5 : (8 : Int) + (p.length : Int) = (M : Int) := by have := hM.out; omega
        have gw5 : IntKind.i64.wrap (M : Int) = (M : Int) := by rw [IntKind.wrap_i64]; have := hM.out; omega
        have hML : M + 4 = L := by have := hM.out; have := hL.out; omega
        have hM8 : 8 ≤ M := by have := hM.out; omega
        have P5 : Pre (putAt f4 8 p.length (co p)) (([] ++ fo A ++ fo E) ++ p) := P4.put p rfl rfl
        have HH : Hid (upto (putAt f4 8 p.length (co p)) M = hdS A E p) := by
          show _ = _
          rw [P5.upto (by rw [hM.out]; simp [fo_length]; omega)]
          unfold hdS
          simp
        have hdl : p.length ≤ L - 8 := by have := hM.out; omega
        have g6 : (8 : Int) ≤ (L : Int) := by omega
        have g7 : ¬ L = 8 := by omega
        have g8 : 8 < L := by omega
        have hpl : 8 + p.length ≤ L := by have := hM.out; omega
        have FIN : ∀ v3, Only g w4.drew v3 → RowF v3 g 5 g L L (putAt f4 8 p.length (co p)) → Hid ((v3.setCell ⟨lb, 0, none⟩ (.int .i64 (M : Int))).cell? ⟨lb, 0, none⟩ = some (.int .i64 (M : Int)) ∧ (v3.setCell ⟨lb, 0, none⟩ (.int .i64 (M : Int))).cell? ⟨bb, 0, none⟩ = some (.slice (some ⟨g, 0, none⟩) L L) ∧ (v3.setCell ⟨lb, 0, none⟩ (.int .i64 (M : Int))).frozen? ⟨lb, 0, none⟩ = false ∧ RowF (v3.setCell ⟨lb, 0, none⟩ (.int .i64 (M : Int))) g 5 g L L (putAt f4 8 p.length (co p)) ∧ TurnL [lb, g] w2 (v3.setCell ⟨lb, 0, none⟩ (.int .i64 (M : Int)))) := by
          intro v3 O3 R3
          have c1v := (O3.cell (p := ⟨lb, 0, none⟩) n1).trans c1
          have c2v := (O3.cell (p := ⟨bb, 0, none⟩) n2).trans c2
          have fzv := (O3.frozen (p := ⟨lb, 0, none⟩) n1).trans fz
          have OO := (Only.refl lb v3).setCell 0 (.int .i64 (M : Int))
          refine ⟨by simp [go_sem, c1v], (OO.cell (p := ⟨bb, 0, none⟩) n3.symm).trans c2v, by simp [go_sem, fzv], R3.only n1.symm OO, ((T4.drew).trans (O3.turnL (by simp))).trans (OO.turnL (by simp))⟩
        clear R2p AP R4 hM P4 hL
        go_wp2
        -- REGION
        refine wp_region_held_drew (S := (fun wx => wx.cell? ⟨bb, 0, none⟩ = some (.slice (some ⟨g, 0, none⟩) L L))) (by kernel_rfl) ?_ (fun hHeld => ?_)
        · exact c2
        refine wpAnyH_take (i := 1) (v := ?_) rfl (by kernel_rfl) (by kernel_rfl) (by kernel_rfl) (fun _ _ _ h => h) (Or.inl ⟨by rfl, ?_⟩) (by assumption) ?_
        rotate_left
        · intro w hSw; (try dsimp only at hSw); go_simp; try with_reducible rfl
        try simp only [List.getElem_toArray, List.getElem_cons_succ, List.getElem_cons_zero, Act.put, List.setIfInBounds_toArray, List.set_cons_zero, List.set_cons_succ]
        refine wpAnyH_take (i := 4) (v := ?_) rfl (by kernel_rfl) (by kernel_rfl) (by kernel_rfl) (fun _ _ _ h => h) (Or.inl ⟨by rfl, ?_⟩) (by assumption) ?_
        rotate_left
        · intro w hSw; (try dsimp only at hSw); go_simp; try with_reducible rfl
        try simp only [List.getElem_toArray, List.getElem_cons_succ, List.getElem_cons_zero, Act.put, List.setIfInBounds_toArray, List.set_cons_zero, List.set_cons_succ]
        refine wpAnyH_ready (rs := [0, 2]) (by kernel_rfl) (by simp) ?_
        refine AllReadyH.cons rfl (fun K hK => ?_) (AllReadyH.cons rfl (fun K hK => ?_) AllReadyH.nil)
        · go_simp
          refine hK.out _ _ ?_ (fun hHeld => ?_)
          · assumption
          clear hK K
          try simp only [List.getElem_toArray, List.getElem_cons_succ, List.getElem_cons_zero, Act.put, List.setIfInBounds_toArray, List.set_cons_zero, List.set_cons_succ]
          refine wpAnyH_ready (rs := [2]) (by kernel_rfl) (by simp) ?_
          refine AllReadyH.cons rfl (fun K hK => ?_) AllReadyH.nil
          go_simp
          refine hK.out _ _ ?_ (fun hHeld => ?_)
          · assumption
          clear hK K
          try simp only [List.getElem_toArray, List.getElem_cons_succ, List.getElem_cons_zero, Act.put, List.setIfInBounds_toArray, List.set_cons_zero, List.set_cons_succ]
          refine wpAnyH_take (i := 3) (v := ?_) rfl (by kernel_rfl) (by kernel_rfl) (by kernel_rfl) (fun _ _ _ h => h) (Or.inl ⟨by rfl, ?_⟩) (by assumption) ?_
          rotate_left
          · intro w hSw; (try dsimp only at hSw); go_simp; try with_reducible rfl
          try simp only [List.getElem_toArray, List.getElem_cons_succ, List.getElem_cons_zero, Act.put, List.setIfInBounds_toArray, List.set_cons_zero, List.set_cons_succ]
          refine wpAnyH_ready (rs := [5]) (by kernel_rfl) (by simp) ?_
          refine AllReadyH.cons rfl (fun K hK => ?_) AllReadyH.nil
          refine step_copy_rd rfl (.tmp 40) (.tmp 41) 36 36 rfl 5 Tryz.underlying36 info1_u8s rfl rfl RD rfl hdl RA (by omega) ?_
          intro v3 O3 R3
          have c1v := (O3.cell (p := ⟨lb, 0, none⟩) n1).trans c1
          have c2v := (O3.cell (p := ⟨bb, 0, none⟩) n2).trans c2
          have fzv := (O3.frozen (p := ⟨lb, 0, none⟩) n1).trans fz
          have FW := FIN v3 O3 R3
          clear FIN RD RA
          refine hK.out _ _ ?_ (fun hHeld => ?_)
          · exact c2v
          clear hK K
          try simp only [List.getElem_toArray, List.getElem_cons_succ, List.getElem_cons_zero, Act.put, List.setIfInBounds_toArray, List.set_cons_zero, List.set_cons_succ]
          refine wpAnyH_take (i := 6) (v := ?_) rfl (by kernel_rfl) (by kernel_rfl) (by kernel_rfl) (fun _ _ _ h => h) (Or.inl ⟨by rfl, ?_⟩) (by assumption) ?_
          rotate_left
          · intro w hSw; (try dsimp only at hSw); go_simp; try with_reducible rfl
          try simp only [List.getElem_toArray, List.getElem_cons_succ, List.getElem_cons_zero, Act.put, List.setIfInBounds_toArray, List.set_cons_zero, List.set_cons_succ]
          refine wpAnyH_ready (rs := [7]) (by kernel_rfl) (by simp) ?_
          refine AllReadyH.cons rfl (fun K hK => ?_) AllReadyH.nil
          go_simp
          refine hK.out _ _ ?_ (fun hHeld => ?_)
          · exact (((Only.refl lb v3).setCell 0 _).cell (p := ⟨bb, 0, none⟩) n3.symm).trans c2v
          clear hK K
          try simp only [List.getElem_toArray, List.getElem_cons_succ, List.getElem_cons_zero, Act.put, List.setIfInBounds_toArray, List.set_cons_zero, List.set_cons_succ]
          refine wpAnyH_done (by kernel_rfl) ?_ _
          try simp only [List.getElem_toArray, List.getElem_cons_succ, List.getElem_cons_zero, Act.put, List.setIfInBounds_toArray, List.set_cons_zero, List.set_cons_succ]
          clear c1v c2v fzv hHeld c1 c2 fz O3 R3
          obtain ⟨c1, c2, fz, R5, T5⟩ := FW.out
          clear FW
          generalize v3.setCell ⟨lb, 0, none⟩ (.int .i64 (M : Int)) = w5 at *
          generalize putAt f4 8 p.length (co p) = f5 at *
          have RS : Rd w5 (.slice (some ⟨g, 0, none⟩) M L) (hdS A E p) := by rw [← HH.out]; exact R5.partS (by omega) (by omega) (by omega) (by unfold maxLen; omega)
          have hsl := hdS_length A E p
          have hML' : (M : Int) ≤ (L : Int) := by omega
          have s5 := T5.size
          go_wp2_with fail
          refine (csum_any RS (by omega)).mono ?_
          rintro e' w6 ⟨rfl, b6⟩
          have R6 := R5.later b6
          have d1 := (b6.cell (p := ⟨lb, 0, none⟩) (show lb < w5.heap.size by omega)).trans c1
          have d2 := (b6.cell (p := ⟨bb, 0, none⟩) (show bb < w5.heap.size by omega)).trans c2
          have dz := (b6.frozen (p := ⟨lb, 0, none⟩) (show lb < w5.heap.size by omega)).trans fz
          have T6 : TurnL [lb, g] w2 w6 := T5.trans (Below.turnL b6 _)
          have s6 := T6.size
          clear RS R5 c1 c2 fz T5 b6 s5
          go_wp2_with fail
          refine (slay_any (n := more 0 (hdS A E p)) rfl d1 d2 dz R6 (by omega) hL5 (by omega) (by omega) n1 n2 n3).mono ?_
          rintro e' w7 ⟨rfl, c1, c2, fz, R7, T7⟩
          replace T7 := T6.trans T7
          have HR : Hid (Rd w7 (.slice (some ⟨g, 0, none⟩) L L) (pkS A E p)) := by
            have e1 : upto (putAt f5 M 4 (co (fo (more 0 (hdS A E p))))) L = pkS A E p := by
              have q1 := P5.put (fo (more 0 (hdS A E p))) (k := M) (n := 4) (by simp [fo_length]; omega) rfl
              rw [q1.upto (by simp [fo_length]; omega)]
              unfold pkS hdS
              simp
            rw [← e1]
            exact R7.rd
          have HB : Hid (Below wo.heap.size wo w7) := B2.trans (T7.below GB B2.size)
          clear d1 d2 dz R6 T6 c1 fz R7 T7 P5 HH
          go_wp2
          go_ret2
          exact ⟨_, rfl, HR.out, HB.out⟩
        · go_simp
          refine hK.out _ _ ?_ (fun hHeld => ?_)
          · assumption
          clear hK K
          try simp only [List.getElem_toArray, List.getElem_cons_succ, List.getElem_cons_zero, Act.put, List.setIfInBounds_toArray, List.set_cons_zero, List.set_cons_succ]
          refine wpAnyH_take (i := 3) (v := ?_) rfl (by kernel_rfl) (by kernel_rfl) (by kernel_rfl) (fun _ _ _ h => h) (Or.inl ⟨by rfl, ?_⟩) (by assumption) ?_
          rotate_left
          · intro w hSw; (try dsimp only at hSw); go_simp; try with_reducible rfl
          try simp only [List.getElem_toArray, List.getElem_cons_succ, List.getElem_cons_zero, Act.put, List.setIfInBounds_toArray, List.set_cons_zero, List.set_cons_succ]
          refine wpAnyH_ready (rs := [0, 5]) (by kernel_rfl) (by simp) ?_
          refine AllReadyH.cons rfl (fun K hK => ?_) (AllReadyH.cons rfl (fun K hK => ?_) AllReadyH.nil)
          · go_simp
            refine hK.out _ _ ?_ (fun hHeld => ?_)
            · assumption
            clear hK K
            try simp only [List.getElem_toArray, List.getElem_cons_succ, List.getElem_cons_zero, Act.put, List.setIfInBounds_toArray, List.set_cons_zero, List.set_cons_succ]
            refine wpAnyH_ready (rs := [5]) (by kernel_rfl) (by simp) ?_
            refine AllReadyH.cons rfl (fun K hK => ?_) AllReadyH.nil
            refine step_copy_rd rfl (.tmp 40) (.tmp 41) 36 36 rfl 5 Tryz.underlying36 info1_u8s rfl rfl RD rfl hdl RA (by omega) ?_
            intro v3 O3 R3
            have c1v := (O3.cell (p := ⟨lb, 0, none⟩) n1).trans c1
            have c2v := (O3.cell (p := ⟨bb, 0, none⟩) n2).trans c2
            have fzv := (O3.frozen (p := ⟨lb, 0, none⟩) n1).trans fz
            have FW := FIN v3 O3 R3
            clear FIN RD RA
            refine hK.out _ _ ?_ (fun hHeld => ?_)
            · exact c2v
            clear hK K
            try simp only [List.getElem_toArray, List.getElem_cons_succ, List.getElem_cons_zero, Act.put, List.setIfInBounds_toArray, List.set_cons_zero, List.set_cons_succ]
            refine wpAnyH_take (i := 6) (v := ?_) rfl (by kernel_rfl) (by kernel_rfl) (by kernel_rfl) (fun _ _ _ h => h) (Or.inl ⟨by rfl, ?_⟩) (by assumption) ?_
            rotate_left
            · intro w hSw; (try dsimp only at hSw); go_simp; try with_reducible rfl
            try simp only [List.getElem_toArray, List.getElem_cons_succ, List.getElem_cons_zero, Act.put, List.setIfInBounds_toArray, List.set_cons_zero, List.set_cons_succ]
            refine wpAnyH_ready (rs := [7]) (by kernel_rfl) (by simp) ?_
            refine AllReadyH.cons rfl (fun K hK => ?_) AllReadyH.nil
            go_simp
            refine hK.out _ _ ?_ (fun hHeld => ?_)
            · exact (((Only.refl lb v3).setCell 0 _).cell (p := ⟨bb, 0, none⟩) n3.symm).trans c2v
            clear hK K
            try simp only [List.getElem_toArray, List.getElem_cons_succ, List.getElem_cons_zero, Act.put, List.setIfInBounds_toArray, List.set_cons_zero, List.set_cons_succ]
            refine wpAnyH_done (by kernel_rfl) ?_ _
            try simp only [List.getElem_toArray, List.getElem_cons_succ, List.getElem_cons_zero, Act.put, List.setIfInBounds_toArray, List.set_cons_zero, List.set_cons_succ]
            clear c1v c2v fzv hHeld c1 c2 fz O3 R3
            obtain ⟨c1, c2, fz, R5, T5⟩ := FW.out
            clear FW
            generalize v3.setCell ⟨lb, 0, none⟩ (.int .i64 (M : Int)) = w5 at *
            generalize putAt f4 8 p.length (co p) = f5 at *
            have RS : Rd w5 (.slice (some ⟨g, 0, none⟩) M L) (hdS A E p) := by rw [← HH.out]; exact R5.partS (by omega) (by omega) (by omega) (by unfold maxLen; omega)
            have hsl := hdS_length A E p
            have hML' : (M : Int) ≤ (L : Int) := by omega
            have s5 := T5.size
            go_wp2_with fail
            refine (csum_any RS (by omega)).mono ?_
            rintro e' w6 ⟨rfl, b6⟩
            have R6 := R5.later b6
            have d1 := (b6.cell (p := ⟨lb, 0, none⟩) (show lb < w5.heap.size by omega)).trans c1
            have d2 := (b6.cell (p := ⟨bb, 0, none⟩) (show bb < w5.heap.size by omega)).trans c2
            have dz := (b6.frozen (p := ⟨lb, 0, none⟩) (show lb < w5.heap.size by omega)).trans fz
            have T6 : TurnL [lb, g] w2 w6 := T5.trans (Below.turnL b6 _)
            have s6 := T6.size
            clear RS R5 c1 c2 fz T5 b6 s5
            go_wp2_with fail
            refine (slay_any (n := more 0 (hdS A E p)) rfl d1 d2 dz R6 (by omega) hL5 (by omega) (by omega) n1 n2 n3).mono ?_
            rintro e' w7 ⟨rfl, c1, c2, fz, R7, T7⟩
            replace T7 := T6.trans T7
            have HR : Hid (Rd w7 (.slice (some ⟨g, 0, none⟩) L L) (pkS A E p)) := by
              have e1 : upto (putAt f5 M 4 (co (fo (more 0 (hdS A E p))))) L = pkS A E p := by
                have q1 := P5.put (fo (more 0 (hdS A E p))) (k := M) (n := 4) (by simp [fo_length]; omega) rfl
                rw [q1.upto (by simp [fo_length]; omega)]
                unfold pkS hdS
                simp
              rw [← e1]
              exact R7.rd
            have HB : Hid (Below wo.heap.size wo w7) := B2.trans (T7.below GB B2.size)
            clear d1 d2 dz R6 T6 c1 fz R7 T7 P5 HH
            go_wp2
            go_ret2
            exact ⟨_, rfl, HR.out, HB.out⟩
          · refine step_copy_rd rfl (.tmp 40) (.tmp 41) 36 36 rfl 5 Tryz.underlying36 info1_u8s rfl rfl RD rfl hdl RA (by omega) ?_
            intro v3 O3 R3
            have c1v := (O3.cell (p := ⟨lb, 0, none⟩) n1).trans c1
            have c2v := (O3.cell (p := ⟨bb, 0, none⟩) n2).trans c2
            have fzv := (O3.frozen (p := ⟨lb, 0, none⟩) n1).trans fz
            have FW := FIN v3 O3 R3
            clear FIN RD RA
            refine hK.out _ _ ?_ (fun hHeld => ?_)
            · exact c2v
            clear hK K
            try simp only [List.getElem_toArray, List.getElem_cons_succ, List.getElem_cons_zero, Act.put, List.setIfInBounds_toArray, List.set_cons_zero, List.set_cons_succ]
            refine wpAnyH_ready (rs := [0]) (by kernel_rfl) (by simp) ?_
            refine AllReadyH.cons rfl (fun K hK => ?_) AllReadyH.nil
            go_simp
            refine hK.out _ _ ?_ (fun hHeld => ?_)
            · assumption
            clear hK K
            try simp only [List.getElem_toArray, List.getElem_cons_succ, List.getElem_cons_zero, Act.put, List.setIfInBounds_toArray, List.set_cons_zero, List.set_cons_succ]
            refine wpAnyH_take (i := 6) (v := ?_) rfl (by kernel_rfl) (by kernel_rfl) (by kernel_rfl) (fun _ _ _ h => h) (Or.inl ⟨by rfl, ?_⟩) (by assumption) ?_
            rotate_left
            · intro w hSw; (try dsimp only at hSw); go_simp; try with_reducible rfl
            try simp only [List.getElem_toArray, List.getElem_cons_succ, List.getElem_cons_zero, Act.put, List.setIfInBounds_toArray, List.set_cons_zero, List.set_cons_succ]
            refine wpAnyH_ready (rs := [7]) (by kernel_rfl) (by simp) ?_
            refine AllReadyH.cons rfl (fun K hK => ?_) AllReadyH.nil
            go_simp
            refine hK.out _ _ ?_ (fun hHeld => ?_)
            · exact (((Only.refl lb v3).setCell 0 _).cell (p := ⟨bb, 0, none⟩) n3.symm).trans c2v
            clear hK K
            try simp only [List.getElem_toArray, List.getElem_cons_succ, List.getElem_cons_zero, Act.put, List.setIfInBounds_toArray, List.set_cons_zero, List.set_cons_succ]
            refine wpAnyH_done (by kernel_rfl) ?_ _
            try simp only [List.getElem_toArray, List.getElem_cons_succ, List.getElem_cons_zero, Act.put, List.setIfInBounds_toArray, List.set_cons_zero, List.set_cons_succ]
            clear c1v c2v fzv hHeld c1 c2 fz O3 R3
            obtain ⟨c1, c2, fz, R5, T5⟩ := FW.out
            clear FW
            generalize v3.setCell ⟨lb, 0, none⟩ (.int .i64 (M : Int)) = w5 at *
            generalize putAt f4 8 p.length (co p) = f5 at *
            have RS : Rd w5 (.slice (some ⟨g, 0, none⟩) M L) (hdS A E p) := by rw [← HH.out]; exact R5.partS (by omega) (by omega) (by omega) (by unfold maxLen; omega)
            have hsl := hdS_length A E p
            have hML' : (M : Int) ≤ (L : Int) := by omega
            have s5 := T5.size
            go_wp2_with fail
            refine (csum_any RS (by omega)).mono ?_
            rintro e' w6 ⟨rfl, b6⟩
            have R6 := R5.later b6
            have d1 := (b6.cell (p := ⟨lb, 0, none⟩) (show lb < w5.heap.size by omega)).trans c1
            have d2 := (b6.cell (p := ⟨bb, 0, none⟩) (show bb < w5.heap.size by omega)).trans c2
            have dz := (b6.frozen (p := ⟨lb, 0, none⟩) (show lb < w5.heap.size by omega)).trans fz
            have T6 : TurnL [lb, g] w2 w6 := T5.trans (Below.turnL b6 _)
            have s6 := T6.size
            clear RS R5 c1 c2 fz T5 b6 s5
            go_wp2_with fail
            refine (slay_any (n := more 0 (hdS A E p)) rfl d1 d2 dz R6 (by omega) hL5 (by omega) (by omega) n1 n2 n3).mono ?_
            rintro e' w7 ⟨rfl, c1, c2, fz, R7, T7⟩
            replace T7 := T6.trans T7
            have HR : Hid (Rd w7 (.slice (some ⟨g, 0, none⟩) L L) (pkS A E p)) := by
              have e1 : upto (putAt f5 M 4 (co (fo (more 0 (hdS A E p))))) L = pkS A E p := by
                have q1 := P5.put (fo (more 0 (hdS A E p))) (k := M) (n := 4) (by simp [fo_length]; omega) rfl
                rw [q1.upto (by simp [fo_length]; omega)]
                unfold pkS hdS
                simp
              rw [← e1]
              exact R7.rd
            have HB : Hid (Below wo.heap.size wo w7) := B2.trans (T7.below GB B2.size)
            clear d1 d2 dz R6 T6 c1 fz R7 T7 P5 HH
            go_wp2
            go_ret2
            exact ⟨_, rfl, HR.out, HB.out⟩
  -- REGION END
      · rw [(pa_not (fun h => hl h.2.2)).1, (pa_not (fun h => hl h.2.2)).2]
        have hl' : (p.length : Int) > 4096 := by omega
        go_enter Tryz.func85, Tryz.ntmps85
        go_wp2_with fail
        refine smay_any.mono ?_
        rintro e' w' ⟨rfl, rfl⟩
        rw [da]
        go_wp2_with fail
        refine smay_any.mono ?_
        rintro e' w' ⟨rfl, rfl⟩
        rw [de]
        go_wp2
        go_ret2
        exact ⟨_, rfl, rd_nil0, Below.refl _ _⟩
    · have de : decide (0 ≤ e ∧ e ≤ 2147483647) = false := decide_eq_false he
      rw [(pa_not (fun h => he h.2.1)).1, (pa_not (fun h => he h.2.1)).2]
      go_enter Tryz.func85, Tryz.ntmps85
      go_wp2_with fail
      refine smay_any.mono ?_
      rintro e' w' ⟨rfl, rfl⟩
      rw [da]
      go_wp2_with fail
      refine smay_any.mono ?_
      rintro e' w' ⟨rfl, rfl⟩
      rw [de]
      go_wp2
      go_ret2
      exact ⟨_, rfl, rd_nil0, Below.refl _ _⟩
  · have da : decide (0 ≤ a ∧ a ≤ 2147483647) = false := decide_eq_false ha
    rw [(pa_not (fun h => ha h.1)).1, (pa_not (fun h => ha h.1)).2]
    go_enter Tryz.func85, Tryz.ntmps85
    go_wp2_with fail
    refine smay_any.mono ?_
    rintro e' w' ⟨rfl, rfl⟩
    rw [da]
    go_wp2
    go_ret2
    exact ⟨_, rfl, rd_nil0, Below.refl _ _⟩
end Go.Proofs.YtddnfhfangfgeaaGreat.Gf

namespace Go.Proofs.YtddnfhfangfgeaaGreat.Gf
set_option linter.unusedVariables false
set_option linter.unusedSimpArgs false
open Go.RowKit
/-- .. in new memory -/
def MakesUF (w : World) (N : Nat) (D : List UInt8) (X : Int) (e : Ending) (w' : World) : Prop := ∃ v, e = .returned (.tuple #[.int .i64 (N : Int), v, .int .i64 X]) ∧ Rd w' v D ∧ FarV w v ∧ Below w.heap.size w w'
/-- a part of bytes -/
theorem Rd.cutS {w : World} {b off n c : Nat} {p : List UInt8} (h : Rd w (.slice (some ⟨b, off, none⟩) n c) p) {i m c' : Nat} (hm : i + m ≤ p.length) (hi : 0 < p.length) (hc : c' = c - i) : Rd w (.slice (some ⟨b, off + i, none⟩) m c') ((p.drop i).take m) := by
  rcases h with ⟨a, c0, e, _⟩ | ⟨b', off', c0, h1, h2, h3, h4, h5, h6⟩
  · subst e; simp at hi
  · simp at h2
    obtain ⟨⟨rfl, rfl⟩, rfl, rfl⟩ := h2
    subst hc
    have hl : ((p.drop i).take m).length = m := by rw [List.length_take, List.length_drop]; omega
    by_cases h0 : m = 0
    · subst h0
      exact Or.inl ⟨_, _, rfl, rfl, by omega, fun e => by cases e⟩
    · refine Or.inr ⟨b, off + i, c - i, fun e => by rw [e] at hl; simp at hl; omega, by rw [hl], by rw [hl]; omega, by omega, h5, fun j hj => ?_⟩
      rw [hl] at hj
      rw [co_take hj, co_drop0, Nat.add_assoc]
      exact h6 (i + j) (by omega)
set_option maxRecDepth 100000 in
set_option maxHeartbeats 4000000 in
theorem sunpack_far {a : Int} {v : Value} {p : List UInt8} {w : World} (hp : Rd w v p) (hl : p.length ≤ 100000) : Calls Tryz.prog 163 #[.int .i64 a, v] w (MakesUF w (upN a p) (upD a p) (upX a p)) := by
  by_cases h12 : 12 ≤ p.length
  · rcases hp.form with ⟨va, vc, rfl⟩
    rcases hp with ⟨a', c', rfl, _⟩ | ⟨b, o, c', hp0, e0, h1, h2, h3, hpc⟩
    · simp at h12
    simp at e0
    obtain ⟨rfl, rfl⟩ := e0
    have hp : Rd w (.slice (some ⟨b, o, none⟩) p.length vc) p := Or.inr ⟨b, o, vc, hp0, rfl, h1, h2, h3, hpc⟩
    clear hpc hp0
    have hlt : ¬ (p.length : Int) < 12 := by omega
    obtain ⟨n4, hn4⟩ : ∃ n4, Hid (n4 = p.length - 4) := ⟨_, rfl⟩
    have hn5 : n4 + 4 = p.length := by have := hn4.out; omega
    have g0 : (p.length : Int) - 4 = (n4 : Int) := by omega
    have gw : IntKind.i64.wrap (n4 : Int) = (n4 : Int) := by rw [IntKind.wrap_i64]; omega
    have g1 : (n4 : Int) ≤ (p.length : Int) := by omega
    have g2 : (8 : Int) ≤ (n4 : Int) := by omega
    have g3 : 8 ≤ n4 := by omega
    have g4 : n4 ≤ vc := by omega
    have g5 : (n4 : Int) ≤ (vc : Int) := by omega
    have g6 : ¬ vc = 8 := by omega
    have hda : Rd w (.slice (some ⟨b, o + 8, none⟩) (n4 - 8) (vc - 8)) (daS p) := hp.cutS (i := 8) (m := n4 - 8) (by omega) (by omega) rfl |> (by rw [show daS p = (p.drop 8).take (n4 - 8) by unfold daS; congr 1; omega]; exact ·)
    have hdl := daS_length p
    by_cases hk : OkSe a ((epS p : Nat) : Int) (daS p).length
    · have px := pa_ok hk
      rw [Int.toNat_natCast] at px
      have hpk : (pkS a.toNat (epS p) (daS p)).length = p.length := by rw [pk_length]; omega
      by_cases hs : pkS a.toNat (epS p) (daS p) = p
      · have hu : OkUe a p := ⟨h12, hk, hs⟩
        rw [(up_ok hu).1, (up_ok hu).2.1, (up_ok hu).2.2]
        have ds : sameB (pkS a.toNat (epS p) (daS p)) p = true := decide_eq_true hs
        clear hs hu
        go_enter Tryz.func163, Tryz.ntmps163
        go_wp2_with fail
        refine (snum_any hp h12).mono ?_
        rintro e' w' ⟨rfl, rfl⟩
        go_wp2_with fail
        obtain ⟨wo, hwo⟩ : ∃ wo, wo = w' := ⟨_, rfl⟩
        subst hwo
        refine (spack_any hda).mono ?_
        rintro e' w1 ⟨v1, rfl, R1, B1⟩
        rw [px.1]
        rw [px.2] at R1
        obtain ⟨a1, c1, rfl⟩ := R1.form
        rw [hpk] at R1 ⊢
        replace hp := hp.below B1
        replace hda := hda.below B1
        go_wp2_with fail
        refine (beq_any R1 hp).mono ?_
        rintro e' w2 ⟨rfl, rfl⟩
        rw [ds]
        go_wp2_with fail
        obtain ⟨w1, hw1⟩ : ∃ w1, w1 = w2 := ⟨_, rfl⟩
        subst hw1
        have hn8 : n4 - 8 = (daS p).length := by omega
        rw [hn8] at hda ⊢
        refine (sclone_any hda (by omega)).mono ?_
        rintro e' w3 ⟨v3, rfl, R3, V3, B3⟩
        have HV : Hid (FarV wo v3) := fun x n c e => (V3 x n c e).imp id fun q => Nat.le_trans B1.size q
        have HB : Hid (Below wo.heap.size wo w3) := Below.step B1 B3
        clear R1 hp hda B1 B3 V3
        go_wp2
        go_ret3
        exact ⟨_, rfl, R3, HV.out, HB.out⟩
      · have hn : ¬ OkUe a p := fun h => hs h.2.2
        rw [(up_not hn).1, (up_not hn).2.1, (up_not hn).2.2]
        have ds : sameB (pkS a.toNat (epS p) (daS p)) p = false := decide_eq_false hs
        go_enter Tryz.func163, Tryz.ntmps163
        go_wp2_with fail
        refine (snum_any hp h12).mono ?_
        rintro e' w' ⟨rfl, rfl⟩
        go_wp2_with fail
        obtain ⟨wo, hwo⟩ : ∃ wo, wo = w' := ⟨_, rfl⟩
        subst hwo
        refine (spack_any hda).mono ?_
        rintro e' w1 ⟨v1, rfl, R1, B1⟩
        rw [px.1]
        rw [px.2] at R1
        obtain ⟨a1, c1, rfl⟩ := R1.form
        rw [hpk] at R1 ⊢
        replace hp := hp.below B1
        have HB : Hid (Below wo.heap.size wo w1) := B1
        clear hda B1
        go_wp2_with fail
        refine (beq_any R1 hp).mono ?_
        rintro e' w2 ⟨rfl, rfl⟩
        rw [ds]
        clear R1 hp
        go_wp2
        go_ret3
        exact ⟨_, rfl, rd_nil0, FarV.nil _ _ _, HB.out⟩
    · have px := pa_not hk
      have hn : ¬ OkUe a p := fun h => hk h.2.1
      rw [(up_not hn).1, (up_not hn).2.1, (up_not hn).2.2]
      go_enter Tryz.func163, Tryz.ntmps163
      go_wp2_with fail
      refine (snum_any hp h12).mono ?_
      rintro e' w' ⟨rfl, rfl⟩
      go_wp2_with fail
      obtain ⟨wo, hwo⟩ : ∃ wo, wo = w' := ⟨_, rfl⟩
      subst hwo
      refine (spack_any hda).mono ?_
      rintro e' w1 ⟨v1, rfl, R1, B1⟩
      rw [px.1]
      have HB : Hid (Below wo.heap.size wo w1) := B1
      clear hda B1 R1 hp
      go_wp2
      go_ret3
      exact ⟨_, rfl, rd_nil0, FarV.nil _ _ _, HB.out⟩
  · have hn : ¬ OkUe a p := fun h => h12 h.1
    rw [(up_not hn).1, (up_not hn).2.1, (up_not hn).2.2]
    obtain ⟨va, vc, rfl⟩ := hp.form
    have hlt : (p.length : Int) < 12 := by omega
    go_enter Tryz.func163, Tryz.ntmps163
    go_wp2
    go_ret3
    exact ⟨_, rfl, rd_nil0, FarV.nil _ _ _, Below.refl _ _⟩
end Go.Proofs.YtddnfhfangfgeaaGreat.Gf

namespace Go.Proofs.YtddnfhfangfgeaaGreat.Gf
set_option linter.unusedVariables false
set_option linter.unusedSimpArgs false
open Go.RowKit
open Go.ChangeShapes
theorem rdI_row2 {w : World} {a : Option Addr} {len cap : Nat} {zs : List Int}
    (h : (a = none ∧ len = 0 ∧ cap = 0 ∧ zs = []) ∨ ∃ x, a = some x ∧ len ≤ cap ∧ cap ≤ maxLen ∧ zs.length = cap ∧ (∀ i, i < zs.length → w.cell? (x.add i) = some (.int .i64 (zs.getD i 0))) ∧ ∀ n ∈ zs, (Lit.int .i64 n).wf = true) :
    ∃ p : List Int, RdI w (.slice a len cap) p ∧ ∀ z ∈ p, (Lit.int .i64 z).wf = true := by
  rcases h with ⟨rfl, rfl, rfl, rfl⟩ | ⟨x, rfl, hl, hm, hz, hcell, hwz⟩
  · exact ⟨[], Or.inl ⟨none, 0, rfl, rfl⟩, by simp⟩
  · have hlen : (zs.take len).length = len := by rw [List.length_take]; omega
    refine ⟨zs.take len, ?_, fun z hz1 => hwz z (List.mem_of_mem_take hz1)⟩
    by_cases h0 : len = 0
    · subst h0
      exact Or.inl ⟨_, cap, by simp, rfl⟩
    · obtain ⟨b, off, spot⟩ := x
      have hc := hcell 0 (by omega)
      have hspot : spot = none := by simpa [Addr.add] using World.cell?_spot hc
      subst hspot
      have hbw : b < w.heap.size := by
        have e : w.cell? ⟨b, off, none⟩ = some (.int .i64 (zs.getD 0 0)) := by simpa [Addr.add] using hc
        unfold World.cell? at e
        by_cases hb : b < w.heap.size
        · exact hb
        · rw [Array.getElem?_eq_none (by show w.heap.size ≤ b; omega)] at e; cases e
      refine Or.inr ⟨b, off, cap, fun h => by rw [h] at hlen; simp at hlen; omega, by rw [hlen], by rw [hlen]; omega, hbw, fun i hi => ?_⟩
      rw [hlen] at hi
      have e1 := hcell i (by omega)
      rw [add_at] at e1
      rw [e1]
      simp [List.getD, List.getElem?_take_of_lt hi]
end Go.Proofs.YtddnfhfangfgeaaGreat.Gf

namespace Go.Proofs.YtddnfhfangfgeaaGreat.Gf
set_option linter.unusedVariables false
set_option linter.unusedSimpArgs false
open Go.RowKit
/-- a disk: its sectors, what lasts, what waits, whether it is dead -/
structure DkS where
  s : Nat
  last : Int → Option (List UInt8)
  wait : Int → Option (List UInt8)
  dead : Bool
def noneI : Int → Option (List UInt8) := fun _ => none
def InS (s : Nat) (f : Int → Option (List UInt8)) : Prop := ∀ x b, f x = some b → 0 ≤ x ∧ x < (s : Int) ∧ 1 ≤ b.length ∧ b.length ≤ 4108
structure DkS.Ok (d : DkS) : Prop where
  s1 : 1 ≤ d.s
  s2 : d.s ≤ 4096
  il : InS d.s d.last
  iw : InS d.s d.wait
  dl : d.dead = true → d.last = noneI
  dw : d.dead = true → d.wait = noneI
def putB (f : Int → Option (List UInt8)) (x : Int) (b : List UInt8) : Int → Option (List UInt8) := fun y => if y = x then some b else f y
theorem InS.put {s : Nat} {f : Int → Option (List UInt8)} (h : InS s f) {x : Int} {b : List UInt8} (h0 : 0 ≤ x) (h1 : x < (s : Int)) (h2 : 1 ≤ b.length) (h3 : b.length ≤ 4108) : InS s (putB f x b) := by
  intro y c e
  unfold putB at e
  by_cases hy : y = x
  · rw [if_pos hy] at e
    simp at e
    subst e hy
    exact ⟨h0, h1, h2, h3⟩
  · rw [if_neg hy] at e
    exact h y c e
theorem InS.none (s : Nat) : InS s noneI := fun x b e => by cases e
def newD (s : Nat) : DkS := ⟨s, noneI, noneI, false⟩
theorem newD_ok {s : Nat} (h1 : 1 ≤ s) (h2 : s ≤ 4096) : (newD s).Ok := ⟨h1, h2, InS.none _, InS.none _, (fun h => by cases h), (fun h => by cases h)⟩
/-- why a sector is not read or written -/
def faX (d : DkS) (a : Int) : Int := if d.dead = true then 120 else if 0 ≤ a ∧ a < (d.s : Int) then 0 else 121
theorem faX_dead {d : DkS} (h : d.dead = true) (a : Int) : faX d a = 120 := if_pos h
theorem faX_out {d : DkS} (h : d.dead = false) {a : Int} (ha : ¬ (0 ≤ a ∧ a < (d.s : Int))) : faX d a = 121 := by unfold faX; rw [if_neg (by rw [h]; decide), if_neg ha]
theorem faX_ok {d : DkS} (h : d.dead = false) {a : Int} (ha : 0 ≤ a ∧ a < (d.s : Int)) : faX d a = 0 := by unfold faX; rw [if_neg (by rw [h]; decide), if_pos ha]
theorem faX_zero {d : DkS} {a : Int} (h : faX d a = 0) : d.dead = false ∧ 0 ≤ a ∧ a < (d.s : Int) := by
  unfold faX at h
  by_cases h1 : d.dead = true
  · rw [if_pos h1] at h; cases h
  · rw [if_neg h1] at h
    by_cases h2 : 0 ≤ a ∧ a < (d.s : Int)
    · exact ⟨by simpa using h1, h2⟩
    · rw [if_neg h2] at h; cases h
def OkB (b : List UInt8) : Prop := 1 ≤ b.length ∧ b.length ≤ 4108
instance (b : List UInt8) : Decidable (OkB b) := inferInstanceAs (Decidable (_ ∧ _))
def wrX (d : DkS) (a : Int) (b : List UInt8) : Int := if faX d a = 0 then (if OkB b then 0 else 1) else faX d a
def wrS (d : DkS) (a : Int) (b : List UInt8) : DkS := if faX d a = 0 ∧ OkB b then { d with wait := putB d.wait a b } else d
def atD (d : DkS) (a : Int) : Option (List UInt8) := match d.wait a with | some b => some b | none => d.last a
def rdB (d : DkS) (a : Int) : List UInt8 := if faX d a = 0 then (atD d a).getD [] else []
def faS (d : DkS) : DkS := ⟨d.s, noneI, noneI, true⟩
def reS (d : DkS) : DkS := ⟨d.s, noneI, noneI, false⟩
/-- the place of a byte -/
def atN (at_ : Int) (n : Nat) : Nat := (if at_ < 0 then (-(at_ + 1)).toNat else at_.toNat) % n
def chB (b : List UInt8) (at_ : Int) (y : UInt8) : List UInt8 := b.set (atN at_ b.length) (co b (atN at_ b.length) ^^^ y)
theorem chB_length (b : List UInt8) (at_ : Int) (y : UInt8) : (chB b at_ y).length = b.length := List.length_set
def coX (d : DkS) (a : Int) : Int := if faX d a = 0 then (if atD d a = none then 1 else 0) else faX d a
def coS (d : DkS) (a at_ : Int) (y : UInt8) : DkS := if faX d a = 0 then (match d.wait a with | some b => { d with wait := putB d.wait a (chB b at_ y) } | none => match d.last a with | some b => { d with last := putB d.last a (chB b at_ y) } | none => d) else d
theorem wrS_ok {d : DkS} (h : d.Ok) (a : Int) (b : List UInt8) : (wrS d a b).Ok := by
  unfold wrS
  by_cases hc : faX d a = 0 ∧ OkB b
  · rw [if_pos hc]
    have h2 := faX_zero hc.1
    refine ⟨h.s1, h.s2, h.il, h.iw.put h2.2.1 h2.2.2 hc.2.1 hc.2.2, h.dl, fun hd => ?_⟩
    have hd' : d.dead = true := hd
    rw [h2.1] at hd'
    cases hd'
  · rw [if_neg hc]; exact h
theorem faS_ok {d : DkS} (h : d.Ok) : (faS d).Ok := ⟨h.s1, h.s2, InS.none _, InS.none _, fun _ => rfl, fun _ => rfl⟩
theorem reS_ok {d : DkS} (h : d.Ok) : (reS d).Ok := ⟨h.s1, h.s2, InS.none _, InS.none _, (fun h => by cases h), (fun h => by cases h)⟩
theorem coS_ok {d : DkS} (h : d.Ok) (a at_ : Int) (y : UInt8) : (coS d a at_ y).Ok := by
  unfold coS
  by_cases hc : faX d a = 0
  · rw [if_pos hc]
    have h2 := faX_zero hc
    have nd : ∀ {e : DkS}, e.dead = d.dead → e.dead = true → False := fun he ht => by rw [he, h2.1] at ht; cases ht
    cases hw : d.wait a with
    | some b =>
      have h3 := h.iw a b hw
      exact ⟨h.s1, h.s2, h.il, h.iw.put h2.2.1 h2.2.2 (by rw [chB_length]; exact h3.2.2.1) (by rw [chB_length]; exact h3.2.2.2), h.dl, fun hd => (nd (e := d) rfl hd).elim⟩
    | none =>
      cases hl : d.last a with
      | some b =>
        have h3 := h.il a b hl
        exact ⟨h.s1, h.s2, h.il.put h2.2.1 h2.2.2 (by rw [chB_length]; exact h3.2.2.1) (by rw [chB_length]; exact h3.2.2.2), h.iw, fun hd => (nd (e := d) rfl hd).elim, h.dw⟩
      | none => exact h
  · rw [if_neg hc]; exact h
/-- what is held, by its place -/
def heldL (f : Int → Option (List UInt8)) (s : Nat) : List (Int × List UInt8) := (List.range s).filterMap fun i : Nat => (f (i : Int)).map fun b => ((i : Int), b)
theorem heldL_succ (f : Int → Option (List UInt8)) (s : Nat) : heldL f (s + 1) = heldL f s ++ (match f (s : Int) with | some b => [((s : Int), b)] | none => []) := by
  unfold heldL
  rw [List.range_succ, List.filterMap_append]
  congr 1
  cases h : f (s : Int) <;> simp [h]
theorem wrS_s (d : DkS) (a : Int) (b : List UInt8) : (wrS d a b).s = d.s := by unfold wrS; split <;> rfl
theorem coS_s (d : DkS) (a at_ : Int) (y : UInt8) : (coS d a at_ y).s = d.s := by
  unfold coS
  split
  · split
    · rfl
    · split <;> rfl
  · rfl
end Go.Proofs.YtddnfhfangfgeaaGreat.Gf

namespace Go.Proofs.YtddnfhfangfgeaaGreat.Gf
set_option linter.unusedVariables false
set_option linter.unusedSimpArgs false
open Go.RowKit
open Go.Maps (Keyed)
open Go.ChangeMaps Go.MapKept
/-- a side of a disk: what waits (true), or what lasts -/
def sideD (d : DkS) (q : Bool) : Int → Option (List UInt8) := if q = true then d.wait else d.last
def setD (d : DkS) (q : Bool) (f : Int → Option (List UInt8)) : DkS := if q = true then { d with wait := f } else { d with last := f }
theorem setD_s (d : DkS) (q : Bool) (f : Int → Option (List UInt8)) : (setD d q f).s = d.s := by cases q <;> rfl
theorem setD_dead (d : DkS) (q : Bool) (f : Int → Option (List UInt8)) : (setD d q f).dead = d.dead := by cases q <;> rfl
theorem side_set (d : DkS) (q : Bool) (f : Int → Option (List UInt8)) : sideD (setD d q f) q = f := by cases q <;> rfl
theorem side_other (d : DkS) {q r : Bool} (h : r ≠ q) (f : Int → Option (List UInt8)) : sideD (setD d q f) r = sideD d r := by cases q <;> cases r <;> first | rfl | exact absurd rfl h
def valI (f : Int → Option (List UInt8)) (B C : Int → Nat) (x : Int) : Option Value := (f x).map fun p => .slice (some ⟨B x, 0, none⟩) p.length (C x)
def updQ (B : Bool → Int → Nat) (q : Bool) (a : Int) (g : Nat) : Bool → Int → Nat := fun r x => if r = q ∧ x = a then g else B r x
theorem updQ_at (B : Bool → Int → Nat) (q : Bool) (a : Int) (g : Nat) : updQ B q a g q a = g := if_pos ⟨rfl, rfl⟩
theorem updQ_ne (B : Bool → Int → Nat) {q r : Bool} {a x : Int} (h : ¬ (r = q ∧ x = a)) (g : Nat) : updQ B q a g r x = B r x := if_neg h
theorem valI_put (f : Int → Option (List UInt8)) (B C : Bool → Int → Nat) (q : Bool) (a : Int) (g c : Nat) (p : List UInt8) (x : Int) :
    valI (putB f a p) (updQ B q a g q) (updQ C q a c q) x = putI (valI f (B q) (C q)) a (.slice (some ⟨g, 0, none⟩) p.length c) x := by
  unfold valI putB putI
  by_cases h : x = a
  · subst h
    rw [if_pos rfl, if_pos rfl, updQ_at, updQ_at]
    rfl
  · rw [if_neg h, if_neg h, updQ_ne B (fun e => h e.2), updQ_ne C (fun e => h e.2)]
structure DkM (w : World) (db : Nat) (mb : Bool → Nat) (B C : Bool → Int → Nat) (G : Nat → Prop) (d : DkS) : Prop where
  c0 : w.cell? ⟨db, 0, none⟩ = some (.int .i64 (d.s : Int))
  c1 : w.cell? ⟨db, 1, none⟩ = some (.bool d.dead)
  c2 : w.cell? ⟨db, 2, none⟩ = some (.map (some (mb false)))
  c3 : w.cell? ⟨db, 3, none⟩ = some (.map (some (mb true)))
  fz : w.frozen? ⟨db, 1, none⟩ = false
  mp : ∀ q, MapI Tryz.prog 3 w (mb q) d.s (valI (sideD d q) (B q) (C q))
  row : ∀ q x p, sideD d q x = some p → w.ownsRow 0 5 1 (.slice (some ⟨B q x, 0, none⟩) p.length (C q x)) p.length (p.map vb)
  gd : G db
  gm : ∀ q, G (mb q)
  gb : ∀ q x p, sideD d q x = some p → G (B q x)
  lt : ∀ k, G k → k < w.heap.size
  lw : mb false ≠ mb true
  ins : ∀ q, InS d.s (sideD d q)
  s1 : 1 ≤ d.s
  s2 : d.s ≤ 4096
def InjD (d : DkS) (B : Bool → Int → Nat) : Prop := ∀ q x p r y p', sideD d q x = some p → sideD d r y = some p' → B q x = B r y → q = r ∧ x = y
def DkIn (w : World) (db : Nat) (mb : Bool → Nat) (B C : Bool → Int → Nat) (G : Nat → Prop) (d : DkS) : Prop := DkM w db mb B C G d ∧ InjD d B ∧ d.Ok
def DiskAt (w : World) (db : Nat) (G : Nat → Prop) (d : DkS) : Prop := ∃ mb B C, DkIn w db mb B C G d
theorem keyed_int : Keyed Tryz.prog 3 := Maps.int_keyed (q := .i64) (by kernel_rfl)
theorem under_map : Tryz.prog.underlying 119 = some (.map 3 36) := by kernel_rfl
theorem zero_bytes (w : World) : (zeroValue 36).run Tryz.prog w = .ok (.slice none 0 0) w := by kernel_rfl
theorem key_int {x : Int} (h : (Lit.int .i64 x).wf = true) : keyOf Tryz.prog 3 (.int .i64 x) = some (.int .i64 x) := by
  have : Tryz.prog.underlying 3 = some (.int .i64) := by kernel_rfl
  simp [keyOf, this, mapKey, h]
theorem MapI.isMap {P : Program} {K b S : Nat} {w : World} {f : Int → Option Value} (h : MapI P K w b S f) : ∃ es clock, w.heap[b]? = some (.map es clock) := by
  obtain ⟨D, ⟨es, clock, hb, _⟩, _⟩ := h
  exact ⟨es, clock, hb⟩
theorem MapI.noCell {P : Program} {K b S : Nat} {w : World} {f : Int → Option Value} (h : MapI P K w b S f) (o : Nat) : w.cell? ⟨b, o, none⟩ = none := by
  obtain ⟨es, clock, hb⟩ := h.isMap
  unfold World.cell?
  rw [hb]
theorem row_cells {w : World} {e g n c : Nat} {xs : List Value} (h : w.ownsRow 0 e 1 (.slice (some ⟨g, 0, none⟩) n c) n xs) : ∃ cur, w.heap[g]? = some (.cells cur e (0, 0)) := by
  obtain ⟨h0, h | ⟨g', cap, cur, hv, hg, hh, r⟩⟩ := h
  · simp at h
  · simp at hv
    obtain ⟨rfl, _⟩ := hv
    exact ⟨cur, hh⟩
section
variable {w w' : World} {db : Nat} {mb : Bool → Nat} {B C : Bool → Int → Nat} {G : Nat → Prop} {d : DkS}
theorem DkM.db_ne (h : DkM w db mb B C G d) (q : Bool) : db ≠ mb q := fun e => by
  have h1 := (h.mp q).noCell 0
  rw [← e, h.c0] at h1
  cases h1
theorem DkM.row_ne (h : DkM w db mb B C G d) {q : Bool} {x : Int} {p : List UInt8} (hp : sideD d q x = some p) (r : Bool) : B q x ≠ mb r := fun e => by
  obtain ⟨cur, h1⟩ := row_cells (h.row q x p hp)
  obtain ⟨es, clock, h2⟩ := (h.mp r).isMap
  rw [e, h2] at h1
  cases h1
theorem DkM.row_db (h : DkM w db mb B C G d) {q : Bool} {x : Int} {p : List UInt8} (hp : sideD d q x = some p) : B q x ≠ db := fun e => by
  have h1 := Rd.owned (h.row q x p hp)
  have h2 := h.ins q x p hp
  rcases h1 with ⟨_, _, h3, _⟩ | ⟨b, off, cap, h3, h4, _, _, _, h5⟩
  · rw [h3] at h2; simp at h2
  · have h6 := h5 0 (by omega)
    simp at h4
    obtain ⟨⟨rfl, rfl⟩, _⟩ := h4
    rw [e, Nat.add_zero, h.c0] at h6
    simp at h6
theorem DkM.mb_ne (h : DkM w db mb B C G d) {q r : Bool} (e : q ≠ r) : mb q ≠ mb r := by
  have := h.lw
  cases q <;> cases r <;> first | exact absurd rfl e | assumption | exact Ne.symm this
/-- blocks of the disk that have not turned -/
theorem DkM.keep (h : DkM w db mb B C G d) (hk : ∀ k, G k → w'.heap[k]? = w.heap[k]?) (hs : w.heap.size ≤ w'.heap.size) : DkM w' db mb B C G d where
  c0 := (World.cell?_of_block (w := w) (hk db h.gd)).trans h.c0
  c1 := (World.cell?_of_block (w := w) (hk db h.gd)).trans h.c1
  c2 := (World.cell?_of_block (w := w) (hk db h.gd)).trans h.c2
  c3 := (World.cell?_of_block (w := w) (hk db h.gd)).trans h.c3
  fz := (World.frozen?_of_block (w := w) (hk db h.gd)).trans h.fz
  mp := fun q => (h.mp q).of_block (hk _ (h.gm q))
  row := fun q x p hp => owns_block (h.row q x p hp) (fun g hg => by
    cases hg
    exact hk _ (h.gb q x p hp))
  gd := h.gd
  gm := h.gm
  gb := h.gb
  lt := fun k hk => Nat.lt_of_lt_of_le (h.lt k hk) hs
  lw := h.lw
  ins := h.ins
  s1 := h.s1
  s2 := h.s2
theorem DkM.below (h : DkM w db mb B C G d) (hb : Below w.heap.size w w') : DkM w' db mb B C G d := h.keep (fun k hk => hb.block k (h.lt k hk)) hb.size
theorem DiskAt.below (h : DiskAt w db G d) (hb : Below w.heap.size w w') : DiskAt w' db G d := by
  obtain ⟨mb, B, C, h1, h2, h3⟩ := h
  exact ⟨mb, B, C, h1.below hb, h2, h3⟩
theorem DiskAt.keep (h : DiskAt w db G d) (hk : ∀ k, G k → w'.heap[k]? = w.heap[k]?) (hs : w.heap.size ≤ w'.heap.size) : DiskAt w' db G d := by
  obtain ⟨mb, B, C, h1, h2, h3⟩ := h
  exact ⟨mb, B, C, h1.keep hk hs, h2, h3⟩
theorem DiskAt.ok (h : DiskAt w db G d) : d.Ok := by
  obtain ⟨mb, B, C, h1, h2, h3⟩ := h
  exact h3
theorem DiskAt.lt (h : DiskAt w db G d) : ∀ k, G k → k < w.heap.size := by
  obtain ⟨mb, B, C, h1, h2, h3⟩ := h
  exact h1.lt
theorem mapTurned_os {b : Nat} (h : w.mapTurned w' b) : w'.os = w.os ∧ w'.tape = w.tape ∧ w'.output = w.output ∧ w'.heap.size = w.heap.size := by
  obtain ⟨es, clock, es', clock', hb, rfl⟩ := h
  refine ⟨rfl, rfl, rfl, ?_⟩
  simp [setBlock]
theorem mapTurned_turnG {b : Nat} (h : w.mapTurned w' b) (hg : G b) : TurnG G w w' := by
  obtain ⟨h1, h2, h3, h4⟩ := mapTurned_os h
  exact ⟨h1, h2, h3, by rw [h4]; exact Nat.le_refl _, fun k _ hk => mapTurned_block h (fun e => hk (by rw [e]; exact hg))⟩
/-- a map of the disk has turned; its other parts stand -/
theorem DkM.turned (h : DkM w db mb B C G d) {q : Bool} (ht : w.mapTurned w' (mb q)) {B' C' : Bool → Int → Nat} {f : Int → Option (List UInt8)} (G' : Nat → Prop) (hG : ∀ k, G k → G' k) (hlt : ∀ k, G' k → k < w.heap.size)
    (hm : MapI Tryz.prog 3 w' (mb q) d.s (valI f (B' q) (C' q))) (hB : ∀ r, r ≠ q → ∀ x, B' r x = B r x) (hC : ∀ r, r ≠ q → ∀ x, C' r x = C r x) (hf : InS d.s f)
    (hr : ∀ x p, f x = some p → G' (B' q x) ∧ w.ownsRow 0 5 1 (.slice (some ⟨B' q x, 0, none⟩) p.length (C' q x)) p.length (p.map vb)) : DkM w' db mb B' C' G' (setD d q f) := by
  have hb : ∀ k, k ≠ mb q → w'.heap[k]? = w.heap[k]? := fun k hk => mapTurned_block ht hk
  have hs := (mapTurned_os ht).2.2.2
  have hdb := hb db (h.db_ne q)
  have hne : ∀ {g n c : Nat} {xs : List Value}, w.ownsRow 0 5 1 (.slice (some ⟨g, 0, none⟩) n c) n xs → g ≠ mb q := fun ho e => by
    obtain ⟨cur, h1⟩ := row_cells ho
    obtain ⟨es, clock, h2⟩ := (h.mp q).isMap
    rw [e, h2] at h1
    cases h1
  have rr : ∀ r x p, sideD (setD d q f) r x = some p → G' (B' r x) ∧ w.ownsRow 0 5 1 (.slice (some ⟨B' r x, 0, none⟩) p.length (C' r x)) p.length (p.map vb) := by
    intro r x p hp
    by_cases e : r = q
    · subst e
      rw [side_set] at hp
      exact hr x p hp
    · rw [side_other d e] at hp
      rw [hB r e, hC r e]
      exact ⟨hG _ (h.gb r x p hp), h.row r x p hp⟩
  refine ⟨?_, ?_, ?_, ?_, ?_, fun r => ?_, fun r x p hp => ?_, hG _ h.gd, fun r => hG _ (h.gm r), fun r x p hp => (rr r x p hp).1, fun k hk => by rw [hs]; exact hlt k hk, h.lw, fun r => ?_, ?_, ?_⟩
  · rw [setD_s]; exact (World.cell?_of_block (w := w) hdb).trans h.c0
  · rw [setD_dead]; exact (World.cell?_of_block (w := w) hdb).trans h.c1
  · exact (World.cell?_of_block (w := w) hdb).trans h.c2
  · exact (World.cell?_of_block (w := w) hdb).trans h.c3
  · exact (World.frozen?_of_block (w := w) hdb).trans h.fz
  · rw [setD_s]
    by_cases e : r = q
    · subst e
      rw [side_set]
      exact hm
    · rw [side_other d e, show B' r = B r from funext (hB r e), show C' r = C r from funext (hC r e)]
      exact (h.mp r).of_block (hb _ (h.mb_ne e))
  · have h1 := (rr r x p hp).2
    exact owns_block h1 (fun g hg => by
      cases hg
      exact hb _ (hne h1))
  · rw [setD_s]
    by_cases e : r = q
    · subst e; rw [side_set]; exact hf
    · rw [side_other d e]; exact h.ins r
  · rw [setD_s]; exact h.s1
  · rw [setD_s]; exact h.s2
/-- 'm[a] = bytes' -/
theorem DkM.put (h : DkM w db mb B C G d) (q : Bool) {a : Int} {p : List UInt8} {g c : Nat} (ha : (Lit.int .i64 a).wf = true) (h0 : 0 ≤ a) (h1 : a < (d.s : Int)) (hp : 1 ≤ p.length ∧ p.length ≤ 4108) (hr : w.ownsRow 0 5 1 (.slice (some ⟨g, 0, none⟩) p.length c) p.length (p.map vb)) :
    ∃ w', (Instr.mapUpdate 119 (.map (some (mb q))) (.int .i64 a) (.slice (some ⟨g, 0, none⟩) p.length c)).run Tryz.prog w = .ok () w' ∧ w.mapTurned w' (mb q) ∧ DkM w' db mb (updQ B q a g) (updQ C q a c) (fun k => G k ∨ k = g) (setD d q (putB (sideD d q) a p)) := by
  have hs2 := h.s2
  obtain ⟨w', hrun, hm, ht⟩ := (h.mp q).store keyed_int under_map (by unfold maxLen; omega) (key_int ha) h0 h1 (.slice (some ⟨g, 0, none⟩) p.length c)
  refine ⟨w', hrun, ht, h.turned ht _ (fun k => Or.inl) (fun k hk => ?_) (hm.congr fun x => (valI_put _ B C q a g c p x).symm) (fun r e x => updQ_ne B (fun h => e h.1) g) (fun r e x => updQ_ne C (fun h => e h.1) c) ((h.ins q).put h0 h1 hp.1 hp.2) (fun x p' hx => ?_)⟩
  · rcases hk with hk | rfl
    · exact h.lt k hk
    · exact (owns_at hr).2
  · unfold putB at hx
    by_cases e : x = a
    · subst e
      rw [if_pos rfl] at hx
      cases hx
      rw [updQ_at, updQ_at]
      exact ⟨Or.inr rfl, hr⟩
    · rw [if_neg e] at hx
      rw [updQ_ne B (fun h => e h.2), updQ_ne C (fun h => e h.2)]
      exact ⟨Or.inl (h.gb q x p' hx), h.row q x p' hx⟩
/-- 'clear(m)' -/
theorem DkM.clear (h : DkM w db mb B C G d) (q : Bool) (ty : TypeId) :
    ∃ w', (Builtin.clear_ #[119] ty #[.map (some (mb q))]).run Tryz.prog w = .ok (.tuple #[]) w' ∧ w.mapTurned w' (mb q) ∧ DkM w' db mb B C G (setD d q noneI) := by
  obtain ⟨w', hrun, hm, ht⟩ := (h.mp q).clear under_map ty
  exact ⟨w', hrun, ht, h.turned ht G (fun k => id) h.lt (hm.congr fun x => rfl) (fun r e x => rfl) (fun r e x => rfl) (InS.none _) (fun x p' hx => by cases hx)⟩
/-- 'v, ok := m[a]' -/
theorem DkM.look_ok (h : DkM w db mb B C G d) (q : Bool) {a : Int} (ha : (Lit.int .i64 a).wf = true) :
    (Instr.lookup 119 (.map (some (mb q))) (.int .i64 a) true).run Tryz.prog w = .ok (.tuple #[(valI (sideD d q) (B q) (C q) a).getD (.slice none 0 0), .bool (valI (sideD d q) (B q) (C q) a).isSome]) w :=
  (h.mp q).look_ok keyed_int under_map (zero_bytes w) (key_int ha)
theorem DkM.look (h : DkM w db mb B C G d) (q : Bool) {a : Int} (ha : (Lit.int .i64 a).wf = true) :
    (Instr.lookup 119 (.map (some (mb q))) (.int .i64 a) false).run Tryz.prog w = .ok ((valI (sideD d q) (B q) (C q) a).getD (.slice none 0 0)) w :=
  (h.mp q).look keyed_int under_map (zero_bytes w) (key_int ha)
end
end Go.Proofs.YtddnfhfangfgeaaGreat.Gf

namespace Go.Proofs.YtddnfhfangfgeaaGreat.Gf
set_option linter.unusedVariables false
set_option linter.unusedSimpArgs false
open Go.RowKit
open Go.Maps (Keyed)
theorem dref_any {w : World} {db : Nat} {x : Bool} (c1 : w.cell? ⟨db, 1, none⟩ = some (.bool x)) : Calls Tryz.prog 131 #[.pointer (some ⟨db, 0, none⟩)] w fun e w' => e = .returned (.int .i64 (if x = true then 120 else 0)) ∧ w' = w := by
  cases x
  · go_enter Tryz.func131, Tryz.ntmps131
    go_wp2
    go_ret
    exact ⟨rfl, rfl⟩
  · go_enter Tryz.func131, Tryz.ntmps131
    go_wp2
    go_ret
    exact ⟨rfl, rfl⟩
theorem drat_any {w : World} {db : Nat} {d : DkS} {a : Int} (c0 : w.cell? ⟨db, 0, none⟩ = some (.int .i64 (d.s : Int))) (c1 : w.cell? ⟨db, 1, none⟩ = some (.bool d.dead)) : Calls Tryz.prog 91 #[.pointer (some ⟨db, 0, none⟩), .int .i64 a] w fun e w' => e = .returned (.int .i64 (faX d a)) ∧ w' = w := by
  have K := @dref_any w db d.dead c1
  cases hd : d.dead with
  | true =>
    have e := faX_dead hd a
    rw [hd] at K
    simp only [if_true] at K
    rw [e]
    clear e
    go_enter Tryz.func91, Tryz.ntmps91
    go_wp2_with fail
    refine K.mono ?_
    rintro _ _ ⟨rfl, rfl⟩
    go_wp2
    go_ret
    exact ⟨rfl, rfl⟩
  | false =>
    rw [hd] at K
    simp only [Bool.false_eq_true, if_false] at K
    by_cases h0 : 0 ≤ a
    · have h0' : ¬ a < 0 := by omega
      by_cases h1 : a < (d.s : Int)
      · have e := faX_ok hd ⟨h0, h1⟩
        have h1' : ¬ a ≥ (d.s : Int) := by omega
        rw [e]
        clear e
        go_enter Tryz.func91, Tryz.ntmps91
        go_wp2_with fail
        refine K.mono ?_
        rintro _ _ ⟨rfl, rfl⟩
        go_wp2
        go_ret
        exact ⟨rfl, rfl⟩
      · have e := faX_out hd (a := a) (fun h => h1 h.2)
        have h1' : a ≥ (d.s : Int) := by omega
        rw [e]
        clear e
        go_enter Tryz.func91, Tryz.ntmps91
        go_wp2_with fail
        refine K.mono ?_
        rintro _ _ ⟨rfl, rfl⟩
        go_wp2
        go_ret
        exact ⟨rfl, rfl⟩
    · have e := faX_out hd (a := a) (fun h => h0 h.1)
      have h0' : a < 0 := by omega
      rw [e]
      clear e
      go_enter Tryz.func91, Tryz.ntmps91
      go_wp2_with fail
      refine K.mono ?_
      rintro _ _ ⟨rfl, rfl⟩
      go_wp2
      go_ret
      exact ⟨rfl, rfl⟩
theorem ddead_any {w : World} {db : Nat} {x : Bool} (c1 : w.cell? ⟨db, 1, none⟩ = some (.bool x)) : Calls Tryz.prog 83 #[.pointer (some ⟨db, 0, none⟩)] w fun e w' => e = .returned (.bool x) ∧ w' = w := by
  go_enter Tryz.func83, Tryz.ntmps83
  go_wp2
  go_ret
  exact ⟨rfl, rfl⟩
/-- what Read tells of a place, in the disk's own memory -/
def newV (d : DkS) (B C : Bool → Int → Nat) (a : Int) : Value := match d.wait a with | some p => .slice (some ⟨B true a, 0, none⟩) p.length (C true a) | none => (valI d.last (B false) (C false) a).getD (.slice none 0 0)
section
variable {w : World} {db : Nat} {mb : Bool → Nat} {B C : Bool → Int → Nat} {G : Nat → Prop} {d : DkS}
theorem dnew_any (h : DkM w db mb B C G d) {a : Int} (ha : (Lit.int .i64 a).wf = true) : Calls Tryz.prog 92 #[.pointer (some ⟨db, 0, none⟩), .int .i64 a] w fun e w' => e = .returned (newV d B C a) ∧ w' = w := by
  have c2 := h.c2
  have c3 := h.c3
  have L1 := h.look_ok true ha
  have L2 := h.look false ha
  have e1 : sideD d true = d.wait := rfl
  have e2 : sideD d false = d.last := rfl
  rw [e1] at L1
  rw [e2] at L2
  clear e1 e2
  unfold newV
  cases hw : d.wait a with
  | some p =>
    have e3 : valI d.wait (B true) (C true) a = some (.slice (some ⟨B true a, 0, none⟩) p.length (C true a)) := by unfold valI; rw [hw]; rfl
    rw [e3] at L1
    simp only [Option.getD_some, Option.isSome_some] at L1
    clear e3 hw h ha
    go_enter Tryz.func92, Tryz.ntmps92
    go_wp2
    go_ret
    exact ⟨rfl, rfl⟩
  | none =>
    have e3 : valI d.wait (B true) (C true) a = none := by unfold valI; rw [hw]; rfl
    rw [e3] at L1
    simp only [Option.getD_none, Option.isSome_none] at L1
    clear e3 hw h ha
    obtain ⟨v, hv⟩ : ∃ v, v = (valI d.last (B false) (C false) a).getD (.slice none 0 0) := ⟨_, rfl⟩
    simp only
    rw [← hv] at L2 ⊢
    clear hv
    go_enter Tryz.func92, Tryz.ntmps92
    go_wp2
    go_ret
    exact ⟨rfl, rfl⟩
theorem demp_any (h : DkM w db mb B C G d) {w1 w2 : World}
    (r1 : (Builtin.clear_ #[119] 0 #[.map (some (mb false))]).run Tryz.prog w = .ok (.tuple #[]) w1) (t1 : w.mapTurned w1 (mb false))
    (r2 : (Builtin.clear_ #[119] 0 #[.map (some (mb true))]).run Tryz.prog w1 = .ok (.tuple #[]) w2) :
    Calls Tryz.prog 90 #[.pointer (some ⟨db, 0, none⟩)] w fun e w' => e = .returned (.tuple #[]) ∧ w' = w2 := by
  have c2 := h.c2
  have c3 := h.c3
  have c3b := (World.cell?_of_block (w := w) (a := ⟨db, 3, none⟩) (mapTurned_block t1 (h.db_ne false))).trans h.c3
  clear h t1
  go_enter Tryz.func90, Tryz.ntmps90
  go_wp2
  go_end0
  exact ⟨rfl, rfl⟩
end
end Go.Proofs.YtddnfhfangfgeaaGreat.Gf

namespace Go.Proofs.YtddnfhfangfgeaaGreat.Gf
set_option linter.unusedVariables false
set_option linter.unusedSimpArgs false
open Go.RowKit
open Go.Maps (Keyed)
open Go.ChangeMaps Go.MapKept
section
variable {w w' : World} {db : Nat} {mb : Bool → Nat} {B C : Bool → Int → Nat} {G : Nat → Prop} {d : DkS}
theorem Ok.of_sides {e : DkS} (s1 : 1 ≤ e.s) (s2 : e.s ≤ 4096) (hi : ∀ q, InS e.s (sideD e q)) (hd : e.dead = true → e.last = noneI ∧ e.wait = noneI) : e.Ok :=
  ⟨s1, s2, hi false, hi true, fun h => (hd h).1, fun h => (hd h).2⟩
/-- a sector is written -/
theorem DkIn.write (h : DkIn w db mb B C G d) {a : Int} (ha : (Lit.int .i64 a).wf = true) (hf : faX d a = 0) {p : List UInt8} (hp : OkB p) {g c : Nat} (hr : w.ownsRow 0 5 1 (.slice (some ⟨g, 0, none⟩) p.length c) p.length (p.map vb)) (hg : ¬ G g) :
    ∃ w', (Instr.mapUpdate 119 (.map (some (mb true))) (.int .i64 a) (.slice (some ⟨g, 0, none⟩) p.length c)).run Tryz.prog w = .ok () w' ∧ w.mapTurned w' (mb true) ∧
      DkIn w' db mb (updQ B true a g) (updQ C true a c) (fun k => G k ∨ k = g) (wrS d a p) := by
  obtain ⟨hm, hi, ho⟩ := h
  obtain ⟨f1, f2, f3⟩ := faX_zero hf
  obtain ⟨w1, r1, t1, m1⟩ := hm.put true ha f2 f3 hp hr
  have e : setD d true (putB (sideD d true) a p) = wrS d a p := by unfold wrS; rw [if_pos ⟨hf, hp⟩]; rfl
  rw [e] at m1
  refine ⟨w1, r1, t1, m1, ?_, wrS_ok ho a p⟩
  have key : ∀ q x p1, sideD (wrS d a p) q x = some p1 → (q = true ∧ x = a) ∨ (¬ (q = true ∧ x = a) ∧ sideD d q x = some p1) := by
    intro q x p1 h1
    rw [← e] at h1
    by_cases hq : q = true ∧ x = a
    · exact Or.inl hq
    · refine Or.inr ⟨hq, ?_⟩
      cases q with
      | false => exact h1
      | true =>
        have h1' : putB d.wait a p x = some p1 := h1
        unfold putB at h1'
        rw [if_neg (fun e => hq ⟨rfl, e⟩)] at h1'
        exact h1'
  intro q x p1 r y p2 h1 h2 hB
  rcases key q x p1 h1 with ⟨rfl, rfl⟩ | ⟨k1, k2⟩ <;> rcases key r y p2 h2 with ⟨rfl, rfl⟩ | ⟨l1, l2⟩
  · exact ⟨rfl, rfl⟩
  · rw [updQ_at, updQ_ne B l1] at hB
    exact absurd (hB ▸ hm.gb r y p2 l2) hg
  · rw [updQ_at, updQ_ne B k1] at hB
    exact absurd (hB ▸ hm.gb q x p1 k2) hg
  · rw [updQ_ne B k1, updQ_ne B l1] at hB
    exact hi _ _ _ _ _ _ k2 l2 hB
/-- nothing is left -/
theorem DkM.emptied (h : DkM w db mb B C G d) :
    ∃ w1 w2, (Builtin.clear_ #[119] 0 #[.map (some (mb false))]).run Tryz.prog w = .ok (.tuple #[]) w1 ∧ w.mapTurned w1 (mb false) ∧ (Builtin.clear_ #[119] 0 #[.map (some (mb true))]).run Tryz.prog w1 = .ok (.tuple #[]) w2 ∧ w1.mapTurned w2 (mb true) ∧
      DkIn w2 db mb B C G ⟨d.s, noneI, noneI, d.dead⟩ := by
  obtain ⟨w1, r1, t1, m1⟩ := h.clear false 0
  obtain ⟨w2, r2, t2, m2⟩ := m1.clear true 0
  refine ⟨w1, w2, r1, t1, r2, t2, m2, ?_, ⟨h.s1, h.s2, InS.none _, InS.none _, fun _ => rfl, fun _ => rfl⟩⟩
  intro q x p r y p' h1
  cases q <;> cases h1
/-- the cell that tells whether it is dead -/
theorem DkM.kill (h : DkM w db mb B C G d) (x : Bool) : DkM (w.setCell ⟨db, 1, none⟩ (.bool x)) db mb B C G { d with dead := x } := by
  have hb : ∀ k, k ≠ db → (w.setCell ⟨db, 1, none⟩ (.bool x)).heap[k]? = w.heap[k]? := fun k hk => Below.heap_setCell w ⟨db, 1, none⟩ _ k hk
  have hc1 := h.c1
  have hfz := h.fz
  refine ⟨?_, ?_, ?_, ?_, ?_, fun q => (h.mp q).of_block (hb _ (h.db_ne q).symm), fun q y p hp => owns_block (h.row q y p hp) (fun g hg => by
    cases hg
    exact hb _ (h.row_db hp)), h.gd, h.gm, h.gb, fun k hk => by simpa using h.lt k hk, h.lw, h.ins, h.s1, h.s2⟩
  · rw [← h.c0]; simp [go_sem]
  · simp [go_sem, hc1]
  · rw [← h.c2]; simp [go_sem]
  · rw [← h.c3]; simp [go_sem]
  · simp [go_sem, hfz]
theorem setCell_turnG {b j : Nat} {v : Value} (hg : G b) : TurnG G w (w.setCell ⟨b, j, none⟩ v) := Only.turnG ((Only.refl b w).setCell j v) hg
end
end Go.Proofs.YtddnfhfangfgeaaGreat.Gf

namespace Go.Proofs.YtddnfhfangfgeaaGreat.Gf
set_option linter.unusedVariables false
set_option linter.unusedSimpArgs false
open Go.RowKit
/-- what a call on a disk leaves -/
def Leaves (w : World) (db : Nat) (G : Nat → Prop) (d' : DkS) (x : Value) (e : Ending) (w' : World) : Prop := e = .returned x ∧ ∃ G', DiskAt w' db G' d' ∧ Grew G w G' w'
theorem owns_formD {w : World} {base e n : Nat} {v : Value} {xs : List Value} (h : w.ownsRow base e 1 v n xs) (hn : n ≠ 0) : ∃ g c, v = .slice (some ⟨g, 0, none⟩) n c ∧ base ≤ g ∧ w.ownsRow 0 e 1 (.slice (some ⟨g, 0, none⟩) n c) n xs := by
  obtain ⟨h0, h | ⟨g, cap, cur, hv, hg, hh, r⟩⟩ := h
  · exact absurd h.2 hn
  · exact ⟨g, cap, hv, hg, h0, Or.inr ⟨g, cap, cur, rfl, Nat.zero_le _, hh, r⟩⟩
section
variable {w : World} {db : Nat} {G : Nat → Prop} {d : DkS}
theorem DkIn.below {mb : Bool → Nat} {B C : Bool → Int → Nat} {w' : World} (h : DkIn w db mb B C G d) (hb : Below w.heap.size w w') : DkIn w' db mb B C G d := ⟨h.1.below hb, h.2⟩
set_option maxRecDepth 100000 in
set_option maxHeartbeats 1000000 in
theorem dwrite_any (h : DiskAt w db G d) {a : Int} (ha : (Lit.int .i64 a).wf = true) {v : Value} {p : List UInt8} (hp : Rd w v p) :
    Calls Tryz.prog 109 #[.pointer (some ⟨db, 0, none⟩), .int .i64 a, v] w (Leaves w db G (wrS d a p) (.int .i64 (wrX d a p))) := by
  obtain ⟨mb, B, C, hI⟩ := h
  have hM := hI.1
  have c3 := hM.c3
  have K := @drat_any w db d a hM.c0 hM.c1
  have hpl := hp.len
  obtain ⟨ad, cp, rfl⟩ := hp.form
  have REF : ∀ {x : Int} {w' : World}, wrS d a p = d → w' = w → Hid (∃ G', DiskAt w' db G' (wrS d a p) ∧ Grew G w G' w') := fun e1 e2 => by
    show ∃ G', _
    rw [e1, e2]
    exact ⟨G, ⟨mb, B, C, hI⟩, Grew.refl G w⟩
  by_cases hf : faX d a = 0
  · by_cases hb : OkB p
    · have eX : wrX d a p = 0 := by unfold wrX; rw [if_pos hf, if_pos hb]
      obtain ⟨hb1, hb2⟩ := hb
      have g1 : ¬ p.length = 0 := by omega
      have g2 : ¬ (p.length : Int) = 0 := by omega
      have g3 : ¬ 4108 < (p.length : Int) := by omega
      have q1 : ((p.length : Int) == 0) = false := beq_eq_false_iff_ne.2 g2
      have q3 : decide (4108 < (p.length : Int)) = false := decide_eq_false g3
      obtain ⟨b, off, rfl⟩ : ∃ b off, ad = some ⟨b, off, none⟩ := by
        rcases hp with ⟨_, _, h1, _⟩ | ⟨b, off, cap, _, h2, _⟩
        · rw [h1] at g1; exact absurd rfl g1
        · simp at h2; exact ⟨b, off, h2.1⟩
      have KC := @bclone_own p w ⟨b, off, none⟩ cp hp (by omega)
      rw [eX]
      rw [hf] at K
      go_enter Tryz.func109, Tryz.ntmps109
      go_wp2_with fail
      refine K.mono ?_
      rintro _ wq ⟨rfl, hwq⟩
      rw [hwq]
      clear hwq wq
      go_wp2_with fail
      have c3c : ∀ W, Below w.heap.size w W → W.cell? ⟨db, 3, none⟩ = some (.map (some (mb true))) := fun W hb => (hb.cell (p := ⟨db, 3, none⟩) (hM.lt db hM.gd)).trans c3
      go_region_held3 (fun wx => wx.cell? ⟨db, 3, none⟩ = some (.map (some (mb true)))) (first | exact c3 | assumption | exact c3c _ (by assumption)) (first
        | ((go_at_call 143; go_loud (refine (bclone_own (p := p) (by first | exact hp | exact hp.drewN 1) (by omega)).mono ?_); rintro _ w9 ⟨v9, rfl, R9, B9⟩; have C9 : Below w.heap.size w w9 := ⟨B9.os, B9.tape, B9.output, B9.size, B9.block⟩; obtain ⟨g9, k9, rfl, hg9, O9⟩ := owns_formD R9 g1; have I9 := hI.below C9; obtain ⟨w8, r8, t8, I8⟩ := DkIn.write I9 ha hf ⟨hb1, hb2⟩ O9 (fun e => by have := hM.lt _ e; have h9 : w.heap.size ≤ g9 := hg9; omega); have D8 := I8.1.c3)))
      have FIN : Hid (∃ G', DiskAt w8 db G' (wrS d a p) ∧ Grew G w G' w8) := ⟨_, ⟨mb, _, _, I8⟩, (Below.turnG C9 G).trans (mapTurned_turnG t8 (hM.gm true)), fun k hk => hk.elim Or.inl (fun e => Or.inr (by rw [e]; exact hg9))⟩
      clear I8 t8 r8 I9 O9 hg9 R9 C9 B9 c3c KC K hp hI hM REF c3 D8
      go_wp2
      go_ret
      exact ⟨rfl, FIN.out⟩
    · have eX : wrX d a p = 1 := by unfold wrX; rw [if_pos hf, if_neg hb]
      have F := REF (x := 0) (w' := w) (by unfold wrS; rw [if_neg (fun h => hb h.2)]) rfl
      rw [hf] at K
      rw [eX]
      clear eX REF hI hM c3 hp
      by_cases g1 : p.length = 0
      · have q1 : ((p.length : Int) == 0) = true := by rw [g1]; rfl
        go_enter Tryz.func109, Tryz.ntmps109
        go_wp2_with fail
        refine K.mono ?_
        rintro _ wq ⟨rfl, hwq⟩
        rw [hwq]
        clear hwq wq K
        go_wp2
        go_ret
        exact ⟨rfl, F.out⟩
      · have g3 : 4108 < (p.length : Int) := by have : ¬ (1 ≤ p.length ∧ p.length ≤ 4108) := hb; omega
        have g2 : ¬ (p.length : Int) = 0 := by omega
        have q1 : ((p.length : Int) == 0) = false := beq_eq_false_iff_ne.2 g2
        have q3 : decide (4108 < (p.length : Int)) = true := decide_eq_true g3
        go_enter Tryz.func109, Tryz.ntmps109
        go_wp2_with fail
        refine K.mono ?_
        rintro _ wq ⟨rfl, hwq⟩
        rw [hwq]
        clear hwq wq K
        go_wp2
        go_ret
        exact ⟨rfl, F.out⟩
  · have eX : wrX d a p = faX d a := by unfold wrX; rw [if_neg hf]
    have F := REF (x := 0) (w' := w) (by unfold wrS; rw [if_neg (fun h => hf h.1)]) rfl
    rw [eX]
    obtain ⟨x, hx⟩ : ∃ x, x = faX d a := ⟨_, rfl⟩
    rw [← hx] at hf K ⊢
    clear eX REF hI hM c3 hp hx
    have q1 : (x == 0) = false := beq_eq_false_iff_ne.2 hf
    go_enter Tryz.func109, Tryz.ntmps109
    go_wp2_with fail
    refine K.mono ?_
    rintro _ wq ⟨rfl, hwq⟩
    rw [hwq]
    clear hwq wq K
    go_wp2
    go_ret
    exact ⟨rfl, F.out⟩
end
end Go.Proofs.YtddnfhfangfgeaaGreat.Gf

