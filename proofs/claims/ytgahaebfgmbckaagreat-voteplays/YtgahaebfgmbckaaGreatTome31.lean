/- TEXTS JOINED: VoCE. -/
import Derived.Test.YtgahaebfgmbckaaGreatTome30
namespace Go.Proofs.YtgahaebfgmbckaaGreat.Gf
set_option linter.unusedVariables false
set_option linter.unusedSimpArgs false
open Go.RowKit Go.Shelf
theorem enters_ask1 : Hid (∀ (args : Array Value) (w : World), Sem.run Tryz.prog (callFunc 66 args) w = .ok (.enter 66 args) w) := enters_of Tryz.func66 (by kernel_rfl) rfl
/-- what asking all disks answers -/
def AskP (w : World) (a : ArS) (ad : Int) (e : Ending) (w' : World) : Prop :=
  (a.off = true ∧ ∃ va n c, e = .returned (.tuple #[.slice va n c, .int .i64 130]) ∧ Below w.heap.size w w') ∨ (a.off = false ∧ ∃ g, e = .returned (.tuple #[.slice (some ⟨g, 0, none⟩) a.D.length a.D.length, .int .i64 0]) ∧ RpRow w' g a.D.length (fun i => rpS (sayV a ad i)) ∧ w.heap.size ≤ g ∧ Below w.heap.size w w')
theorem rdAX_off {a : ArS} {i ad : Int} (h : a.off = true) : rdAX a i ad = 130 := if_pos h
theorem ask_step {a : ArS} {ad : Int} {r : Nat} {V : World} {g n : Nat} (hR : RpRow V g n (fun k => if k = r then (if rdAX a (r : Int) ad = 0 then heS ad (rdAB a (r : Int) ad) else (if r < r then rpS (sayV a ad r) else rpN)) else (if k < r then rpS (sayV a ad k) else rpN))) : RpRow V g n (fun k => if k < r + 1 then rpS (sayV a ad k) else rpN) := hR.congr fun k _ => by
  by_cases e : k = r
  · subst e
    rw [if_pos rfl, if_pos (Nat.lt_succ_self k)]
    by_cases q : rdAX a (k : Int) ad = 0
    · rw [if_pos q, rp_hear q]
    · rw [if_neg q, if_neg (by omega), rp_none q]
  · rw [if_neg e]
    by_cases q : k < r
    · rw [if_pos q, if_pos (by omega)]
    · rw [if_neg q, if_neg (by omega)]
set_option maxRecDepth 100000 in
set_option maxHeartbeats 2000000 in
theorem vask_any {w : World} {ab : Nat} {GA : Nat → Prop} {a : ArS} (h : ArAt w ab GA a) {ad : Int} (ha : (Lit.int .i64 ad).wf = true) : Calls Tryz.prog 33 #[.pointer (some ⟨ab, 0, none⟩), .int .i64 ad] w (AskP w a ad) := by
  have d1 := h.ok.d1
  have d2 := h.ok.d2
  have lG := h.lt
  obtain ⟨W1, hW1⟩ : ∃ W1, W1 = (w.alloc (.cells #[.pointer (some ⟨ab, 0, none⟩)] 24)).alloc (.cells #[.int .i64 ad] 3) := ⟨_, rfl⟩
  obtain ⟨B1, c0, c1, z1⟩ : Below w.heap.size w W1 ∧ W1.cell? ⟨w.heap.size, 0, none⟩ = some (.pointer (some ⟨ab, 0, none⟩)) ∧ W1.cell? ⟨w.heap.size + 1, 0, none⟩ = some (.int .i64 ad) ∧ W1.heap.size = w.heap.size + 2 := by
    obtain ⟨u1, hu1⟩ : ∃ u1, u1 = w.alloc (.cells #[.pointer (some ⟨ab, 0, none⟩)] 24) := ⟨_, rfl⟩
    rw [← hu1] at hW1
    have s1 : u1.heap.size = w.heap.size + 1 := by rw [hu1]; simp
    have b1 : Below w.heap.size w u1 := by rw [hu1]; exact belR _ _
    have b2 : Below u1.heap.size u1 W1 := by rw [hW1]; exact belR _ _
    have k1 : u1.cell? ⟨w.heap.size, 0, none⟩ = some (.pointer (some ⟨ab, 0, none⟩)) := by rw [hu1]; exact World.cell?_alloc_new _ _ _ _
    have k2 : W1.cell? ⟨u1.heap.size, 0, none⟩ = some (.int .i64 ad) := by rw [hW1]; exact World.cell?_alloc_new _ _ _ _
    refine ⟨b1.step16 b2 b1.size, (b2.cell (p := ⟨w.heap.size, 0, none⟩) (by show w.heap.size < _; omega)).trans k1, ?_, ?_⟩
    · rw [← s1]; exact k2
    · have : W1.heap.size = u1.heap.size + 1 := by rw [hW1]; simp
      omega
  have KA := vall_any (h.below B1)
  obtain ⟨n, hn⟩ : ∃ n, Hid (n = a.D.length) := ⟨_, rfl⟩
  rw [← hn.out] at d1 d2 KA
  have mk1 := run_make_replies n (by omega)
  have HA : Hid (ArAt w ab GA a) := h
  clear h
  go_enter Tryz.func33, Tryz.ntmps33
  go_wp2_with fail
  rw [← hW1]
  clear hW1
  go_wp2_with fail
  refine KA.mono ?_
  rintro _ u ⟨g0, rfl, r0, s0, bu⟩
  clear KA
  have mk2 := mk1 u
  obtain ⟨u2, hu2⟩ : ∃ u2, u2 = u.alloc (.cells (madeCells #[.bool false, .bool false, .int .i64 0, .string ⟨#[]⟩] (n * 4)) 121) := ⟨_, rfl⟩
  have R2 : RpRow u2 u.heap.size n (fun _ => rpN) := by rw [hu2]; exact RpRow.made u n
  have bu2 : Below u.heap.size u u2 := by rw [hu2]; exact belR _ _
  have z2 : u2.heap.size = u.heap.size + 1 := by rw [hu2]; simp
  obtain ⟨g, hg⟩ : ∃ g, Hid (g = u.heap.size) := ⟨_, rfl⟩
  rw [← hu2, ← hg.out] at mk2
  rw [← hg.out] at R2 z2
  clear mk1 hu2
  obtain ⟨W, hW⟩ : ∃ W, W = u2.alloc (.cells #[.slice (some ⟨g, 0, none⟩) n n] 83) := ⟨_, rfl⟩
  have bW : Below u2.heap.size u2 W := by rw [hW]; exact belR _ _
  have c2 : W.cell? ⟨u2.heap.size, 0, none⟩ = some (.slice (some ⟨g, 0, none⟩) n n) := by rw [hW]; exact World.cell?_alloc_new _ _ _ _
  have zW : W.heap.size = u2.heap.size + 1 := by rw [hW]; simp
  have B2 : Below w.heap.size w W := ((B1.step16 bu B1.size).step16 bu2 (by have := bu.size; omega)).step16 bW (by have := bu.size; have := bu2.size; omega)
  have zu : w.heap.size + 2 ≤ u.heap.size := by have := bu.size; omega
  have bb : Below W1.heap.size W1 W := (bu.step16 bu2 bu.size).step16 bW (by have := bu.size; have := bu2.size; omega)
  replace c0 := (bb.cell (p := ⟨w.heap.size, 0, none⟩) (by show w.heap.size < _; omega)).trans c0
  replace c1 := (bb.cell (p := ⟨w.heap.size + 1, 0, none⟩) (by show w.heap.size + 1 < _; omega)).trans c1
  have gu := hg.out
  have r1 : W.rowIs g0 3 n (fun i => .int .i64 (i : Int)) := r0.of_block ((bu2.step16 bW bu2.size).block g0 r0.lt)
  have RW : RpRow W g n (fun _ => rpN) := R2.below bW
  have lG0 := r0.lt
  have KE := @veach_any 66 (.pointer (some ⟨w.heap.size, 0, none⟩)) (.pointer (some ⟨w.heap.size + 1, 0, none⟩)) (.pointer (some ⟨u2.heap.size, 0, none⟩)) (some ⟨g0, 0, none⟩) n n (zsN (List.range n)) W (by rw [zsN_length, List.length_range]) (by omega) (fun r => rdAX a (r : Int) ad)
    (fun r V => TurnG (fun k => k = g) W V ∧ RpRow V g n (fun k => if k < r then rpS (sayV a ad k) else rpN)) (fun r V => TurnG (fun k => k = g) W V) enters_ask1
    (fun r V ⟨t, _⟩ => row_rdI (by simp) (r1.of_block (t.block g0 r1.lt (by show ¬ g0 = g; omega))) (fun i hi => by simp [List.getD, hi]) (by omega))
    (fun r V hr ⟨t, R⟩ => by
      have ez : (zsN (List.range n)).getD r 0 = (r : Int) := by rw [zsN_getD]; simp [List.getD, hr]
      rw [ez]
      have hA : ArAt V ab GA a := (HA.out.below B2).keep (fun k hk => t.block k (by have := lG k hk; have := B2.size; omega) (by show ¬ k = g; have := lG k hk; omega)) t.size
      refine (vask1_any hA hr (by omega) ha R (b0 := w.heap.size) (b1 := w.heap.size + 1) (b2 := u2.heap.size) (by omega) (by omega) (by omega)
        ((t.cell (p := ⟨w.heap.size, 0, none⟩) (by show w.heap.size < _; omega) (by show ¬ w.heap.size = g; omega)).trans c0) ((t.cell (p := ⟨w.heap.size + 1, 0, none⟩) (by show w.heap.size + 1 < _; omega) (by show ¬ w.heap.size + 1 = g; omega)).trans c1) ((t.cell (p := ⟨u2.heap.size, 0, none⟩) (by show u2.heap.size < _; omega) (by show ¬ u2.heap.size = g; omega)).trans c2)).mono ?_
      rintro _ V2 ⟨rfl, t2, R2⟩
      exact ⟨rfl, fun _ => t.trans t2, fun _ => ⟨t.trans t2, ask_step R2⟩⟩)
    ⟨TurnG.refl _ _, RW.congr fun i _ => by rw [if_neg (by omega)]⟩
  have FIN : Hid (∀ e V, EachP n (fun r => rdAX a (r : Int) ad) (fun r V => TurnG (fun k => k = g) W V ∧ RpRow V g n (fun k => if k < r then rpS (sayV a ad k) else rpN)) (fun r V => TurnG (fun k => k = g) W V) e V → Below w.heap.size w V ∧ V.cell? ⟨u2.heap.size, 0, none⟩ = some (.slice (some ⟨g, 0, none⟩) n n) ∧ ((a.off = true ∧ e = .returned (.tuple #[.int .i64 0, .int .i64 130])) ∨ (a.off = false ∧ ∃ c : Nat, e = .returned (.tuple #[.int .i64 (c : Int), .int .i64 0]) ∧ RpRow V g n (fun i => rpS (sayV a ad i))))) := by
    have key : ∀ V, TurnG (fun k => k = g) W V → Below w.heap.size w V ∧ V.cell? ⟨u2.heap.size, 0, none⟩ = some (.slice (some ⟨g, 0, none⟩) n n) := fun V t => ⟨B2.trans (t.below (B := w.heap.size) (fun k hk => by subst hk; omega) B2.size), (t.cell (p := ⟨u2.heap.size, 0, none⟩) (by show u2.heap.size < _; omega) (by show ¬ u2.heap.size = g; omega)).trans c2⟩
    rintro e V (⟨r, hr, x1, x2, rfl, t⟩ | ⟨x2, rfl, t, R⟩)
    · refine ⟨(key V t).1, (key V t).2, Or.inl ⟨?_, rfl⟩⟩
      cases ho : a.off with
      | true => rfl
      | false => exact absurd x1 (rdAX_up ho)
    · refine ⟨(key V t).1, (key V t).2, Or.inr ⟨?_, _, rfl, R.congr fun i hi => if_pos hi⟩⟩
      cases ho : a.off with
      | false => rfl
      | true => exact absurd (rdAX_off ho) (x2 0 (by omega))
  have gw : Hid (w.heap.size ≤ g) := by show _ ≤ _; omega
  clear c0 c1 c2 bb gu r1 RW R2 bu2 bW z1 z2 zW zu B1 B2 bu r0 s0 lG HA hg lG0
  go_wp2_with fail
  rw [← hW]
  refine KE.mono ?_
  rintro e V hE
  obtain ⟨f1, f2, ⟨f3, rfl⟩ | ⟨f3, c, rfl, f4⟩⟩ := FIN.out e V hE
  · have F : Hid (AskP w a ad (.returned (.tuple #[.slice (some ⟨g, 0, none⟩) n n, .int .i64 130])) V) := Or.inl ⟨f3, _, _, _, rfl, f1⟩
    clear FIN KE hE f1 f3 hW
    go_wp2
    exact bodyPost_ret (v := .tuple #[.slice (some ⟨g, 0, none⟩) n n, .int .i64 130]) (by simp [results, Tryz.results33, go_sem]) rfl F.out
  · have F : Hid (AskP w a ad (.returned (.tuple #[.slice (some ⟨g, 0, none⟩) n n, .int .i64 0])) V) := Or.inr ⟨f3, g, by rw [hn.out], by rw [← hn.out]; exact f4, gw.out, f1⟩
    clear FIN KE hE f1 f3 f4 hW
    go_wp2
    exact bodyPost_ret (v := .tuple #[.slice (some ⟨g, 0, none⟩) n n, .int .i64 0]) (by simp [results, Tryz.results33, go_sem]) rfl F.out
end Go.Proofs.YtgahaebfgmbckaaGreat.Gf
