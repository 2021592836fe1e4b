/- TEXTS JOINED: WdCH, StCQ, StCc. -/
import Derived.Test.YtddnfhfangfgeaaGreatTome4
import Derived.Test.YtddnfhfangfgeaaGreatTome19
import Derived.BigQuiet
import Derived.Deep.OwnRows
import Derived.Test.YtddnfhfangfgeaaGreatTome14
import Derived.Test.YtddnfhfangfgeaaGreatTome3
import Derived.Lib.SliceRun
namespace Go.Proofs.YtddnfhfangfgeaaGreat.Gf
set_option linter.unusedVariables false
set_option linter.unusedSimpArgs false
open Go.RowKit
/-- shards in new memory, places, an error -/
def MakesF10 (w : World) (X : Int) (R : List (List UInt8)) (P : List Nat) (e : Ending) (w' : World) : Prop := ∃ va vd, e = .returned (.tuple #[va, vd, .int .i64 X]) ∧ FarL w' w.heap.size va R ∧ OwnI w' w.heap.size 3 vd P ∧ Below w.heap.size w w'
theorem nilF10 {w w' : World} {x : Int} (b : Below w.heap.size w w') {X : Int} {R : List (List UInt8)} {P : List Nat} (h : X = x ∧ R = [] ∧ P = []) : MakesF10 w X R P (.returned (.tuple #[.slice none 0 0, .slice none 0 0, .int .i64 x])) w' := by
  obtain ⟨rfl, rfl, rfl⟩ := h
  exact ⟨_, _, rfl, FarL.nil _ _, OwnI.nil _ _ _, b⟩
theorem info_bytes10 : (Tryz.prog.info? 36).map (fun i => (i.zero, i.size, i.bytes)) = some (some (.slice none 0 0), 1, 24) := by kernel_rfl
theorem made_owns (w : World) {base e n : Nat} {z : Value} (hb : base ≤ w.heap.size) (hn : n ≤ 1000000) : (w.alloc (.cells (madeCells #[z] n) e)).ownsRow base e 1 (.slice (some ⟨w.heap.size, 0, none⟩) n n) n (List.replicate n z) := by
  have h1 : (madeCells #[z] n).toList = List.replicate n z := toList_madeCells_one _ _
  have h2 : (madeCells #[z] n).size = n := by rw [← Array.length_toList, h1, List.length_replicate]
  exact ⟨by rw [List.length_replicate, Nat.mul_one], .inr ⟨w.heap.size, n, _, rfl, hb, heap_alloc_new w _, Nat.le_refl _, by unfold maxLen; omega, by rw [h2, Nat.mul_one], by rw [h1, Nat.mul_one, List.take_of_length_le (by rw [List.length_replicate]; exact Nat.le_refl _)]⟩⟩
theorem made_owns' (w : World) {base e n g : Nat} {z : Value} (hg : g = w.heap.size) (hb : base ≤ w.heap.size) (hn : n ≤ 1000000) : (w.alloc (.cells (madeCells #[z] n) e)).ownsRow base e 1 (.slice (some ⟨g, 0, none⟩) n n) n (List.replicate n z) := by
  subst hg
  exact made_owns w hb hn
theorem bool_made {w : World} {base e g n : Nat} (h : w.ownsRow base e 1 (.slice (some ⟨g, 0, none⟩) n n) n (List.replicate n (.bool false))) : BoolF w base e g n (fun _ => false) := by
  unfold BoolF
  have e2 : (List.range n).map (fun _ => Value.bool false) = List.replicate n (.bool false) := by
    rw [List.map_const']; simp
  rw [e2]; exact h
set_option maxRecDepth 100000 in
set_option maxHeartbeats 2000000 in
theorem esh_bad {b : Nat} {k m : Int} {vh vl : Value} {hs : List Bool} {L : List (List UInt8)} {w : World} (h : ¬ OkC k m) (hH : RdB w vh hs) (hL : Rs w vl L) : Calls Tryz.prog 94 #[.pointer (some ⟨b, 0, none⟩), .int .i64 k, .int .i64 m, vh, vl] w (MakesF10 w (shX k m hs L) (shR k m hs L) (shP k m hs L)) := by
  have EE : Hid _ := sh_bad (hs := hs) (L := L) h
  obtain ⟨za, zc, rfl⟩ := hH.form
  obtain ⟨ma, mc, rfl⟩ := hL.form
  clear hH hL
  go_enter Tryz.func94, Tryz.ntmps94
  go_wp2_with fail
  go_step3
  go_wp2_with fail
  refine (wts_bad w h).mono ?_
  rintro e w2 ⟨vs, rfl, hR, b2⟩
  obtain ⟨sa, sc, rfl⟩ := hR.form
  clear hR h
  go_wp2
  try rw [Exit.noGoto_ret]
  exact bodyPost_ret (v := .tuple #[.slice none 0 0, .slice none 0 0, .int .i64 50]) (by simp [results, Tryz.results94, go_sem]) rfl (nilF10 b2 EE.out)
set_option maxRecDepth 100000 in
set_option maxHeartbeats 2000000 in
/-- .. where the lengths do not fit -/
theorem esh_lens {b k m s : Nat} {vh vl : Value} {hs : List Bool} {L : List (List UInt8)} {w : World} (hF : FieldAt w b) (h1 : 1 ≤ k) (h2 : k + m ≤ 256) (hH : RdB w vh hs) (hL : Rs w vl L) (hs0 : s = k + m) (hne : hs.length ≠ s ∨ L.length ≠ s) : Calls Tryz.prog 94 #[.pointer (some ⟨b, 0, none⟩), .int .i64 (k : Int), .int .i64 (m : Int), vh, vl] w (MakesF10 w (shX k m hs L) (shR k m hs L) (shP k m hs L)) := by
  have c : OkC (k : Int) (m : Int) := ⟨by omega, by omega, by omega⟩
  have EE : Hid _ := sh_shard (hs := hs) (L := L) c (fun h => by have h1 := h.1; have h2 := h.2.1; rcases hne with e | e <;> omega)
  obtain ⟨za, zc, rfl⟩ := hH.form
  obtain ⟨ma, mc, rfl⟩ := hL.form
  have g1 : (k : Int) + (m : Int) = (s : Int) := by omega
  have gw : IntKind.i64.wrap (s : Int) = (s : Int) := by rw [IntKind.wrap_i64]; omega
  have W1 := wts_ok (w := w) hF h1 h2 rfl rfl
  have hs0' : Hid _ := hs0
  clear hF hs0 hH hL c
  by_cases p1 : hs.length = s
  · have q1 : ((hs.length : Int) != (s : Int)) = false := by simp [p1]
    have p2 : L.length ≠ s := hne.resolve_left (fun h => h p1)
    have q2 : ((L.length : Int) != (s : Int)) = true := by simp; omega
    clear p1 p2 hne
    go_enter Tryz.func94, Tryz.ntmps94
    go_wp2_with fail
    go_step3
    go_wp2_with fail
    refine W1.mono ?_
    rintro e w2 ⟨vs, rfl, hR, b2⟩
    obtain ⟨sa, sc, rfl⟩ := hR.form
    clear hR W1
    go_wp2
    try rw [Exit.noGoto_ret]
    exact bodyPost_ret (v := .tuple #[.slice none 0 0, .slice none 0 0, .int .i64 60]) (by simp [results, Tryz.results94, go_sem]) rfl (nilF10 b2 EE.out)
  · have q1 : ((hs.length : Int) != (s : Int)) = true := by simp; omega
    clear p1 hne
    go_enter Tryz.func94, Tryz.ntmps94
    go_wp2_with fail
    go_step3
    go_wp2_with fail
    refine W1.mono ?_
    rintro e w2 ⟨vs, rfl, hR, b2⟩
    obtain ⟨sa, sc, rfl⟩ := hR.form
    clear hR W1
    go_wp2
    try rw [Exit.noGoto_ret]
    exact bodyPost_ret (v := .tuple #[.slice none 0 0, .slice none 0 0, .int .i64 60]) (by simp [results, Tryz.results94, go_sem]) rfl (nilF10 b2 EE.out)
set_option maxRecDepth 100000 in
set_option maxHeartbeats 4000000 in
theorem esh_main {b k m s : Nat} {vh vl : Value} {hs : List Bool} {L : List (List UInt8)} {w : World} (hF : FieldAt w b) (h1 : 1 ≤ k) (h2 : k + m ≤ 256) (hH : RdB w vh hs) (hL : Rs w vl L) (hs0 : s = k + m) (p1 : hs.length = s) (p2 : L.length = s) (hsm : ∀ i, hb hs i = true → (ro L i).length ≤ 300) : Calls Tryz.prog 94 #[.pointer (some ⟨b, 0, none⟩), .int .i64 (k : Int), .int .i64 (m : Int), vh, vl] w (MakesF10 w (shX k m hs L) (shR k m hs L) (shP k m hs L)) := by
  have c : OkC (k : Int) (m : Int) := ⟨by omega, by omega, by omega⟩
  have HNo : Hid (oneX hs L = -1 → _) := fun h => sh_shard (k := (k : Int)) (m := (m : Int)) (hs := hs) (L := L) c (fun q => q.2.2 h)
  have HMany : Hid (∀ n t : Nat, oneX hs L = (n : Int) → t < n → pX k m hs L t ≠ 0 → _) := fun n t h3 ht hx => sh_many c (by omega) (by omega) h3 ht hx
  have HOk : Hid (∀ n : Nat, oneX hs L = (n : Int) → (∀ t, t < n → pX k m hs L t = 0) → _) := fun n h3 hx => sh_ok c (by omega) (by omega) h3 hx
  have HT : Hid (∀ t, _) := fun t => pX_told (L := L) (t := t) h1 h2 (show hs.length = k + m by omega)
  obtain ⟨za, zc, rfl⟩ := hH.form
  obtain ⟨ma, mc, rfl⟩ := hL.form
  have g1 : (k : Int) + (m : Int) = (s : Int) := by omega
  have gw : IntKind.i64.wrap (s : Int) = (s : Int) := by rw [IntKind.wrap_i64]; omega
  have W1 := wts_ok (w := w) hF h1 h2 rfl rfl
  have hs256 : s ≤ 256 := by omega
  have hs0' : Hid _ := hs0
  have p1' : Hid _ := p1
  have p2' : Hid _ := p2
  have hsm' : Hid _ := hsm
  rw [p1] at hH ⊢
  rw [p2] at hL ⊢
  clear hs0 c p1 p2 hsm
  go_enter Tryz.func94, Tryz.ntmps94
  go_wp2_with fail
  go_step3
  go_wp2_with fail
  refine W1.mono ?_
  rintro e w2 ⟨vs, rfl, hR, b2⟩
  obtain ⟨sa, sc, rfl⟩ := hR.form
  clear W1
  go_wp2_with fail
  refine (eonl_any (hH.below b2) (hL.below b2) (by rw [p1'.out, p2'.out]) (by rw [p1'.out]; omega)).mono ?_
  rintro e w3 ⟨rfl, b3⟩
  have B3 := Below.next b2 b3
  have R3 := hR.below b3
  clear b2 b3 hR
  rcases oneX_cases hs L with e0 | ⟨n, e0, hn, hex⟩
  · have EE : Hid _ := HNo.out e0
    rw [e0]
    clear HNo HMany HOk HT R3 hF hH hL e0
    go_wp2
    try rw [Exit.noGoto_ret]
    exact bodyPost_ret (v := .tuple #[.slice none 0 0, .slice none 0 0, .int .i64 60]) (by simp [results, Tryz.results94, go_sem]) rfl (nilF10 B3 EE.out)
  · have hn300 : n ≤ 300 := by
      obtain ⟨i, hi⟩ := hex
      rw [← hn i hi]
      exact hsm'.out i hi
    have HMany2 : Hid (∀ t, t < n → pX k m hs L t ≠ 0 → _) := fun t => HMany.out n t e0
    have HOk2 : Hid ((∀ t, t < n → pX k m hs L t = 0) → _) := HOk.out n e0
    have hn' : Hid _ := hn
    rw [e0]
    have hn0 : ¬ (n : Int) < 0 := by omega
    clear HNo HMany HOk e0 hn hex
    obtain ⟨WS, hWS⟩ : ∃ WS, Hid (WS = upto (wtF k m) (k + m)) := ⟨_, rfl⟩
    rw [← hWS.out] at R3 ⊢
    go_wp2_with fail
    refine (eopp_any (hH.below B3) (by rw [p1'.out]; omega)).mono ?_
    rintro e w4 ⟨vo, rfl, M4, b4⟩
    obtain ⟨oa, oc, rfl⟩ := M4.form
    have hnl : Hid ((notM hs).length = s) := by show _ = _; rw [notM_length, p1'.out]
    rw [hnl.out] at M4 ⊢
    have B4 := Below.next B3 b4
    have R4 := R3.below b4
    clear R3 b4 B3
    go_wp2_with fail
    refine (erig_any (hF.below B4) R4 M4 (by rw [hnl.out]; omega)).mono ?_
    rintro e w5 ⟨gb, mb, fb, kb, nb, sb, wb, vg, vn, rfl, T5, O5, N5, b5⟩
    rw [hnl.out, hs0'.out] at O5 N5
    have B5 := Below.next B4 b5
    have R5 := R4.below b5
    have M5 := M4.below b5
    clear R4 M4 b5 B4
    have mk1 := run_make_row' (P := Tryz.prog) 106 36 (.slice none 0 0) 24 Tryz.underlying106 info_bytes10 rfl .i64 .i64 s (by omega) (by omega)
    have mk2 := run_make_row' (P := Tryz.prog) 96 4 (.bool false) 1 Tryz.underlying96 info_bool10 rfl .i64 .i64 s (by omega) (by omega)
    go_wp2_with fail
    go_region
    · -- ORDER A
      obtain ⟨G, hG0⟩ : ∃ G, Hid (G = w5.heap.size) := ⟨_, rfl⟩
      obtain ⟨H, hH0⟩ : ∃ H, Hid (H = w5.heap.size + 1) := ⟨_, rfl⟩
      obtain ⟨u6, hu6⟩ : ∃ u6, u6 = ((w5.alloc (.cells (madeCells #[.slice none 0 0] s) 36)).alloc (.cells (madeCells #[.bool false] s) 4)).drew := ⟨_, rfl⟩
      rw [← hu6]
      rw [← hH0.out, ← hG0.out]
      have hGH : G ≠ H := by rw [hG0.out, hH0.out]; omega
      have s6 : u6.heap.size = w5.heap.size + 2 := by rw [hu6]; show (World.alloc _ _).heap.size = _; simp
      have B6 : Below w5.heap.size w5 u6 := by rw [hu6]; exact (below_lit (below_lit (Below.refl _ _) _) _).drew
      have O6 : OsP u6 w5.heap.size 36 5 (.slice (some ⟨G, 0, none⟩) s s) (rowsP k m hs L 0) (fun q => q < w5.heap.size ∨ q = H) := by
        rw [rowsP_zero, ← hs0'.out]
        refine OsP.blank (cs := List.replicate s (.slice none 0 0)) ?_ (fun y hy => List.eq_of_mem_replicate hy) (fun q hq => by have h9 := hG0.out; rcases hq with h | h <;> omega)
        rw [hu6, hG0.out]
        exact World.ownsRow.alloc (made_owns w5 (Nat.le_refl _) (by omega)) _
      have F6 : BoolF u6 w5.heap.size 4 H s (hurtP k m hs L 0) := by
        refine bool_made ?_
        rw [hu6, hH0.out]
        exact made_owns' (w5.alloc (.cells (madeCells #[.slice none 0 0] s) 36)) (by simp) (by simp) (by omega)
      clear hu6
      -- BODY
      have hG5 : w5.heap.size ≤ G ∧ G < w5.heap.size + 2 := by have := hG0.out; omega
      have hH5 : w5.heap.size ≤ H ∧ H < w5.heap.size + 2 := by have := hH0.out; omega
      have s6' : Hid (w5.heap.size + 2 ≤ u6.heap.size) := by show _ ≤ _; omega
      have HA : Hid (∀ W, Below w5.heap.size w5 W → ∀ v t, Rd W v (wdAt hs L (k + m) t) → Calls Tryz.prog 167 #[v, .pointer (some ⟨gb, 0, none⟩), .pointer (some ⟨mb, 0, none⟩), .pointer (some ⟨fb, 0, none⟩), .pointer (some ⟨kb, 0, none⟩), .pointer (some ⟨nb, 0, none⟩), .pointer (some ⟨sb, 0, none⟩), .pointer (some ⟨wb, 0, none⟩)] W (Makes10 W (pX k m hs L t) (pR k m hs L t) (pP k m hs L t))) := fun W h v t r =>
        erig1_any ((hF.below B5).below h) (T5.below h) (owns_later O5 h) (N5.below h) (M5.below h) (by have := R5.below h; rw [hWS.out] at this ⊢; exact this) r h1 h2 (wdAt_length _ _ _ _) (by rw [hnl.out]; exact hs0'.out)
      have HWd : Hid (∀ W, Below w5.heap.size w5 W → ∀ t, t < n → Calls Tryz.prog 137 #[.slice za s zc, .slice ma s mc, .int .i64 (t : Int)] W fun e w' => ∃ v, e = .returned v ∧ Rd w' v (wdAt hs L (k + m) t) ∧ Below W.heap.size W w') := fun W h t ht => by
        have := ewat_any ((hH.below B5).below h) ((hL.below B5).below h) (by rw [p1'.out, p2'.out]) (by rw [p1'.out]; omega) (t := t) (fun i hi => by rw [hn'.out i hi]; exact ht) rfl
        rw [p2'.out, hs0'.out] at this
        rw [hs0'.out]
        exact this
      have HB5 : Hid _ := B5
      clear mk1 mk2 hG0 hH0 s6 hF hH hL T5 O5 N5 M5 R5 B5
      go_wp2_with fail
      go_step3
      go_wp2_with fail
      go_loopw [14, 68] (fun er x wr => ∃ r : Nat, r ≤ n ∧ er = .int .i64 0 ∧ x = .int .i64 (r : Int) ∧ Below w5.heap.size w5 wr ∧ OsP wr w5.heap.size 36 5 (.slice (some ⟨G, 0, none⟩) s s) (rowsP k m hs L r) (fun q => q < w5.heap.size ∨ q = H) ∧ BoolF wr w5.heap.size 4 H s (hurtP k m hs L r) ∧ Hid (∀ t, t < r → pX k m hs L t = 0) ∧ Hid (w5.heap.size + 2 ≤ wr.heap.size)) (fun _ x _ => n - (intOf x).toNat)
      case atStart => exact ⟨0, by omega, rfl, rfl, B6, O6, F6, fun t ht => by omega, s6'⟩
      case round =>
        obtain ⟨r, hr, rfl, rfl, hB, hO, hBo, hX, hsz⟩ := hrel
        clear B6 O6 F6 s6'
        by_cases hlt : r < n
        · have hlt' : (r : Int) < (n : Int) := by omega
          have C1 := HWd.out wr hB r hlt
          go_wp2_with fail
          refine C1.mono ?_
          rintro e w7 ⟨vw, rfl, R7, b7⟩
          have B7 : Below w5.heap.size w5 w7 := Below.next hB b7
          have C2 := HA.out w7 B7 vw r R7
          obtain ⟨va, vc, rfl⟩ := R7.form
          clear C1
          go_wp2_with fail
          refine C2.mono ?_
          rintro e w8 ⟨vx, vd, rfl, R8, O8, b8, f8⟩
          obtain ⟨xa, xc, rfl⟩ := R8.form
          obtain ⟨da, dc, rfl⟩ := O8.form
          have B8 := Below.next B7 b8
          have b78 := Below.next b7 b8
          have F8 := f8.mono b7.size
          have h7s : Hid (wr.heap.size ≤ w7.heap.size) := b7.size
          clear C2 R7 b7 b8 f8 B7
          rcases HT.out r with ⟨e1, e2, e3⟩ | ⟨e1, e2, e3, e4⟩
          · have EE : Hid _ := HMany2.out r hlt (by rw [e1]; decide)
            have HBB : Hid (Below w.heap.size w w8) := Below.next HB5.out B8
            rw [e1]
            clear e1 e2 e3 R8 O8 B8 b78 F8 hO hBo hB hX
            go_wp2
            rw [Exit.noGoto_ret]
            exact bodyPost_ret (v := .tuple #[.slice none 0 0, .slice none 0 0, .int .i64 100]) (by simp [results, Tryz.results94, go_sem]) rfl (nilF10 HBB.out EE.out)
          · have HX : Hid (∀ t, t < r + 1 → pX k m hs L t = 0) := fun t ht => by
              by_cases q : t = r
              · rw [q]; exact e1
              · exact hX.out t (by omega)
            rw [e1]
            have sz8 := b78.size
            have szr := hsz.out
            have O8' : OsP w8 w5.heap.size 36 5 (.slice (some ⟨G, 0, none⟩) s s) (rowsP k m hs L r) (fun q => (q < w5.heap.size ∨ q = H) ∨ (wr.heap.size ≤ q ∧ q < w8.heap.size)) := hO.later b78 (fun q hq => by
              rcases hq with h | h
              · exact Or.inl h
              · exact Or.inr h.1)
            have C3 := elay_any O8' (fun q hq => by rcases hq with (h | h) | h <;> omega) R8 (fun x n' c' e => by
              obtain ⟨bb, off, e9, h9, _⟩ := R8.byte (i := 0) (by rw [e2]; omega)
              subst e9
              simp at e
              have h8 := F8 _ _ _ rfl
              rw [← e.1]
              exact Or.inr ⟨h8, h9⟩) (by rw [e2, hs0'.out]) (by rw [rowsP_length, hs0'.out]) (by omega) (fun i => by
              rcases Nat.lt_or_ge i (k + m) with h | h
              · rw [rowsP_ro h, upto_length]; omega
              · rw [ro_ge (by rw [rowsP_length]; exact h)]; simp) (by omega)
            have hBo8 : BoolF w8 w5.heap.size 4 H s (hurtP k m hs L r) := owns_later hBo b78
            have h77 : wr.heap.size ≤ w7.heap.size := h7s.out
            have E2 : Hid _ := e2
            have E3 : Hid _ := e3
            have E4 : Hid _ := e4
            clear hO hBo hB F8 R8 O8' e1 e2 e3 e4
            go_wp2_with fail
            refine C3.mono ?_
            rintro e w9 ⟨rfl, O9, K9⟩
            have O9' : OsP w9 w5.heap.size 36 5 (.slice (some ⟨G, 0, none⟩) s s) (rowsP k m hs L (r + 1)) (fun q => (q < w5.heap.size ∨ q = H) ∨ (wr.heap.size ≤ q ∧ q < w8.heap.size)) := O9.as (by
              rw [hs0'.out]
              refine ro_ext (by rw [mkL_length, rowsP_length]) fun i hi => ?_
              rw [mkL_length] at hi
              rw [ro_mkL hi]
              exact rowsP_next hi)
            have O9i : OwnI w9 w7.heap.size 3 (.slice da (pP k m hs L r).length dc) (pP k m hs L r) := K9.owns O8 fun q hq => by
              have := World.ownsRow.lt O8 q hq
              exact Or.inr ⟨by omega, this.2⟩
            have B9 : Below w5.heap.size w5 w9 := B8.trans (K9.below fun q hq => Or.inl (Or.inl hq))
            have hBo9 := hBo8.keep K9 (Or.inl (Or.inr rfl))
            have C4 := emark_any (O9i.rd (by have := E4.out; omega)) (by have := E4.out; omega) (by rw [hs0'.out]; exact E3.out) hBo9 (fun b9 off9 m9 c9 e9 => by
              simp at e9
              have h9 := World.ownsRow.lt O9i b9 (by
                obtain ⟨_, ⟨q1, _⟩ | ⟨gq, capq, curq, q1, _⟩⟩ := O9i
                · simp at q1; rw [q1.1] at e9; simp at e9
                · simp at q1; rw [q1.1] at e9; simp at e9; rw [q1.1]; simp [Value.ownBlock]; exact e9.1.1)
              omega)
            have K9s := K9.size
            clear C3 O9 hBo8 O8 K9 B8
            go_wp2_with fail
            refine C4.mono ?_
            rintro e w10 ⟨rfl, ho, hB10⟩
            have HO : Hid (OsP w10 w5.heap.size 36 5 (.slice (some ⟨G, 0, none⟩) s s) (rowsP k m hs L (r + 1)) (fun q => q < w5.heap.size ∨ q = H)) := (O9'.only ho (Or.inl (Or.inr rfl))).less fun q hq => Or.inl hq
            have HBo : Hid (BoolF w10 w5.heap.size 4 H s (hurtP k m hs L (r + 1))) := hB10
            have HB : Hid (Below w5.heap.size w5 w10) := B9.trans (ho.below hH5.1)
            have HS : Hid (w5.heap.size + 2 ≤ w10.heap.size) := by show _ ≤ _; rw [ho.size]; omega
            clear C4 ho hB10 O9' hBo9 O9i B9 b78
            go_wp2
            go_roundw
            case rel => exact ⟨r + 1, by omega, rfl, by go_num, HB.out, HO.out, HBo.out, HX, HS⟩
            case measure => simp [intOf]; omega
        · have hge : ¬ (r : Int) < (n : Int) := by omega
          have er : r = n := by omega
          have EE : Hid _ := HOk2.out (fun t ht => hX.out t (by omega))
          have C1 := epl_any (hBo.rdB (by omega)) (by simp; omega)
          have hl9 : Hid (((List.range s).map (hurtP k m hs L r)).length = s) := by show _ = _; simp
          have hp9 : Hid (plc (hb ((List.range s).map (hurtP k m hs L r))) s = shP (k : Int) (m : Int) hs L) := by
            show _ = _
            rw [EE.out.2.2, er, ← hs0'.out]
            exact List.filter_congr fun i hi => by have := List.mem_range.1 hi; simp [hb, List.getD, this]
          have HR : Hid (FarL wr w.heap.size (.slice (some ⟨G, 0, none⟩) s s) (shR (k : Int) (m : Int) hs L)) := by
            show FarL _ _ _ _
            rw [EE.out.2.1, ← er]
            exact ⟨_, _, hO.os.base HB5.out.size⟩
          have HBr : Hid _ := Below.next HB5.out hB
          clear hO hBo hX er hB
          go_wp2_with fail
          refine C1.mono ?_
          rintro e w7 ⟨vd, rfl, O7, b7⟩
          rw [hl9.out, hp9.out] at O7
          obtain ⟨da, dc, rfl⟩ := O7.form
          have HO : Hid (OwnI w7 w.heap.size 3 (.slice da (shP (k : Int) (m : Int) hs L).length dc) (shP (k : Int) (m : Int) hs L)) := ownsRow_base O7 HBr.out.size
          have HR7 : Hid _ := HR.out.later b7
          have HB7 : Hid _ := Below.next HBr.out b7
          clear C1 O7 b7
          go_wp2
          try rw [Exit.noGoto_ret]
          exact bodyPost_ret (v := .tuple #[.slice (some ⟨G, 0, none⟩) s s, .slice da (shP (k : Int) (m : Int) hs L).length dc, .int .i64 0]) (by simp [results, Tryz.results94, go_sem]) rfl ⟨_, _, by rw [EE.out.1], HR7.out, HO.out, HB7.out⟩
    · -- ORDER B
      obtain ⟨G, hG0⟩ : ∃ G, Hid (G = w5.heap.size + 1) := ⟨_, rfl⟩
      obtain ⟨H, hH0⟩ : ∃ H, Hid (H = w5.heap.size) := ⟨_, rfl⟩
      obtain ⟨u6, hu6⟩ : ∃ u6, u6 = ((w5.alloc (.cells (madeCells #[.bool false] s) 4)).alloc (.cells (madeCells #[.slice none 0 0] s) 36)).drew := ⟨_, rfl⟩
      rw [← hu6]
      rw [← hG0.out, ← hH0.out]
      have hGH : G ≠ H := by rw [hG0.out, hH0.out]; omega
      have s6 : u6.heap.size = w5.heap.size + 2 := by rw [hu6]; show (World.alloc _ _).heap.size = _; simp
      have B6 : Below w5.heap.size w5 u6 := by rw [hu6]; exact (below_lit (below_lit (Below.refl _ _) _) _).drew
      have O6 : OsP u6 w5.heap.size 36 5 (.slice (some ⟨G, 0, none⟩) s s) (rowsP k m hs L 0) (fun q => q < w5.heap.size ∨ q = H) := by
        rw [rowsP_zero, ← hs0'.out]
        refine OsP.blank (cs := List.replicate s (.slice none 0 0)) ?_ (fun y hy => List.eq_of_mem_replicate hy) (fun q hq => by have h9 := hG0.out; rcases hq with h | h <;> omega)
        rw [hu6, hG0.out]
        exact made_owns' (w5.alloc (.cells (madeCells #[.bool false] s) 4)) (by simp) (by simp) (by omega)
      have F6 : BoolF u6 w5.heap.size 4 H s (hurtP k m hs L 0) := by
        refine bool_made ?_
        rw [hu6, hH0.out]
        exact World.ownsRow.alloc (made_owns w5 (Nat.le_refl _) (by omega)) _
      clear hu6
      -- BODY
      have hG5 : w5.heap.size ≤ G ∧ G < w5.heap.size + 2 := by have := hG0.out; omega
      have hH5 : w5.heap.size ≤ H ∧ H < w5.heap.size + 2 := by have := hH0.out; omega
      have s6' : Hid (w5.heap.size + 2 ≤ u6.heap.size) := by show _ ≤ _; omega
      have HA : Hid (∀ W, Below w5.heap.size w5 W → ∀ v t, Rd W v (wdAt hs L (k + m) t) → Calls Tryz.prog 167 #[v, .pointer (some ⟨gb, 0, none⟩), .pointer (some ⟨mb, 0, none⟩), .pointer (some ⟨fb, 0, none⟩), .pointer (some ⟨kb, 0, none⟩), .pointer (some ⟨nb, 0, none⟩), .pointer (some ⟨sb, 0, none⟩), .pointer (some ⟨wb, 0, none⟩)] W (Makes10 W (pX k m hs L t) (pR k m hs L t) (pP k m hs L t))) := fun W h v t r =>
        erig1_any ((hF.below B5).below h) (T5.below h) (owns_later O5 h) (N5.below h) (M5.below h) (by have := R5.below h; rw [hWS.out] at this ⊢; exact this) r h1 h2 (wdAt_length _ _ _ _) (by rw [hnl.out]; exact hs0'.out)
      have HWd : Hid (∀ W, Below w5.heap.size w5 W → ∀ t, t < n → Calls Tryz.prog 137 #[.slice za s zc, .slice ma s mc, .int .i64 (t : Int)] W fun e w' => ∃ v, e = .returned v ∧ Rd w' v (wdAt hs L (k + m) t) ∧ Below W.heap.size W w') := fun W h t ht => by
        have := ewat_any ((hH.below B5).below h) ((hL.below B5).below h) (by rw [p1'.out, p2'.out]) (by rw [p1'.out]; omega) (t := t) (fun i hi => by rw [hn'.out i hi]; exact ht) rfl
        rw [p2'.out, hs0'.out] at this
        rw [hs0'.out]
        exact this
      have HB5 : Hid _ := B5
      clear mk1 mk2 hG0 hH0 s6 hF hH hL T5 O5 N5 M5 R5 B5
      go_wp2_with fail
      go_step3
      go_wp2_with fail
      go_loopw [14, 68] (fun er x wr => ∃ r : Nat, r ≤ n ∧ er = .int .i64 0 ∧ x = .int .i64 (r : Int) ∧ Below w5.heap.size w5 wr ∧ OsP wr w5.heap.size 36 5 (.slice (some ⟨G, 0, none⟩) s s) (rowsP k m hs L r) (fun q => q < w5.heap.size ∨ q = H) ∧ BoolF wr w5.heap.size 4 H s (hurtP k m hs L r) ∧ Hid (∀ t, t < r → pX k m hs L t = 0) ∧ Hid (w5.heap.size + 2 ≤ wr.heap.size)) (fun _ x _ => n - (intOf x).toNat)
      case atStart => exact ⟨0, by omega, rfl, rfl, B6, O6, F6, fun t ht => by omega, s6'⟩
      case round =>
        obtain ⟨r, hr, rfl, rfl, hB, hO, hBo, hX, hsz⟩ := hrel
        clear B6 O6 F6 s6'
        by_cases hlt : r < n
        · have hlt' : (r : Int) < (n : Int) := by omega
          have C1 := HWd.out wr hB r hlt
          go_wp2_with fail
          refine C1.mono ?_
          rintro e w7 ⟨vw, rfl, R7, b7⟩
          have B7 : Below w5.heap.size w5 w7 := Below.next hB b7
          have C2 := HA.out w7 B7 vw r R7
          obtain ⟨va, vc, rfl⟩ := R7.form
          clear C1
          go_wp2_with fail
          refine C2.mono ?_
          rintro e w8 ⟨vx, vd, rfl, R8, O8, b8, f8⟩
          obtain ⟨xa, xc, rfl⟩ := R8.form
          obtain ⟨da, dc, rfl⟩ := O8.form
          have B8 := Below.next B7 b8
          have b78 := Below.next b7 b8
          have F8 := f8.mono b7.size
          have h7s : Hid (wr.heap.size ≤ w7.heap.size) := b7.size
          clear C2 R7 b7 b8 f8 B7
          rcases HT.out r with ⟨e1, e2, e3⟩ | ⟨e1, e2, e3, e4⟩
          · have EE : Hid _ := HMany2.out r hlt (by rw [e1]; decide)
            have HBB : Hid (Below w.heap.size w w8) := Below.next HB5.out B8
            rw [e1]
            clear e1 e2 e3 R8 O8 B8 b78 F8 hO hBo hB hX
            go_wp2
            rw [Exit.noGoto_ret]
            exact bodyPost_ret (v := .tuple #[.slice none 0 0, .slice none 0 0, .int .i64 100]) (by simp [results, Tryz.results94, go_sem]) rfl (nilF10 HBB.out EE.out)
          · have HX : Hid (∀ t, t < r + 1 → pX k m hs L t = 0) := fun t ht => by
              by_cases q : t = r
              · rw [q]; exact e1
              · exact hX.out t (by omega)
            rw [e1]
            have sz8 := b78.size
            have szr := hsz.out
            have O8' : OsP w8 w5.heap.size 36 5 (.slice (some ⟨G, 0, none⟩) s s) (rowsP k m hs L r) (fun q => (q < w5.heap.size ∨ q = H) ∨ (wr.heap.size ≤ q ∧ q < w8.heap.size)) := hO.later b78 (fun q hq => by
              rcases hq with h | h
              · exact Or.inl h
              · exact Or.inr h.1)
            have C3 := elay_any O8' (fun q hq => by rcases hq with (h | h) | h <;> omega) R8 (fun x n' c' e => by
              obtain ⟨bb, off, e9, h9, _⟩ := R8.byte (i := 0) (by rw [e2]; omega)
              subst e9
              simp at e
              have h8 := F8 _ _ _ rfl
              rw [← e.1]
              exact Or.inr ⟨h8, h9⟩) (by rw [e2, hs0'.out]) (by rw [rowsP_length, hs0'.out]) (by omega) (fun i => by
              rcases Nat.lt_or_ge i (k + m) with h | h
              · rw [rowsP_ro h, upto_length]; omega
              · rw [ro_ge (by rw [rowsP_length]; exact h)]; simp) (by omega)
            have hBo8 : BoolF w8 w5.heap.size 4 H s (hurtP k m hs L r) := owns_later hBo b78
            have h77 : wr.heap.size ≤ w7.heap.size := h7s.out
            have E2 : Hid _ := e2
            have E3 : Hid _ := e3
            have E4 : Hid _ := e4
            clear hO hBo hB F8 R8 O8' e1 e2 e3 e4
            go_wp2_with fail
            refine C3.mono ?_
            rintro e w9 ⟨rfl, O9, K9⟩
            have O9' : OsP w9 w5.heap.size 36 5 (.slice (some ⟨G, 0, none⟩) s s) (rowsP k m hs L (r + 1)) (fun q => (q < w5.heap.size ∨ q = H) ∨ (wr.heap.size ≤ q ∧ q < w8.heap.size)) := O9.as (by
              rw [hs0'.out]
              refine ro_ext (by rw [mkL_length, rowsP_length]) fun i hi => ?_
              rw [mkL_length] at hi
              rw [ro_mkL hi]
              exact rowsP_next hi)
            have O9i : OwnI w9 w7.heap.size 3 (.slice da (pP k m hs L r).length dc) (pP k m hs L r) := K9.owns O8 fun q hq => by
              have := World.ownsRow.lt O8 q hq
              exact Or.inr ⟨by omega, this.2⟩
            have B9 : Below w5.heap.size w5 w9 := B8.trans (K9.below fun q hq => Or.inl (Or.inl hq))
            have hBo9 := hBo8.keep K9 (Or.inl (Or.inr rfl))
            have C4 := emark_any (O9i.rd (by have := E4.out; omega)) (by have := E4.out; omega) (by rw [hs0'.out]; exact E3.out) hBo9 (fun b9 off9 m9 c9 e9 => by
              simp at e9
              have h9 := World.ownsRow.lt O9i b9 (by
                obtain ⟨_, ⟨q1, _⟩ | ⟨gq, capq, curq, q1, _⟩⟩ := O9i
                · simp at q1; rw [q1.1] at e9; simp at e9
                · simp at q1; rw [q1.1] at e9; simp at e9; rw [q1.1]; simp [Value.ownBlock]; exact e9.1.1)
              omega)
            have K9s := K9.size
            clear C3 O9 hBo8 O8 K9 B8
            go_wp2_with fail
            refine C4.mono ?_
            rintro e w10 ⟨rfl, ho, hB10⟩
            have HO : Hid (OsP w10 w5.heap.size 36 5 (.slice (some ⟨G, 0, none⟩) s s) (rowsP k m hs L (r + 1)) (fun q => q < w5.heap.size ∨ q = H)) := (O9'.only ho (Or.inl (Or.inr rfl))).less fun q hq => Or.inl hq
            have HBo : Hid (BoolF w10 w5.heap.size 4 H s (hurtP k m hs L (r + 1))) := hB10
            have HB : Hid (Below w5.heap.size w5 w10) := B9.trans (ho.below hH5.1)
            have HS : Hid (w5.heap.size + 2 ≤ w10.heap.size) := by show _ ≤ _; rw [ho.size]; omega
            clear C4 ho hB10 O9' hBo9 O9i B9 b78
            go_wp2
            go_roundw
            case rel => exact ⟨r + 1, by omega, rfl, by go_num, HB.out, HO.out, HBo.out, HX, HS⟩
            case measure => simp [intOf]; omega
        · have hge : ¬ (r : Int) < (n : Int) := by omega
          have er : r = n := by omega
          have EE : Hid _ := HOk2.out (fun t ht => hX.out t (by omega))
          have C1 := epl_any (hBo.rdB (by omega)) (by simp; omega)
          have hl9 : Hid (((List.range s).map (hurtP k m hs L r)).length = s) := by show _ = _; simp
          have hp9 : Hid (plc (hb ((List.range s).map (hurtP k m hs L r))) s = shP (k : Int) (m : Int) hs L) := by
            show _ = _
            rw [EE.out.2.2, er, ← hs0'.out]
            exact List.filter_congr fun i hi => by have := List.mem_range.1 hi; simp [hb, List.getD, this]
          have HR : Hid (FarL wr w.heap.size (.slice (some ⟨G, 0, none⟩) s s) (shR (k : Int) (m : Int) hs L)) := by
            show FarL _ _ _ _
            rw [EE.out.2.1, ← er]
            exact ⟨_, _, hO.os.base HB5.out.size⟩
          have HBr : Hid _ := Below.next HB5.out hB
          clear hO hBo hX er hB
          go_wp2_with fail
          refine C1.mono ?_
          rintro e w7 ⟨vd, rfl, O7, b7⟩
          rw [hl9.out, hp9.out] at O7
          obtain ⟨da, dc, rfl⟩ := O7.form
          have HO : Hid (OwnI w7 w.heap.size 3 (.slice da (shP (k : Int) (m : Int) hs L).length dc) (shP (k : Int) (m : Int) hs L)) := ownsRow_base O7 HBr.out.size
          have HR7 : Hid _ := HR.out.later b7
          have HB7 : Hid _ := Below.next HBr.out b7
          clear C1 O7 b7
          go_wp2
          try rw [Exit.noGoto_ret]
          exact bodyPost_ret (v := .tuple #[.slice (some ⟨G, 0, none⟩) s s, .slice da (shP (k : Int) (m : Int) hs L).length dc, .int .i64 0]) (by simp [results, Tryz.results94, go_sem]) rfl ⟨_, _, by rw [EE.out.1], HR7.out, HO.out, HB7.out⟩
theorem esh_far {b : Nat} {k m : Int} {vh vl : Value} {hs : List Bool} {L : List (List UInt8)} {w : World} (hF : FieldAt w b) (hH : RdB w vh hs) (hL : Rs w vl L) (hsm : ∀ i, hb hs i = true → (ro L i).length ≤ 300) : Calls Tryz.prog 94 #[.pointer (some ⟨b, 0, none⟩), .int .i64 k, .int .i64 m, vh, vl] w (MakesF10 w (shX k m hs L) (shR k m hs L) (shP k m hs L)) := by
  by_cases c : OkC k m
  · obtain ⟨k, m, rfl, rfl, h1, h2⟩ := c.nat
    by_cases p1 : hs.length = k + m
    · by_cases p2 : L.length = k + m
      · exact esh_main hF h1 h2 hH hL rfl p1 p2 hsm
      · exact esh_lens hF h1 h2 hH hL rfl (Or.inr p2)
    · exact esh_lens hF h1 h2 hH hL rfl (Or.inl p1)
  · exact esh_bad c hH hL
end Go.Proofs.YtddnfhfangfgeaaGreat.Gf

namespace Go.Proofs.YtddnfhfangfgeaaGreat.Gf
set_option linter.unusedVariables false
set_option linter.unusedSimpArgs false
open Go.RowKit
theorem alP_in {a : ArS} {g : GeoS} {st ep : Int} : ∀ i, i ∈ alP a g st ep → i < nT g := fun i hi => shP_in i hi
theorem MakesT15.off {w w' : World} {n : Nat} {L : Nat → List UInt8} {H : Nat → Bool} {e : Ending} (h : MakesT15 w true n L H e w') : MakesOff15 w e w' := h.1 rfl
theorem MakesT15.on {w w' : World} {n : Nat} {L : Nat → List UInt8} {H : Nat → Bool} {e : Ending} (h : MakesT15 w false n L H e w') : MakesOn15 w n L H e w' := h.2 rfl
set_option maxRecDepth 100000 in
set_option maxHeartbeats 4000000 in
theorem pput_any {w : World} {ab fb : Nat} {GA : Nat → Prop} {a : ArS} (h : ArAt w ab GA a) (hF : FieldAt w fb) {g : GeoS} (hg : g.Wf) {st ep : Int} (hst : (Lit.int .i64 st).wf = true) (hT : OkT g st ep) (hz : g.z ≤ 300) :
    Calls Tryz.prog 61 #[aggP (some ⟨ab, 0, none⟩) (some ⟨fb, 0, none⟩) g st ep] w (MakesA15 w (rtX a g st ep) (rtR a g st ep) (rtB a g st ep)) := by
  have zz := okG_nat hT.1
  have KR := fun W (hA : ArAt W ab GA a) => pread_any (pf := some ⟨fb, 0, none⟩) hA hg hst hT
  cases ho : a.off with
  | true =>
    obtain ⟨e1, e2, e3⟩ := rtX_off hT ho
    rw [e1, e2, e3]
    rw [ho] at KR
    clear e1 e2 e3 ho zz hz hT
    obtain ⟨k, m, z, s, t, o⟩ := g
    have LB := spot_laid w (some ⟨ab, 0, none⟩) (some ⟨fb, 0, none⟩) ⟨k, m, z, s, t, o⟩ st ep 103
    unfold aggP at KR ⊢
    simp only [cellsP] at KR LB ⊢
    obtain ⟨x0, x1, x2, x3, x4, x5, x6, x7, x8, x9⟩ := (LB _ (Below.refl _ _)).1.all
    simp only at x0 x1 x2 x3 x4 x5 x6 x7 x8 x9
    have K1 := KR _ (h.below (LB _ (Below.refl _ _)).2)
    go_enter Tryz.func61, Tryz.ntmps61
    go_wp2_with fail
    refine K1.mono ?_
    rintro _ v1 q
    obtain ⟨va, vb, rfl, b1⟩ := q.off
    have F1 : Hid (Below w.heap.size w v1) := (LB _ b1).2
    clear x0 x1 x2 x3 x4 x5 x6 x7 x8 x9 K1 KR b1 LB q
    go_wp2
    refine bodyPost_ret (v := .tuple #[.slice none 0 0, .slice none 0 0, .int .i64 130]) (by simp [results, Tryz.results61, go_sem]) rfl ?_
    exact nilA15 F1.out ⟨rfl, rfl, rfl⟩
  | false =>
    rw [ho] at KR
    have eX : rtX a g st ep = if shX g.k g.m (hsT a g st ep) (dsT a g st) = 0 then 0 else 150 := by
      unfold rtX; rw [if_pos hT]; exact al_ok ho
    obtain ⟨s1, s2, s3⟩ := @ls_sh a g st ep
    rw [← s1] at eX
    have KE := fun W (v1 v2 : Value) (hh : RdB W v1 (hsT a g st ep)) (hl : Rs W v2 (shdT a g st ep)) (hf : FieldAt W fb) => esh_far (k := g.k) (m := g.m) hf hh hl (fun i hi => by
      have hi2 : i < nT g := by rw [← hsT_length (a := a) (st := st) (ep := ep)]; exact hb_in hi
      unfold shdT
      rw [ro_mkL hi2]
      have := ls_len (a := a) (st := st) (ep := ep) hT.1 i
      omega)
    rw [s2, s3] at KE
    obtain ⟨X, hX⟩ : ∃ X, Hid (X = shX g.k g.m (hsT a g st ep) (shdT a g st ep)) := ⟨_, rfl⟩
    rw [← hX.out] at eX KE
    obtain ⟨n, hn⟩ : ∃ n, Hid (n = nT g) := ⟨_, rfl⟩
    have hn' : Hid (n = nT g) := hn
    have n1 : 1 ≤ n ∧ n ≤ 32 := by rw [hn.out]; exact ⟨nT_pos hT.1, zz.2.2.2.2.1⟩
    obtain ⟨AP, hAP⟩ : ∃ AP, Hid (AP = alP a g st ep) := ⟨_, rfl⟩
    obtain ⟨AL, hAL⟩ : ∃ AL, Hid (AL = alR a g st ep) := ⟨_, rfl⟩
    rw [← hAP.out, ← hAL.out] at KE
    have HPn : Hid (∀ i, i ∈ AP → i < n) := fun i hi => by rw [hAP.out] at hi; rw [hn.out]; exact alP_in i hi
    have HPl : Hid (AP.length ≤ 1000) := by
      show _ ≤ _
      rw [hAP.out]
      unfold alP shP
      split
      · rw [plc_length]
        have := cnt_le (hurtP g.k.toNat g.m.toNat (hsT a g st ep) (dsT a g st) (oneX (hsT a g st ep) (dsT a g st)).toNat) (g.k.toNat + g.m.toNat)
        have := zz.2.2.2.2.1
        unfold nT at this
        omega
      · simp
    have KB := fun W (hA : ArAt W ab GA a) (gh : Nat) (H : Nat → Bool) (hr : W.rowIs gh 4 n (fun i => .bool (H i))) => pbad_any (pf := some ⟨fb, 0, none⟩) hA hg hst hT hr hn.out
    have HRD : Hid (∀ W gs gh V, TwoL W gs gh n V (shdF a g st ep) (hsF a g st ep) → Rs W (.slice (some ⟨gs, 0, none⟩) n n) (shdT a g st ep) ∧ RdB W (.slice (some ⟨gh, 0, none⟩) n n) (hsT a g st ep)) := fun W gs gh V hV => by
      refine ⟨?_, ?_⟩
      · unfold shdT; rw [← hn'.out]; exact hV.rsOf
      · unfold hsT; rw [← hn'.out]; exact hV.rdB
    have RR : Hid (X = 0 → rtX a g st ep = 0 ∧ rtR a g st ep = AL ∧ rtB a g st ep = plc (fun i => !gdF a g st ep AP i && lvT a (diG g st (i : Int))) n) := fun e => by
      have r0 : rtX a g st ep = 0 := by rw [eX, if_pos e]
      refine ⟨r0, ?_, ?_⟩
      · unfold rtR; rw [if_pos r0, hAL.out]
      · unfold rtB bdT
        rw [if_pos r0, hn'.out, hAP.out]
        unfold plc
        exact List.filter_congr fun i _ => bd_gd i
    have RN : Hid (¬ X = 0 → rtX a g st ep = 150 ∧ rtR a g st ep = [] ∧ rtB a g st ep = []) := fun e => by
      have r0 : rtX a g st ep = 150 := by rw [eX, if_neg e]
      refine ⟨r0, ?_, ?_⟩
      · unfold rtR; rw [r0, if_neg (by decide)]
      · unfold rtB; rw [r0, if_neg (by decide)]
    have GD0 : Hid (∀ i, hsF a g st ep i = gdF a g st ep (AP.take 0) i) := fun i => (gd_nil i).symm
    have GDs : Hid (∀ r, r < AP.length → ∀ i, gdF a g st ep (AP.take (r + 1)) i = if i = AP.getD r 0 then false else gdF a g st ep (AP.take r) i) := fun r hr i => by
      rw [take_getD hr]; exact gd_snoc _ _ _
    rw [← hn.out] at KR
    obtain ⟨fX, hfX⟩ : ∃ x, Hid (x = rtX a g st ep) := ⟨_, rfl⟩
    obtain ⟨fR, hfR⟩ : ∃ x, Hid (x = rtR a g st ep) := ⟨_, rfl⟩
    obtain ⟨fB, hfB⟩ : ∃ x, Hid (x = rtB a g st ep) := ⟨_, rfl⟩
    rw [← hfX.out, ← hfR.out, ← hfB.out] at RR RN
    rw [← hfX.out, ← hfR.out, ← hfB.out]
    obtain ⟨GD, hGD⟩ : ∃ GD : List Nat → Nat → Bool, Hid (GD = gdF a g st ep) := ⟨_, rfl⟩
    rw [← hGD.out] at RR GD0 GDs
    clear hfX hfR hfB eX s1 s2 s3 hX zz hz ho hn hn' hAP hAL hGD
    obtain ⟨LF, hLF⟩ : ∃ LF, Hid (LF = shdF a g st ep) := ⟨_, rfl⟩
    obtain ⟨HF, hHF⟩ : ∃ HF, Hid (HF = hsF a g st ep) := ⟨_, rfl⟩
    rw [← hLF.out, ← hHF.out] at KR HRD
    rw [← hHF.out] at GD0
    obtain ⟨DG, hDG⟩ : ∃ DG : Nat → Bool, Hid (DG = fun i : Nat => lvT a (diG g st (i : Int))) := ⟨_, rfl⟩
    have KB' : ∀ W (hA : ArAt W ab GA a) (gh : Nat) (H : Nat → Bool) (hr : W.rowIs gh 4 n (fun i => .bool (H i))), Calls Tryz.prog 95 #[aggP (some ⟨ab, 0, none⟩) (some ⟨fb, 0, none⟩) g st ep, .slice (some ⟨gh, 0, none⟩) n n] W fun e w' => ∃ v, e = .returned v ∧ OwnI w' W.heap.size 3 v (plc (fun i => !H i && DG i) n) ∧ Below W.heap.size W w' := fun W hA gh H hr => by rw [hDG.out]; exact KB W hA gh H hr
    have RR' : Hid (X = 0 → fX = 0 ∧ fR = AL ∧ fB = plc (fun i => !GD AP i && DG i) n) := by rw [hDG.out]; exact RR
    clear KB RR hDG hLF hHF
    obtain ⟨HSL, hHSL⟩ : ∃ x, Hid (x = hsT a g st ep) := ⟨_, rfl⟩
    obtain ⟨SDL, hSDL⟩ : ∃ x, Hid (x = shdT a g st ep) := ⟨_, rfl⟩
    rw [← hHSL.out, ← hSDL.out] at KE HRD
    clear hHSL hSDL hT
    obtain ⟨k, m, z, s, t, o⟩ := g
    simp only at KE
    have LB := spot_laid w (some ⟨ab, 0, none⟩) (some ⟨fb, 0, none⟩) ⟨k, m, z, s, t, o⟩ st ep 103
    unfold aggP at KR KB' ⊢
    simp only [cellsP] at KR KB' LB ⊢
    obtain ⟨W0, hW0⟩ : ∃ W0, W0 = w.alloc (.cells #[.pointer (some ⟨ab, 0, none⟩), .pointer (some ⟨fb, 0, none⟩), .int .i64 k, .int .i64 m, .int .i64 z, .int .i64 s, .int .i64 t, .int .i64 o, .int .i64 st, .int .i64 ep] 103) := ⟨_, rfl⟩
    rw [← hW0] at LB
    have gb : Hid (w.heap.size < W0.heap.size) := by rw [hW0]; show _ < _; simp
    obtain ⟨x0, x1, x2, x3, x4, x5, x6, x7, x8, x9⟩ := (LB _ (Below.refl _ _)).1.all
    simp only at x0 x1 x2 x3 x4 x5 x6 x7 x8 x9
    have K1 := KR _ (h.below (LB _ (Below.refl _ _)).2)
    have HA : Hid (ArAt w ab GA a) := h
    have HFd : Hid (FieldAt w fb) := hF
    clear h hF
    go_enter Tryz.func61, Tryz.ntmps61
    go_wp2_with fail
    rw [← hW0]
    clear hW0
    refine K1.mono ?_
    rintro _ v1 q
    obtain ⟨gs, gh, V, rfl, V1, l1, l2, b1⟩ := q.on
    clear x0 x1 x2 x3 x4 x5 x6 x7 x8 x9 K1 KR q
    obtain ⟨SP1, F1⟩ := LB _ b1
    obtain ⟨x0, x1, x2, x3, x4, x5, x6, x7, x8, x9⟩ := SP1.all
    simp only at x0 x1 x2 x3 x4 x5 x6 x7 x8 x9
    obtain ⟨R1, H1⟩ := HRD.out _ _ _ _ V1
    have K2 := KE _ _ _ H1 R1 (HFd.out.belowF F1)
    have RH1 : Hid (v1.rowIs gh 4 n (fun i => .bool (GD (AP.take 0) i))) := V1.rh.congr fun i _ => by rw [GD0.out i]
    have HGH : Hid (W0.heap.size ≤ gh ∧ gh < v1.heap.size) := ⟨l2, V1.rh.lt⟩
    clear R1 H1 V1 l1 l2 KE HRD
    by_cases hX0 : X = 0
    rotate_left
    · have E9 : Hid _ := RN.out hX0
      go_wp2_with fail
      refine K2.mono ?_
      rintro _ v2 ⟨va, vd, rfl, R2, O2, b2⟩
      have F2 : Hid (Below w.heap.size w v2) := F1.stepL b2 F1.size
      obtain ⟨aa, ac, rfl⟩ := R2.form
      obtain ⟨da, dc, rfl⟩ := O2.form
      clear x0 x1 x2 x3 x4 x5 x6 x7 x8 x9 K2 R2 O2 b1 b2 SP1 F1 LB
      go_wp2
      refine bodyPost_ret (v := .tuple #[.slice none 0 0, .slice none 0 0, .int .i64 150]) (by simp [results, Tryz.results61, go_sem]) rfl ?_
      exact nilA15 F2.out E9.out
    have E9 : Hid _ := RR'.out hX0
    subst hX0
    go_wp2_with fail
    refine K2.mono ?_
    rintro _ v2 ⟨va, vd, rfl, R2, O2, b2⟩
    have B2 : Below W0.heap.size W0 v2 := b1.stepL b2 b1.size
    have F2 := (LB _ B2).2
    have SP2 : Hid (SpotAt v2 w.heap.size (some ⟨ab, 0, none⟩) (some ⟨fb, 0, none⟩) ⟨k, m, z, s, t, o⟩ st ep) := (LB _ B2).1
    obtain ⟨aa, ac, rfl⟩ := R2.form
    obtain ⟨da, dc, rfl⟩ := O2.form
    have RH2 : Hid (v2.rowIs gh 4 n (fun i => .bool (GD (AP.take 0) i))) := RH1.out.of_block (b2.block gh HGH.out.2)
    have HR2 : Hid (FarL v2 v1.heap.size (.slice aa AL.length ac) AL) := R2
    have HO2 : Hid (OwnI v2 v1.heap.size 3 (.slice da AP.length dc) AP) := O2
    have HF2 : Hid (Below w.heap.size w v2) := F2
    have HB1 : Hid (w.heap.size ≤ v1.heap.size) := F1.size
    clear x0 x1 x2 x3 x4 x5 x6 x7 x8 x9 K2 R2 O2 b1 b2 B2 F2 SP1 F1 LB RH1
    go_wp2
    go_loopw [42] (fun i wr => ∃ r : Nat, r ≤ AP.length ∧ i = .int .i64 (r : Int) ∧ wr.rowIs gh 4 n (fun i => .bool (GD (AP.take r) i)) ∧ Only gh v2 wr) (fun i _ => AP.length - (intOf i).toNat)
    case atStart => exact ⟨0, Nat.zero_le _, rfl, RH2.out, Only.refl _ _⟩
    case round =>
      clear RH2
      obtain ⟨r, hr, rfl, hR, hO⟩ := hrel
      by_cases hlt : r < AP.length
      · have hlt' : (r : Int) < (AP.length : Int) := by omega
        have g1 : IntKind.i64.wrap ((r : Int) + 1) = ((r + 1 : Nat) : Int) := by have := HPl.out; rw [IntKind.wrap_i64]; omega
        obtain ⟨q, hq⟩ : ∃ q, Hid (AP.getD r 0 = q) := ⟨_, rfl⟩
        have hqn : q < n := by rw [← hq.out]; exact HPn.out _ (getD_memN hlt)
        have hqn' : (q : Int) < (n : Int) := by omega
        obtain ⟨gd, rfl, _, _, ci⟩ := (HO2.out.only hO HGH.out.2).cell hlt
        rw [hq.out] at ci
        have cq := hR.cell hqn
        have fq := hR.frozen q
        have E3 : Hid ((wr.setCell ⟨gh, q, none⟩ (.bool false)).rowIs gh 4 n (fun i => .bool (GD (AP.take (r + 1)) i)) ∧ Only gh v2 (wr.setCell ⟨gh, q, none⟩ (.bool false))) := by
          refine ⟨(hR.set q (.bool false)).congr fun i _ => ?_, hO.setCell _ _⟩
          rw [GDs.out r hlt i, hq.out]
          by_cases e : i = q
          · rw [if_pos e, if_pos e]
          · rw [if_neg e, if_neg e]
        clear hR hO
        go_wp2
        go_roundw
        case rel => exact ⟨r + 1, by omega, by go_num, E3.out.1, E3.out.2⟩
        case measure => simp [intOf]; omega
      · obtain rfl : r = AP.length := by omega
        have hlt' : ¬ (AP.length : Int) < (AP.length : Int) := by omega
        rw [List.take_of_length_le (Nat.le_refl _)] at hR
        have ne : ¬ w.heap.size = gh := by have := HGH.out; have := gb.out; omega
        have SPr := SP2.out.turn (G := fun k => k = gh) ne (Only.turnG hO rfl)
        obtain ⟨x0, x1, x2, x3, x4, x5, x6, x7, x8, x9⟩ := SPr.all
        simp only at x0 x1 x2 x3 x4 x5 x6 x7 x8 x9
        have FB : Below w.heap.size w wr := HF2.out.trans (hO.below (by have := HGH.out; have := gb.out; omega))
        have K3 := KB' _ (HA.out.below FB) gh _ hR
        have HFr : Hid (FarL wr v1.heap.size (.slice aa AL.length ac) AL) := HR2.out.only hO HGH.out.2
        clear hR hO SPr KB'
        go_wp2_with fail
        refine K3.mono ?_
        rintro _ v4 ⟨vb, rfl, O4, b4⟩
        have E4 : Hid (OwnI v4 w.heap.size 3 vb fB ∧ FarL v4 w.heap.size (.slice aa AL.length ac) AL ∧ Below w.heap.size w v4) := by
          refine ⟨?_, (HFr.out.later b4).rebase HB1.out, FB.stepL b4 FB.size⟩
          rw [E9.out.2.2]
          exact ownsRow_base O4 FB.size
        obtain ⟨oa, oc, rfl⟩ := O4.form
        obtain ⟨LN, hLN⟩ : ∃ LN, Hid (LN = (plc (fun i => !GD AP i && DG i) n).length) := ⟨_, rfl⟩
        rw [← hLN.out] at E4 ⊢
        clear O4 b4 FB K3 x0 x1 x2 x3 x4 x5 x6 x7 x8 x9
        go_wp2
        refine bodyPost_ret (v := .tuple #[.slice aa AL.length ac, .slice oa LN oc, .int .i64 0]) (by simp [results, Tryz.results61, go_sem]) rfl ?_
        exact ⟨_, _, by rw [E9.out.1], by rw [E9.out.2.1]; exact E4.out.2.1, E4.out.1, E4.out.2.2⟩
end Go.Proofs.YtddnfhfangfgeaaGreat.Gf

namespace Go.Proofs.YtddnfhfangfgeaaGreat.Gf
set_option linter.unusedVariables false
set_option linter.unusedSimpArgs false
open Go.RowKit
theorem zeroCells_u8 (k : Nat) : Builtin.zeroCells #[Value.int .u8 0] k = (List.replicate k (Value.int .u8 0)).toArray := by
  apply Array.ext'
  unfold Builtin.zeroCells
  simp only [Array.toList_map, Array.toList_range]
  refine List.ext_getElem (by simp) fun i h1 h2 => ?_
  simp [Nat.mod_one]
theorem info_u8c : (Tryz.prog.info? 5).map (fun i => (i.zero, i.size, i.bytes)) = some (some (.int .u8 0), 1, 1) := by kernel_rfl
set_option maxRecDepth 100000 in
set_option maxHeartbeats 2000000 in
theorem growb_any {n : Nat} {w : World} (hl : n ≤ 1000000) {x : Int} (hx : x = (n : Int)) : Calls Tryz.prog 96 #[.slice none 0 0, .int .i64 x] w fun e w' => ∃ v, e = .returned v ∧ w'.ownsRow w.heap.size 5 1 v 0 [] ∧ Below w.heap.size w w' := by
  subst hx
  have hb8 : Tryz.t5.bytes = 1 := by kernel_rfl
  have h1 : ¬ (281474976710656 : Int) < (n : Int) * (Tryz.t5.bytes : Int) := by
    have : ∀ q : Nat, q = 1 → ¬ (281474976710656 : Int) < (n : Int) * (q : Int) := fun q hq => by subst hq; omega
    exact this _ hb8
  have hnn : ¬ (n : Int) < 0 := by omega
  by_cases h0 : n = 0
  · subst h0
    clear hb8
    go_enter Tryz.func96, Tryz.ntmps96
    go_wp2
    go_ret
    exact ⟨_, rfl, World.ownsRow_nil _ _ _ _, Below.refl _ _⟩
  · have hpos : 0 < n := by omega
    have h2 : ¬ (281474976710656 : Nat) < Builtin.nextslicecap n 0 * Tryz.t5.bytes := by
      have h3 := growslice_fits (need := n) (old := 0) (bytes := 1) (by omega) (by omega)
      have : ∀ q : Nat, q = 1 → ¬ (281474976710656 : Nat) < Builtin.nextslicecap n 0 * q := fun q hq => by subst hq; omega
      exact this _ hb8
    clear hb8
    have hge := grownCap_ge w n 0 5
    have hle := grownCap_le_maxLen w n 0 5 (by unfold maxLen; omega)
    unfold grownCap at hge hle
    go_enter Tryz.func96, Tryz.ntmps96
    go_wp2
    all_goals try omega
    go_ret
    refine ⟨_, rfl, ⟨rfl, .inr ⟨w.heap.size, _, _, rfl, Nat.le_refl _, heap_alloc_new w _, Nat.zero_le _, hle, ?_, rfl⟩⟩, ?_⟩
    · rw [zeroCells_u8, zeroCells_u8]
      simp
      omega
    · exact ((Below.refl _ _).alloc (Nat.le_refl _) _).drew
theorem flat_take15 {L : List (List UInt8)} {r : Nat} (h : r < L.length) : (L.take (r + 1)).flatten = (L.take r).flatten ++ ro L r := by
  rw [List.take_add_one, List.flatten_append, ro_some h]
  simp
theorem flat_mono {L : List (List UInt8)} (r : Nat) : (L.take r).flatten.length ≤ L.flatten.length := by
  have := congrArg (fun M => M.flatten.length) (List.take_append_drop r L)
  simp only [List.flatten_append, List.length_append] at this
  omega
set_option maxRecDepth 100000 in
set_option maxHeartbeats 2000000 in
theorem ccatb_any {w : World} {v : Value} {L : List (List UInt8)} (hR : Rs w v L) (hl : L.flatten.length ≤ 1000000) (hl2 : L.length ≤ 1000) :
    Calls Tryz.prog 62 #[v] w fun e w' => ∃ v', e = .returned v' ∧ w'.ownsRow w.heap.size 5 1 v' L.flatten.length (L.flatten.map vb) ∧ Below w.heap.size w w' := by
  obtain ⟨i0, hi, hz0, hz1, hz2⟩ := info_parts info_u8c
  obtain ⟨a1, c1, rfl⟩ := hR.form
  obtain ⟨N, hN⟩ : ∃ N, Hid (N = L.flatten.length) := ⟨_, rfl⟩
  have hN6 : N ≤ 1000000 := by rw [hN.out]; exact hl
  have n2 : ¬ (N : Int) < 0 := by omega
  have HR : Hid (Rs w (.slice a1 L.length c1) L) := hR
  obtain ⟨FL, hFL⟩ : ∃ FL, Hid (FL = L.flatten) := ⟨_, rfl⟩
  rw [← hFL.out]
  clear hR hl
  go_enter Tryz.func62, Tryz.ntmps62
  go_wp2_with fail
  go_loopw [3, 11] (fun s i wr => ∃ r : Nat, r ≤ L.length ∧ i = .int .i64 (r : Int) ∧ s = .int .i64 (((L.take r).flatten.length : Nat) : Int) ∧ wr = w) (fun _ i _ => L.length - (intOf i).toNat)
  case atStart => exact ⟨0, by omega, rfl, rfl, rfl⟩
  case round =>
    obtain ⟨r, hr, rfl, rfl, rfl⟩ := hrel
    by_cases hlt : r < L.length
    · have hlt' : (r : Int) < (L.length : Int) := by omega
      have g1 : IntKind.i64.wrap ((r : Int) + 1) = ((r + 1 : Nat) : Int) := by rw [IntKind.wrap_i64]; omega
      obtain ⟨xb, xo, xa, xc, rfl, _, cx, Rx⟩ := HR.out.at hlt
      obtain ⟨LN, hLN⟩ : ∃ LN, Hid (LN = (ro L r).length) := ⟨_, rfl⟩
      obtain ⟨S0, hS0⟩ : ∃ S0, Hid (S0 = (L.take r).flatten.length) := ⟨_, rfl⟩
      obtain ⟨S1, hS1⟩ : ∃ S1, Hid (S1 = (L.take (r + 1)).flatten.length) := ⟨_, rfl⟩
      have eS : S0 + LN = S1 := by rw [hS0.out, hLN.out, hS1.out, flat_take15 hlt, List.length_append]
      have bS : S1 ≤ 1000000 := by rw [hS1.out]; have := flat_mono (L := L) (r + 1); have := hN.out; omega
      have w1 : IntKind.i64.wrap ((S0 : Int) + (LN : Int)) = (S1 : Int) := by rw [IntKind.wrap_i64]; omega
      have n1 : ¬ (S1 : Int) < 0 := by omega
      have HE : Hid (S0 + LN = S1) := eS
      rw [← hLN.out] at cx Rx
      rw [← hS0.out]
      clear Rx eS
      go_wp2
      go_roundw
      case rel => exact ⟨r + 1, by omega, by go_num, by rw [← hS1.out], by first | rfl | trivial⟩
      case measure => simp [intOf]; omega
    · obtain rfl : r = L.length := by omega
      have hlt' : ¬ (L.length : Int) < (L.length : Int) := by omega
      obtain ⟨wo, hwo⟩ : ∃ wo, wo = wr := ⟨_, rfl⟩
      subst hwo
      rw [List.take_of_length_le (Nat.le_refl _), ← hN.out]
      go_wp2_with fail
      refine (growb_any (n := N) (by omega) rfl).mono ?_
      rintro e u1 ⟨v, rfl, O1, B1⟩
      obtain ⟨av, cv, rfl⟩ := owns_form O1
      have HB0 : Hid (Below wo.heap.size wo u1) := B1
      have HO1 : Hid (u1.ownsRow wo.heap.size 5 1 (.slice av 0 cv) (L.take 0).flatten.length ((L.take 0).flatten.map vb)) := O1
      clear B1 O1
      go_wp2_with fail
      go_loopw [6, 27] (fun o i wz => ∃ r : Nat, r ≤ L.length ∧ i = .int .i64 (r : Int) ∧ wz.ownsRow wo.heap.size 5 1 o (L.take r).flatten.length ((L.take r).flatten.map vb) ∧ Below wo.heap.size wo wz) (fun _ i _ => L.length - (intOf i).toNat)
      case atStart => exact ⟨0, by omega, rfl, HO1.out, HB0.out⟩
      case round =>
        obtain ⟨r, hr, rfl, hO, hB⟩ := hrel
        clear HB0 HO1
        have hsz := hB.size
        obtain ⟨DD, hDD⟩ : ∃ DD, Hid (DD = (L.take r).flatten) := ⟨_, rfl⟩
        rw [← hDD.out] at hO
        obtain ⟨da, dc, rfl⟩ := owns_form hO
        by_cases hlt : r < L.length
        · have hlt' : (r : Int) < (L.length : Int) := by omega
          have g1 : IntKind.i64.wrap ((r : Int) + 1) = ((r + 1 : Nat) : Int) := by rw [IntKind.wrap_i64]; omega
          obtain ⟨xb, xo, xa, xc, rfl, _, cx, Rx⟩ := (HR.out.below hB).at hlt
          obtain ⟨LN, hLN⟩ : ∃ LN, Hid (LN = (ro L r).length) := ⟨_, rfl⟩
          rw [← hLN.out] at cx Rx
          have hl9 : Hid (DD.length + (ro L r).length ≤ 1000000) := by
            have q1 := flat_mono (L := L) (r + 1)
            rw [flat_take15 hlt, List.length_append, ← hDD.out] at q1
            show _ ≤ _
            have := hN.out
            omega
          go_wp2_with (at_builtin; go_loud (refine wpList_append_rd _ rfl (.tmp 31) (.tmp 32) 36 rfl wo.heap.size 5 i0 Tryz.underlying36 hi hz0 hz1 hz2 (.slice da DD.length dc) DD.length (DD.map vb) rfl hO (.slice xa LN xc) (ro L r) rfl Rx hl9.out hsz ?_); intro v5 w5 h5 g5)
          have H5 : Hid (w5.ownsRow wo.heap.size 5 1 v5 (L.take (r + 1)).flatten.length ((L.take (r + 1)).flatten.map vb)) := by
            show World.ownsRow _ _ _ _ _ _ _
            rw [flat_take15 hlt, List.length_append, List.map_append, ← hDD.out]
            exact h5
          have B5 : Hid (Below wo.heap.size wo w5) := hB.grown g5 hsz (fun q hq => (World.ownsRow.lt hO q hq).1)
          clear hO h5 g5 cx Rx hB
          go_wp2
          go_roundw
          case rel => exact ⟨r + 1, by omega, by go_num, H5.out, B5.out⟩
          case measure => simp [intOf]; omega
        · obtain rfl : r = L.length := by omega
          have hlt' : ¬ (L.length : Int) < (L.length : Int) := by omega
          have e9 : Hid ((L.take L.length).flatten = L.flatten) := by show _ = _; rw [List.take_of_length_le (Nat.le_refl _)]
          have FO : Hid (wr.ownsRow wo.heap.size 5 1 (.slice da DD.length dc) FL.length (FL.map vb)) := by
            show World.ownsRow _ _ _ _ _ _ _
            rw [hFL.out, ← e9.out, ← hDD.out]; exact hO
          have FB : Hid (Below wo.heap.size wo wr) := hB
          clear hO hB e9
          go_wp2
          try rw [Exit.noGoto_ret]
          go_ret
          exact ⟨_, rfl, FO.out, FB.out⟩
end Go.Proofs.YtddnfhfangfgeaaGreat.Gf

