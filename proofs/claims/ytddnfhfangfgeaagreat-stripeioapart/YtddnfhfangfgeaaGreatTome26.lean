/- TEXTS JOINED: WdCH. -/
import Derived.Test.YtddnfhfangfgeaaGreatChecked
import GoSem.Claim
import GoSem.ClaimJoined
import GoSem.ClaimMapViews
import Derived.JoinedTies
import Derived.KernelRfl
import Derived.WalkKit
import Derived.Deep.QuietTactic
import Derived.BigQuiet
import Derived.WalkLawsBesides
import Derived.WalkSpells
import Derived.OpenShut
import Derived.Deep.AppendLies
import Derived.Laws.CopyOwn
import Derived.Laws.AppendOwnNone
import Derived.Deep.RegionHeld3
import Derived.WalkMore
import Derived.Lib.SliceRun
import Derived.Deep.RegionWith
import Derived.Laws.EntriesVeiled
import Derived.Deep.OwnRows
import Derived.Test.YtddnfhfangfgeaaGreatRows
import Derived.Test.YtddnfhfangfgeaaGreatTome2
import Derived.Test.YtddnfhfangfgeaaGreatTome3
import Derived.Test.YtddnfhfangfgeaaGreatTome1
import Derived.Test.YtddnfhfangfgeaaGreatTome10
import Derived.Test.YtddnfhfangfgeaaGreatTome9
import Derived.Test.YtddnfhfangfgeaaGreatTome11
import Derived.Test.YtddnfhfangfgeaaGreatTome13
import Derived.Test.YtddnfhfangfgeaaGreatTome20
import Derived.Test.YtddnfhfangfgeaaGreatTome15
import Derived.Test.YtddnfhfangfgeaaGreatTome21
import Derived.Test.YtddnfhfangfgeaaGreatTome14
import Derived.Test.YtddnfhfangfgeaaGreatTome23
import Derived.Test.YtddnfhfangfgeaaGreatTome24
import Derived.Test.YtddnfhfangfgeaaGreatTome25
namespace Go.Proofs.YtddnfhfangfgeaaGreat.Gf
set_option linter.unusedVariables false
set_option linter.unusedSimpArgs false
open Go.RowKit
/-- shards in new memory, places, an error -/
def MakesF10 (w : World) (X : Int) (R : List (List UInt8)) (P : List Nat) (e : Ending) (w' : World) : Prop := ∃ va vd, e = .returned (.tuple #[va, vd, .int .i64 X]) ∧ FarL w' w.heap.size va R ∧ OwnI w' w.heap.size 3 vd P ∧ Below w.heap.size w w'
theorem nilF10 {w w' : World} {x : Int} (b : Below w.heap.size w w') {X : Int} {R : List (List UInt8)} {P : List Nat} (h : X = x ∧ R = [] ∧ P = []) : MakesF10 w X R P (.returned (.tuple #[.slice none 0 0, .slice none 0 0, .int .i64 x])) w' := by
  obtain ⟨rfl, rfl, rfl⟩ := h
  exact ⟨_, _, rfl, FarL.nil _ _, OwnI.nil _ _ _, b⟩
theorem info_bytes10 : (Tryz.prog.info? 36).map (fun i => (i.zero, i.size, i.bytes)) = some (some (.slice none 0 0), 1, 24) := by kernel_rfl
theorem made_owns (w : World) {base e n : Nat} {z : Value} (hb : base ≤ w.heap.size) (hn : n ≤ 1000000) : (w.alloc (.cells (madeCells #[z] n) e)).ownsRow base e 1 (.slice (some ⟨w.heap.size, 0, none⟩) n n) n (List.replicate n z) := by
  have h1 : (madeCells #[z] n).toList = List.replicate n z := toList_madeCells_one _ _
  have h2 : (madeCells #[z] n).size = n := by rw [← Array.length_toList, h1, List.length_replicate]
  exact ⟨by rw [List.length_replicate, Nat.mul_one], .inr ⟨w.heap.size, n, _, rfl, hb, heap_alloc_new w _, Nat.le_refl _, by unfold maxLen; omega, by rw [h2, Nat.mul_one], by rw [h1, Nat.mul_one, List.take_of_length_le (by rw [List.length_replicate]; exact Nat.le_refl _)]⟩⟩
theorem made_owns' (w : World) {base e n g : Nat} {z : Value} (hg : g = w.heap.size) (hb : base ≤ w.heap.size) (hn : n ≤ 1000000) : (w.alloc (.cells (madeCells #[z] n) e)).ownsRow base e 1 (.slice (some ⟨g, 0, none⟩) n n) n (List.replicate n z) := by
  subst hg
  exact made_owns w hb hn
theorem bool_made {w : World} {base e g n : Nat} (h : w.ownsRow base e 1 (.slice (some ⟨g, 0, none⟩) n n) n (List.replicate n (.bool false))) : BoolF w base e g n (fun _ => false) := by
  unfold BoolF
  have e2 : (List.range n).map (fun _ => Value.bool false) = List.replicate n (.bool false) := by
    rw [List.map_const']; simp
  rw [e2]; exact h
set_option maxRecDepth 100000 in
set_option maxHeartbeats 2000000 in
theorem esh_bad {b : Nat} {k m : Int} {vh vl : Value} {hs : List Bool} {L : List (List UInt8)} {w : World} (h : ¬ OkC k m) (hH : RdB w vh hs) (hL : Rs w vl L) : Calls Tryz.prog 94 #[.pointer (some ⟨b, 0, none⟩), .int .i64 k, .int .i64 m, vh, vl] w (MakesF10 w (shX k m hs L) (shR k m hs L) (shP k m hs L)) := by
  have EE : Hid _ := sh_bad (hs := hs) (L := L) h
  obtain ⟨za, zc, rfl⟩ := hH.form
  obtain ⟨ma, mc, rfl⟩ := hL.form
  clear hH hL
  go_enter Tryz.func94, Tryz.ntmps94
  go_wp2_with fail
  go_step3
  go_wp2_with fail
  refine (wts_bad w h).mono ?_
  rintro e w2 ⟨vs, rfl, hR, b2⟩
  obtain ⟨sa, sc, rfl⟩ := hR.form
  clear hR h
  go_wp2
  try rw [Exit.noGoto_ret]
  exact bodyPost_ret (v := .tuple #[.slice none 0 0, .slice none 0 0, .int .i64 50]) (by simp [results, Tryz.results94, go_sem]) rfl (nilF10 b2 EE.out)
set_option maxRecDepth 100000 in
set_option maxHeartbeats 2000000 in
/-- .. where the lengths do not fit -/
theorem esh_lens {b k m s : Nat} {vh vl : Value} {hs : List Bool} {L : List (List UInt8)} {w : World} (hF : FieldAt w b) (h1 : 1 ≤ k) (h2 : k + m ≤ 256) (hH : RdB w vh hs) (hL : Rs w vl L) (hs0 : s = k + m) (hne : hs.length ≠ s ∨ L.length ≠ s) : Calls Tryz.prog 94 #[.pointer (some ⟨b, 0, none⟩), .int .i64 (k : Int), .int .i64 (m : Int), vh, vl] w (MakesF10 w (shX k m hs L) (shR k m hs L) (shP k m hs L)) := by
  have c : OkC (k : Int) (m : Int) := ⟨by omega, by omega, by omega⟩
  have EE : Hid _ := sh_shard (hs := hs) (L := L) c (fun h => by have h1 := h.1; have h2 := h.2.1; rcases hne with e | e <;> omega)
  obtain ⟨za, zc, rfl⟩ := hH.form
  obtain ⟨ma, mc, rfl⟩ := hL.form
  have g1 : (k : Int) + (m : Int) = (s : Int) := by omega
  have gw : IntKind.i64.wrap (s : Int) = (s : Int) := by rw [IntKind.wrap_i64]; omega
  have W1 := wts_ok (w := w) hF h1 h2 rfl rfl
  have hs0' : Hid _ := hs0
  clear hF hs0 hH hL c
  by_cases p1 : hs.length = s
  · have q1 : ((hs.length : Int) != (s : Int)) = false := by simp [p1]
    have p2 : L.length ≠ s := hne.resolve_left (fun h => h p1)
    have q2 : ((L.length : Int) != (s : Int)) = true := by simp; omega
    clear p1 p2 hne
    go_enter Tryz.func94, Tryz.ntmps94
    go_wp2_with fail
    go_step3
    go_wp2_with fail
    refine W1.mono ?_
    rintro e w2 ⟨vs, rfl, hR, b2⟩
    obtain ⟨sa, sc, rfl⟩ := hR.form
    clear hR W1
    go_wp2
    try rw [Exit.noGoto_ret]
    exact bodyPost_ret (v := .tuple #[.slice none 0 0, .slice none 0 0, .int .i64 60]) (by simp [results, Tryz.results94, go_sem]) rfl (nilF10 b2 EE.out)
  · have q1 : ((hs.length : Int) != (s : Int)) = true := by simp; omega
    clear p1 hne
    go_enter Tryz.func94, Tryz.ntmps94
    go_wp2_with fail
    go_step3
    go_wp2_with fail
    refine W1.mono ?_
    rintro e w2 ⟨vs, rfl, hR, b2⟩
    obtain ⟨sa, sc, rfl⟩ := hR.form
    clear hR W1
    go_wp2
    try rw [Exit.noGoto_ret]
    exact bodyPost_ret (v := .tuple #[.slice none 0 0, .slice none 0 0, .int .i64 60]) (by simp [results, Tryz.results94, go_sem]) rfl (nilF10 b2 EE.out)
set_option maxRecDepth 100000 in
set_option maxHeartbeats 4000000 in
theorem esh_main {b k m s : Nat} {vh vl : Value} {hs : List Bool} {L : List (List UInt8)} {w : World} (hF : FieldAt w b) (h1 : 1 ≤ k) (h2 : k + m ≤ 256) (hH : RdB w vh hs) (hL : Rs w vl L) (hs0 : s = k + m) (p1 : hs.length = s) (p2 : L.length = s) (hsm : ∀ i, hb hs i = true → (ro L i).length ≤ 300) : Calls Tryz.prog 94 #[.pointer (some ⟨b, 0, none⟩), .int .i64 (k : Int), .int .i64 (m : Int), vh, vl] w (MakesF10 w (shX k m hs L) (shR k m hs L) (shP k m hs L)) := by
  have c : OkC (k : Int) (m : Int) := ⟨by omega, by omega, by omega⟩
  have HNo : Hid (oneX hs L = -1 → _) := fun h => sh_shard (k := (k : Int)) (m := (m : Int)) (hs := hs) (L := L) c (fun q => q.2.2 h)
  have HMany : Hid (∀ n t : Nat, oneX hs L = (n : Int) → t < n → pX k m hs L t ≠ 0 → _) := fun n t h3 ht hx => sh_many c (by omega) (by omega) h3 ht hx
  have HOk : Hid (∀ n : Nat, oneX hs L = (n : Int) → (∀ t, t < n → pX k m hs L t = 0) → _) := fun n h3 hx => sh_ok c (by omega) (by omega) h3 hx
  have HT : Hid (∀ t, _) := fun t => pX_told (L := L) (t := t) h1 h2 (show hs.length = k + m by omega)
  obtain ⟨za, zc, rfl⟩ := hH.form
  obtain ⟨ma, mc, rfl⟩ := hL.form
  have g1 : (k : Int) + (m : Int) = (s : Int) := by omega
  have gw : IntKind.i64.wrap (s : Int) = (s : Int) := by rw [IntKind.wrap_i64]; omega
  have W1 := wts_ok (w := w) hF h1 h2 rfl rfl
  have hs256 : s ≤ 256 := by omega
  have hs0' : Hid _ := hs0
  have p1' : Hid _ := p1
  have p2' : Hid _ := p2
  have hsm' : Hid _ := hsm
  rw [p1] at hH ⊢
  rw [p2] at hL ⊢
  clear hs0 c p1 p2 hsm
  go_enter Tryz.func94, Tryz.ntmps94
  go_wp2_with fail
  go_step3
  go_wp2_with fail
  refine W1.mono ?_
  rintro e w2 ⟨vs, rfl, hR, b2⟩
  obtain ⟨sa, sc, rfl⟩ := hR.form
  clear W1
  go_wp2_with fail
  refine (eonl_any (hH.below b2) (hL.below b2) (by rw [p1'.out, p2'.out]) (by rw [p1'.out]; omega)).mono ?_
  rintro e w3 ⟨rfl, b3⟩
  have B3 := Below.next b2 b3
  have R3 := hR.below b3
  clear b2 b3 hR
  rcases oneX_cases hs L with e0 | ⟨n, e0, hn, hex⟩
  · have EE : Hid _ := HNo.out e0
    rw [e0]
    clear HNo HMany HOk HT R3 hF hH hL e0
    go_wp2
    try rw [Exit.noGoto_ret]
    exact bodyPost_ret (v := .tuple #[.slice none 0 0, .slice none 0 0, .int .i64 60]) (by simp [results, Tryz.results94, go_sem]) rfl (nilF10 B3 EE.out)
  · have hn300 : n ≤ 300 := by
      obtain ⟨i, hi⟩ := hex
      rw [← hn i hi]
      exact hsm'.out i hi
    have HMany2 : Hid (∀ t, t < n → pX k m hs L t ≠ 0 → _) := fun t => HMany.out n t e0
    have HOk2 : Hid ((∀ t, t < n → pX k m hs L t = 0) → _) := HOk.out n e0
    have hn' : Hid _ := hn
    rw [e0]
    have hn0 : ¬ (n : Int) < 0 := by omega
    clear HNo HMany HOk e0 hn hex
    obtain ⟨WS, hWS⟩ : ∃ WS, Hid (WS = upto (wtF k m) (k + m)) := ⟨_, rfl⟩
    rw [← hWS.out] at R3 ⊢
    go_wp2_with fail
    refine (eopp_any (hH.below B3) (by rw [p1'.out]; omega)).mono ?_
    rintro e w4 ⟨vo, rfl, M4, b4⟩
    obtain ⟨oa, oc, rfl⟩ := M4.form
    have hnl : Hid ((notM hs).length = s) := by show _ = _; rw [notM_length, p1'.out]
    rw [hnl.out] at M4 ⊢
    have B4 := Below.next B3 b4
    have R4 := R3.below b4
    clear R3 b4 B3
    go_wp2_with fail
    refine (erig_any (hF.below B4) R4 M4 (by rw [hnl.out]; omega)).mono ?_
    rintro e w5 ⟨gb, mb, fb, kb, nb, sb, wb, vg, vn, rfl, T5, O5, N5, b5⟩
    rw [hnl.out, hs0'.out] at O5 N5
    have B5 := Below.next B4 b5
    have R5 := R4.below b5
    have M5 := M4.below b5
    clear R4 M4 b5 B4
    have mk1 := run_make_row' (P := Tryz.prog) 106 36 (.slice none 0 0) 24 Tryz.underlying106 info_bytes10 rfl .i64 .i64 s (by omega) (by omega)
    have mk2 := run_make_row' (P := Tryz.prog) 96 4 (.bool false) 1 Tryz.underlying96 info_bool10 rfl .i64 .i64 s (by omega) (by omega)
    go_wp2_with fail
    go_region
    · -- ORDER A
      obtain ⟨G, hG0⟩ : ∃ G, Hid (G = w5.heap.size) := ⟨_, rfl⟩
      obtain ⟨H, hH0⟩ : ∃ H, Hid (H = w5.heap.size + 1) := ⟨_, rfl⟩
      obtain ⟨u6, hu6⟩ : ∃ u6, u6 = ((w5.alloc (.cells (madeCells #[.slice none 0 0] s) 36)).alloc (.cells (madeCells #[.bool false] s) 4)).drew := ⟨_, rfl⟩
      rw [← hu6]
      rw [← hH0.out, ← hG0.out]
      have hGH : G ≠ H := by rw [hG0.out, hH0.out]; omega
      have s6 : u6.heap.size = w5.heap.size + 2 := by rw [hu6]; show (World.alloc _ _).heap.size = _; simp
      have B6 : Below w5.heap.size w5 u6 := by rw [hu6]; exact (below_lit (below_lit (Below.refl _ _) _) _).drew
      have O6 : OsP u6 w5.heap.size 36 5 (.slice (some ⟨G, 0, none⟩) s s) (rowsP k m hs L 0) (fun q => q < w5.heap.size ∨ q = H) := by
        rw [rowsP_zero, ← hs0'.out]
        refine OsP.blank (cs := List.replicate s (.slice none 0 0)) ?_ (fun y hy => List.eq_of_mem_replicate hy) (fun q hq => by have h9 := hG0.out; rcases hq with h | h <;> omega)
        rw [hu6, hG0.out]
        exact World.ownsRow.alloc (made_owns w5 (Nat.le_refl _) (by omega)) _
      have F6 : BoolF u6 w5.heap.size 4 H s (hurtP k m hs L 0) := by
        refine bool_made ?_
        rw [hu6, hH0.out]
        exact made_owns' (w5.alloc (.cells (madeCells #[.slice none 0 0] s) 36)) (by simp) (by simp) (by omega)
      clear hu6
      -- BODY
      have hG5 : w5.heap.size ≤ G ∧ G < w5.heap.size + 2 := by have := hG0.out; omega
      have hH5 : w5.heap.size ≤ H ∧ H < w5.heap.size + 2 := by have := hH0.out; omega
      have s6' : Hid (w5.heap.size + 2 ≤ u6.heap.size) := by show _ ≤ _; omega
      have HA : Hid (∀ W, Below w5.heap.size w5 W → ∀ v t, Rd W v (wdAt hs L (k + m) t) → Calls Tryz.prog 167 #[v, .pointer (some ⟨gb, 0, none⟩), .pointer (some ⟨mb, 0, none⟩), .pointer (some ⟨fb, 0, none⟩), .pointer (some ⟨kb, 0, none⟩), .pointer (some ⟨nb, 0, none⟩), .pointer (some ⟨sb, 0, none⟩), .pointer (some ⟨wb, 0, none⟩)] W (Makes10 W (pX k m hs L t) (pR k m hs L t) (pP k m hs L t))) := fun W h v t r =>
        erig1_any ((hF.below B5).below h) (T5.below h) (owns_later O5 h) (N5.below h) (M5.below h) (by have := R5.below h; rw [hWS.out] at this ⊢; exact this) r h1 h2 (wdAt_length _ _ _ _) (by rw [hnl.out]; exact hs0'.out)
      have HWd : Hid (∀ W, Below w5.heap.size w5 W → ∀ t, t < n → Calls Tryz.prog 137 #[.slice za s zc, .slice ma s mc, .int .i64 (t : Int)] W fun e w' => ∃ v, e = .returned v ∧ Rd w' v (wdAt hs L (k + m) t) ∧ Below W.heap.size W w') := fun W h t ht => by
        have := ewat_any ((hH.below B5).below h) ((hL.below B5).below h) (by rw [p1'.out, p2'.out]) (by rw [p1'.out]; omega) (t := t) (fun i hi => by rw [hn'.out i hi]; exact ht) rfl
        rw [p2'.out, hs0'.out] at this
        rw [hs0'.out]
        exact this
      have HB5 : Hid _ := B5
      clear mk1 mk2 hG0 hH0 s6 hF hH hL T5 O5 N5 M5 R5 B5
      go_wp2_with fail
      go_step3
      go_wp2_with fail
      go_loopw [14, 68] (fun er x wr => ∃ r : Nat, r ≤ n ∧ er = .int .i64 0 ∧ x = .int .i64 (r : Int) ∧ Below w5.heap.size w5 wr ∧ OsP wr w5.heap.size 36 5 (.slice (some ⟨G, 0, none⟩) s s) (rowsP k m hs L r) (fun q => q < w5.heap.size ∨ q = H) ∧ BoolF wr w5.heap.size 4 H s (hurtP k m hs L r) ∧ Hid (∀ t, t < r → pX k m hs L t = 0) ∧ Hid (w5.heap.size + 2 ≤ wr.heap.size)) (fun _ x _ => n - (intOf x).toNat)
      case atStart => exact ⟨0, by omega, rfl, rfl, B6, O6, F6, fun t ht => by omega, s6'⟩
      case round =>
        obtain ⟨r, hr, rfl, rfl, hB, hO, hBo, hX, hsz⟩ := hrel
        clear B6 O6 F6 s6'
        by_cases hlt : r < n
        · have hlt' : (r : Int) < (n : Int) := by omega
          have C1 := HWd.out wr hB r hlt
          go_wp2_with fail
          refine C1.mono ?_
          rintro e w7 ⟨vw, rfl, R7, b7⟩
          have B7 : Below w5.heap.size w5 w7 := Below.next hB b7
          have C2 := HA.out w7 B7 vw r R7
          obtain ⟨va, vc, rfl⟩ := R7.form
          clear C1
          go_wp2_with fail
          refine C2.mono ?_
          rintro e w8 ⟨vx, vd, rfl, R8, O8, b8, f8⟩
          obtain ⟨xa, xc, rfl⟩ := R8.form
          obtain ⟨da, dc, rfl⟩ := O8.form
          have B8 := Below.next B7 b8
          have b78 := Below.next b7 b8
          have F8 := f8.mono b7.size
          have h7s : Hid (wr.heap.size ≤ w7.heap.size) := b7.size
          clear C2 R7 b7 b8 f8 B7
          rcases HT.out r with ⟨e1, e2, e3⟩ | ⟨e1, e2, e3, e4⟩
          · have EE : Hid _ := HMany2.out r hlt (by rw [e1]; decide)
            have HBB : Hid (Below w.heap.size w w8) := Below.next HB5.out B8
            rw [e1]
            clear e1 e2 e3 R8 O8 B8 b78 F8 hO hBo hB hX
            go_wp2
            rw [Exit.noGoto_ret]
            exact bodyPost_ret (v := .tuple #[.slice none 0 0, .slice none 0 0, .int .i64 100]) (by simp [results, Tryz.results94, go_sem]) rfl (nilF10 HBB.out EE.out)
          · have HX : Hid (∀ t, t < r + 1 → pX k m hs L t = 0) := fun t ht => by
              by_cases q : t = r
              · rw [q]; exact e1
              · exact hX.out t (by omega)
            rw [e1]
            have sz8 := b78.size
            have szr := hsz.out
            have O8' : OsP w8 w5.heap.size 36 5 (.slice (some ⟨G, 0, none⟩) s s) (rowsP k m hs L r) (fun q => (q < w5.heap.size ∨ q = H) ∨ (wr.heap.size ≤ q ∧ q < w8.heap.size)) := hO.later b78 (fun q hq => by
              rcases hq with h | h
              · exact Or.inl h
              · exact Or.inr h.1)
            have C3 := elay_any O8' (fun q hq => by rcases hq with (h | h) | h <;> omega) R8 (fun x n' c' e => by
              obtain ⟨bb, off, e9, h9, _⟩ := R8.byte (i := 0) (by rw [e2]; omega)
              subst e9
              simp at e
              have h8 := F8 _ _ _ rfl
              rw [← e.1]
              exact Or.inr ⟨h8, h9⟩) (by rw [e2, hs0'.out]) (by rw [rowsP_length, hs0'.out]) (by omega) (fun i => by
              rcases Nat.lt_or_ge i (k + m) with h | h
              · rw [rowsP_ro h, upto_length]; omega
              · rw [ro_ge (by rw [rowsP_length]; exact h)]; simp) (by omega)
            have hBo8 : BoolF w8 w5.heap.size 4 H s (hurtP k m hs L r) := owns_later hBo b78
            have h77 : wr.heap.size ≤ w7.heap.size := h7s.out
            have E2 : Hid _ := e2
            have E3 : Hid _ := e3
            have E4 : Hid _ := e4
            clear hO hBo hB F8 R8 O8' e1 e2 e3 e4
            go_wp2_with fail
            refine C3.mono ?_
            rintro e w9 ⟨rfl, O9, K9⟩
            have O9' : OsP w9 w5.heap.size 36 5 (.slice (some ⟨G, 0, none⟩) s s) (rowsP k m hs L (r + 1)) (fun q => (q < w5.heap.size ∨ q = H) ∨ (wr.heap.size ≤ q ∧ q < w8.heap.size)) := O9.as (by
              rw [hs0'.out]
              refine ro_ext (by rw [mkL_length, rowsP_length]) fun i hi => ?_
              rw [mkL_length] at hi
              rw [ro_mkL hi]
              exact rowsP_next hi)
            have O9i : OwnI w9 w7.heap.size 3 (.slice da (pP k m hs L r).length dc) (pP k m hs L r) := K9.owns O8 fun q hq => by
              have := World.ownsRow.lt O8 q hq
              exact Or.inr ⟨by omega, this.2⟩
            have B9 : Below w5.heap.size w5 w9 := B8.trans (K9.below fun q hq => Or.inl (Or.inl hq))
            have hBo9 := hBo8.keep K9 (Or.inl (Or.inr rfl))
            have C4 := emark_any (O9i.rd (by have := E4.out; omega)) (by have := E4.out; omega) (by rw [hs0'.out]; exact E3.out) hBo9 (fun b9 off9 m9 c9 e9 => by
              simp at e9
              have h9 := World.ownsRow.lt O9i b9 (by
                obtain ⟨_, ⟨q1, _⟩ | ⟨gq, capq, curq, q1, _⟩⟩ := O9i
                · simp at q1; rw [q1.1] at e9; simp at e9
                · simp at q1; rw [q1.1] at e9; simp at e9; rw [q1.1]; simp [Value.ownBlock]; exact e9.1.1)
              omega)
            have K9s := K9.size
            clear C3 O9 hBo8 O8 K9 B8
            go_wp2_with fail
            refine C4.mono ?_
            rintro e w10 ⟨rfl, ho, hB10⟩
            have HO : Hid (OsP w10 w5.heap.size 36 5 (.slice (some ⟨G, 0, none⟩) s s) (rowsP k m hs L (r + 1)) (fun q => q < w5.heap.size ∨ q = H)) := (O9'.only ho (Or.inl (Or.inr rfl))).less fun q hq => Or.inl hq
            have HBo : Hid (BoolF w10 w5.heap.size 4 H s (hurtP k m hs L (r + 1))) := hB10
            have HB : Hid (Below w5.heap.size w5 w10) := B9.trans (ho.below hH5.1)
            have HS : Hid (w5.heap.size + 2 ≤ w10.heap.size) := by show _ ≤ _; rw [ho.size]; omega
            clear C4 ho hB10 O9' hBo9 O9i B9 b78
            go_wp2
            go_roundw
            case rel => exact ⟨r + 1, by omega, rfl, by go_num, HB.out, HO.out, HBo.out, HX, HS⟩
            case measure => simp [intOf]; omega
        · have hge : ¬ (r : Int) < (n : Int) := by omega
          have er : r = n := by omega
          have EE : Hid _ := HOk2.out (fun t ht => hX.out t (by omega))
          have C1 := epl_any (hBo.rdB (by omega)) (by simp; omega)
          have hl9 : Hid (((List.range s).map (hurtP k m hs L r)).length = s) := by show _ = _; simp
          have hp9 : Hid (plc (hb ((List.range s).map (hurtP k m hs L r))) s = shP (k : Int) (m : Int) hs L) := by
            show _ = _
            rw [EE.out.2.2, er, ← hs0'.out]
            exact List.filter_congr fun i hi => by have := List.mem_range.1 hi; simp [hb, List.getD, this]
          have HR : Hid (FarL wr w.heap.size (.slice (some ⟨G, 0, none⟩) s s) (shR (k : Int) (m : Int) hs L)) := by
            show FarL _ _ _ _
            rw [EE.out.2.1, ← er]
            exact ⟨_, _, hO.os.base HB5.out.size⟩
          have HBr : Hid _ := Below.next HB5.out hB
          clear hO hBo hX er hB
          go_wp2_with fail
          refine C1.mono ?_
          rintro e w7 ⟨vd, rfl, O7, b7⟩
          rw [hl9.out, hp9.out] at O7
          obtain ⟨da, dc, rfl⟩ := O7.form
          have HO : Hid (OwnI w7 w.heap.size 3 (.slice da (shP (k : Int) (m : Int) hs L).length dc) (shP (k : Int) (m : Int) hs L)) := ownsRow_base O7 HBr.out.size
          have HR7 : Hid _ := HR.out.later b7
          have HB7 : Hid _ := Below.next HBr.out b7
          clear C1 O7 b7
          go_wp2
          try rw [Exit.noGoto_ret]
          exact bodyPost_ret (v := .tuple #[.slice (some ⟨G, 0, none⟩) s s, .slice da (shP (k : Int) (m : Int) hs L).length dc, .int .i64 0]) (by simp [results, Tryz.results94, go_sem]) rfl ⟨_, _, by rw [EE.out.1], HR7.out, HO.out, HB7.out⟩
    · -- ORDER B
      obtain ⟨G, hG0⟩ : ∃ G, Hid (G = w5.heap.size + 1) := ⟨_, rfl⟩
      obtain ⟨H, hH0⟩ : ∃ H, Hid (H = w5.heap.size) := ⟨_, rfl⟩
      obtain ⟨u6, hu6⟩ : ∃ u6, u6 = ((w5.alloc (.cells (madeCells #[.bool false] s) 4)).alloc (.cells (madeCells #[.slice none 0 0] s) 36)).drew := ⟨_, rfl⟩
      rw [← hu6]
      rw [← hG0.out, ← hH0.out]
      have hGH : G ≠ H := by rw [hG0.out, hH0.out]; omega
      have s6 : u6.heap.size = w5.heap.size + 2 := by rw [hu6]; show (World.alloc _ _).heap.size = _; simp
      have B6 : Below w5.heap.size w5 u6 := by rw [hu6]; exact (below_lit (below_lit (Below.refl _ _) _) _).drew
      have O6 : OsP u6 w5.heap.size 36 5 (.slice (some ⟨G, 0, none⟩) s s) (rowsP k m hs L 0) (fun q => q < w5.heap.size ∨ q = H) := by
        rw [rowsP_zero, ← hs0'.out]
        refine OsP.blank (cs := List.replicate s (.slice none 0 0)) ?_ (fun y hy => List.eq_of_mem_replicate hy) (fun q hq => by have h9 := hG0.out; rcases hq with h | h <;> omega)
        rw [hu6, hG0.out]
        exact made_owns' (w5.alloc (.cells (madeCells #[.bool false] s) 4)) (by simp) (by simp) (by omega)
      have F6 : BoolF u6 w5.heap.size 4 H s (hurtP k m hs L 0) := by
        refine bool_made ?_
        rw [hu6, hH0.out]
        exact World.ownsRow.alloc (made_owns w5 (Nat.le_refl _) (by omega)) _
      clear hu6
      -- BODY
      have hG5 : w5.heap.size ≤ G ∧ G < w5.heap.size + 2 := by have := hG0.out; omega
      have hH5 : w5.heap.size ≤ H ∧ H < w5.heap.size + 2 := by have := hH0.out; omega
      have s6' : Hid (w5.heap.size + 2 ≤ u6.heap.size) := by show _ ≤ _; omega
      have HA : Hid (∀ W, Below w5.heap.size w5 W → ∀ v t, Rd W v (wdAt hs L (k + m) t) → Calls Tryz.prog 167 #[v, .pointer (some ⟨gb, 0, none⟩), .pointer (some ⟨mb, 0, none⟩), .pointer (some ⟨fb, 0, none⟩), .pointer (some ⟨kb, 0, none⟩), .pointer (some ⟨nb, 0, none⟩), .pointer (some ⟨sb, 0, none⟩), .pointer (some ⟨wb, 0, none⟩)] W (Makes10 W (pX k m hs L t) (pR k m hs L t) (pP k m hs L t))) := fun W h v t r =>
        erig1_any ((hF.below B5).below h) (T5.below h) (owns_later O5 h) (N5.below h) (M5.below h) (by have := R5.below h; rw [hWS.out] at this ⊢; exact this) r h1 h2 (wdAt_length _ _ _ _) (by rw [hnl.out]; exact hs0'.out)
      have HWd : Hid (∀ W, Below w5.heap.size w5 W → ∀ t, t < n → Calls Tryz.prog 137 #[.slice za s zc, .slice ma s mc, .int .i64 (t : Int)] W fun e w' => ∃ v, e = .returned v ∧ Rd w' v (wdAt hs L (k + m) t) ∧ Below W.heap.size W w') := fun W h t ht => by
        have := ewat_any ((hH.below B5).below h) ((hL.below B5).below h) (by rw [p1'.out, p2'.out]) (by rw [p1'.out]; omega) (t := t) (fun i hi => by rw [hn'.out i hi]; exact ht) rfl
        rw [p2'.out, hs0'.out] at this
        rw [hs0'.out]
        exact this
      have HB5 : Hid _ := B5
      clear mk1 mk2 hG0 hH0 s6 hF hH hL T5 O5 N5 M5 R5 B5
      go_wp2_with fail
      go_step3
      go_wp2_with fail
      go_loopw [14, 68] (fun er x wr => ∃ r : Nat, r ≤ n ∧ er = .int .i64 0 ∧ x = .int .i64 (r : Int) ∧ Below w5.heap.size w5 wr ∧ OsP wr w5.heap.size 36 5 (.slice (some ⟨G, 0, none⟩) s s) (rowsP k m hs L r) (fun q => q < w5.heap.size ∨ q = H) ∧ BoolF wr w5.heap.size 4 H s (hurtP k m hs L r) ∧ Hid (∀ t, t < r → pX k m hs L t = 0) ∧ Hid (w5.heap.size + 2 ≤ wr.heap.size)) (fun _ x _ => n - (intOf x).toNat)
      case atStart => exact ⟨0, by omega, rfl, rfl, B6, O6, F6, fun t ht => by omega, s6'⟩
      case round =>
        obtain ⟨r, hr, rfl, rfl, hB, hO, hBo, hX, hsz⟩ := hrel
        clear B6 O6 F6 s6'
        by_cases hlt : r < n
        · have hlt' : (r : Int) < (n : Int) := by omega
          have C1 := HWd.out wr hB r hlt
          go_wp2_with fail
          refine C1.mono ?_
          rintro e w7 ⟨vw, rfl, R7, b7⟩
          have B7 : Below w5.heap.size w5 w7 := Below.next hB b7
          have C2 := HA.out w7 B7 vw r R7
          obtain ⟨va, vc, rfl⟩ := R7.form
          clear C1
          go_wp2_with fail
          refine C2.mono ?_
          rintro e w8 ⟨vx, vd, rfl, R8, O8, b8, f8⟩
          obtain ⟨xa, xc, rfl⟩ := R8.form
          obtain ⟨da, dc, rfl⟩ := O8.form
          have B8 := Below.next B7 b8
          have b78 := Below.next b7 b8
          have F8 := f8.mono b7.size
          have h7s : Hid (wr.heap.size ≤ w7.heap.size) := b7.size
          clear C2 R7 b7 b8 f8 B7
          rcases HT.out r with ⟨e1, e2, e3⟩ | ⟨e1, e2, e3, e4⟩
          · have EE : Hid _ := HMany2.out r hlt (by rw [e1]; decide)
            have HBB : Hid (Below w.heap.size w w8) := Below.next HB5.out B8
            rw [e1]
            clear e1 e2 e3 R8 O8 B8 b78 F8 hO hBo hB hX
            go_wp2
            rw [Exit.noGoto_ret]
            exact bodyPost_ret (v := .tuple #[.slice none 0 0, .slice none 0 0, .int .i64 100]) (by simp [results, Tryz.results94, go_sem]) rfl (nilF10 HBB.out EE.out)
          · have HX : Hid (∀ t, t < r + 1 → pX k m hs L t = 0) := fun t ht => by
              by_cases q : t = r
              · rw [q]; exact e1
              · exact hX.out t (by omega)
            rw [e1]
            have sz8 := b78.size
            have szr := hsz.out
            have O8' : OsP w8 w5.heap.size 36 5 (.slice (some ⟨G, 0, none⟩) s s) (rowsP k m hs L r) (fun q => (q < w5.heap.size ∨ q = H) ∨ (wr.heap.size ≤ q ∧ q < w8.heap.size)) := hO.later b78 (fun q hq => by
              rcases hq with h | h
              · exact Or.inl h
              · exact Or.inr h.1)
            have C3 := elay_any O8' (fun q hq => by rcases hq with (h | h) | h <;> omega) R8 (fun x n' c' e => by
              obtain ⟨bb, off, e9, h9, _⟩ := R8.byte (i := 0) (by rw [e2]; omega)
              subst e9
              simp at e
              have h8 := F8 _ _ _ rfl
              rw [← e.1]
              exact Or.inr ⟨h8, h9⟩) (by rw [e2, hs0'.out]) (by rw [rowsP_length, hs0'.out]) (by omega) (fun i => by
              rcases Nat.lt_or_ge i (k + m) with h | h
              · rw [rowsP_ro h, upto_length]; omega
              · rw [ro_ge (by rw [rowsP_length]; exact h)]; simp) (by omega)
            have hBo8 : BoolF w8 w5.heap.size 4 H s (hurtP k m hs L r) := owns_later hBo b78
            have h77 : wr.heap.size ≤ w7.heap.size := h7s.out
            have E2 : Hid _ := e2
            have E3 : Hid _ := e3
            have E4 : Hid _ := e4
            clear hO hBo hB F8 R8 O8' e1 e2 e3 e4
            go_wp2_with fail
            refine C3.mono ?_
            rintro e w9 ⟨rfl, O9, K9⟩
            have O9' : OsP w9 w5.heap.size 36 5 (.slice (some ⟨G, 0, none⟩) s s) (rowsP k m hs L (r + 1)) (fun q => (q < w5.heap.size ∨ q = H) ∨ (wr.heap.size ≤ q ∧ q < w8.heap.size)) := O9.as (by
              rw [hs0'.out]
              refine ro_ext (by rw [mkL_length, rowsP_length]) fun i hi => ?_
              rw [mkL_length] at hi
              rw [ro_mkL hi]
              exact rowsP_next hi)
            have O9i : OwnI w9 w7.heap.size 3 (.slice da (pP k m hs L r).length dc) (pP k m hs L r) := K9.owns O8 fun q hq => by
              have := World.ownsRow.lt O8 q hq
              exact Or.inr ⟨by omega, this.2⟩
            have B9 : Below w5.heap.size w5 w9 := B8.trans (K9.below fun q hq => Or.inl (Or.inl hq))
            have hBo9 := hBo8.keep K9 (Or.inl (Or.inr rfl))
            have C4 := emark_any (O9i.rd (by have := E4.out; omega)) (by have := E4.out; omega) (by rw [hs0'.out]; exact E3.out) hBo9 (fun b9 off9 m9 c9 e9 => by
              simp at e9
              have h9 := World.ownsRow.lt O9i b9 (by
                obtain ⟨_, ⟨q1, _⟩ | ⟨gq, capq, curq, q1, _⟩⟩ := O9i
                · simp at q1; rw [q1.1] at e9; simp at e9
                · simp at q1; rw [q1.1] at e9; simp at e9; rw [q1.1]; simp [Value.ownBlock]; exact e9.1.1)
              omega)
            have K9s := K9.size
            clear C3 O9 hBo8 O8 K9 B8
            go_wp2_with fail
            refine C4.mono ?_
            rintro e w10 ⟨rfl, ho, hB10⟩
            have HO : Hid (OsP w10 w5.heap.size 36 5 (.slice (some ⟨G, 0, none⟩) s s) (rowsP k m hs L (r + 1)) (fun q => q < w5.heap.size ∨ q = H)) := (O9'.only ho (Or.inl (Or.inr rfl))).less fun q hq => Or.inl hq
            have HBo : Hid (BoolF w10 w5.heap.size 4 H s (hurtP k m hs L (r + 1))) := hB10
            have HB : Hid (Below w5.heap.size w5 w10) := B9.trans (ho.below hH5.1)
            have HS : Hid (w5.heap.size + 2 ≤ w10.heap.size) := by show _ ≤ _; rw [ho.size]; omega
            clear C4 ho hB10 O9' hBo9 O9i B9 b78
            go_wp2
            go_roundw
            case rel => exact ⟨r + 1, by omega, rfl, by go_num, HB.out, HO.out, HBo.out, HX, HS⟩
            case measure => simp [intOf]; omega
        · have hge : ¬ (r : Int) < (n : Int) := by omega
          have er : r = n := by omega
          have EE : Hid _ := HOk2.out (fun t ht => hX.out t (by omega))
          have C1 := epl_any (hBo.rdB (by omega)) (by simp; omega)
          have hl9 : Hid (((List.range s).map (hurtP k m hs L r)).length = s) := by show _ = _; simp
          have hp9 : Hid (plc (hb ((List.range s).map (hurtP k m hs L r))) s = shP (k : Int) (m : Int) hs L) := by
            show _ = _
            rw [EE.out.2.2, er, ← hs0'.out]
            exact List.filter_congr fun i hi => by have := List.mem_range.1 hi; simp [hb, List.getD, this]
          have HR : Hid (FarL wr w.heap.size (.slice (some ⟨G, 0, none⟩) s s) (shR (k : Int) (m : Int) hs L)) := by
            show FarL _ _ _ _
            rw [EE.out.2.1, ← er]
            exact ⟨_, _, hO.os.base HB5.out.size⟩
          have HBr : Hid _ := Below.next HB5.out hB
          clear hO hBo hX er hB
          go_wp2_with fail
          refine C1.mono ?_
          rintro e w7 ⟨vd, rfl, O7, b7⟩
          rw [hl9.out, hp9.out] at O7
          obtain ⟨da, dc, rfl⟩ := O7.form
          have HO : Hid (OwnI w7 w.heap.size 3 (.slice da (shP (k : Int) (m : Int) hs L).length dc) (shP (k : Int) (m : Int) hs L)) := ownsRow_base O7 HBr.out.size
          have HR7 : Hid _ := HR.out.later b7
          have HB7 : Hid _ := Below.next HBr.out b7
          clear C1 O7 b7
          go_wp2
          try rw [Exit.noGoto_ret]
          exact bodyPost_ret (v := .tuple #[.slice (some ⟨G, 0, none⟩) s s, .slice da (shP (k : Int) (m : Int) hs L).length dc, .int .i64 0]) (by simp [results, Tryz.results94, go_sem]) rfl ⟨_, _, by rw [EE.out.1], HR7.out, HO.out, HB7.out⟩
theorem esh_far {b : Nat} {k m : Int} {vh vl : Value} {hs : List Bool} {L : List (List UInt8)} {w : World} (hF : FieldAt w b) (hH : RdB w vh hs) (hL : Rs w vl L) (hsm : ∀ i, hb hs i = true → (ro L i).length ≤ 300) : Calls Tryz.prog 94 #[.pointer (some ⟨b, 0, none⟩), .int .i64 k, .int .i64 m, vh, vl] w (MakesF10 w (shX k m hs L) (shR k m hs L) (shP k m hs L)) := by
  by_cases c : OkC k m
  · obtain ⟨k, m, rfl, rfl, h1, h2⟩ := c.nat
    by_cases p1 : hs.length = k + m
    · by_cases p2 : L.length = k + m
      · exact esh_main hF h1 h2 hH hL rfl p1 p2 hsm
      · exact esh_lens hF h1 h2 hH hL rfl (Or.inr p2)
    · exact esh_lens hF h1 h2 hH hL rfl (Or.inl p1)
  · exact esh_bad c hH hL
end Go.Proofs.YtddnfhfangfgeaaGreat.Gf
