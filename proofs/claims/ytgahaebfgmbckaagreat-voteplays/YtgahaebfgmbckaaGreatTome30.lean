/- TEXTS JOINED: VoCB, VoCD. -/
import Derived.Shelf.Abstract
import Derived.Test.YtgahaebfgmbckaaGreatTome29
namespace Go.Proofs.YtgahaebfgmbckaaGreat.Gf
set_option linter.unusedVariables false
set_option linter.unusedSimpArgs false
open Go.RowKit Go.Shelf
theorem info_int17 : (Tryz.prog.info? 3).map (fun i => (i.zero, i.size, i.bytes)) = some (some (.int .i64 0), 1, 8) := by kernel_rfl
/-- the numbers of some disks, as they are read -/
def zsN (l : List Nat) : List Int := l.map fun (i : Nat) => (i : Int)
theorem zsN_length (l : List Nat) : (zsN l).length = l.length := by simp [zsN]
theorem zsN_getD (l : List Nat) (i : Nat) : (zsN l).getD i 0 = ((l.getD i 0 : Nat) : Int) := by
  unfold zsN
  by_cases h : i < l.length
  · simp [List.getD, h]
  · simp [List.getD, Nat.le_of_not_lt h]
theorem row_rdI {w : World} {g t n : Nat} {l : List Nat} {F : Nat → Value} (hn : l.length = n) (h : w.rowIs g t n F) (hF : ∀ i, i < n → F i = .int .i64 ((l.getD i 0 : Nat) : Int)) (hb : n ≤ 1000000) : RdI w (.slice (some ⟨g, 0, none⟩) n n) (zsN l) := by
  by_cases h0 : l = []
  · subst h0
    simp at hn
    subst hn
    exact Or.inl ⟨_, 0, rfl, rfl⟩
  · refine Or.inr ⟨g, 0, n, fun e => h0 (by unfold zsN at e; simpa using e), by rw [zsN_length, hn], by rw [zsN_length, hn]; unfold maxLen; omega, h.lt, fun i hi => ?_⟩
    rw [zsN_length, hn] at hi
    rw [Nat.zero_add, h.cell hi, hF i hi, zsN_getD]
set_option maxRecDepth 100000 in
theorem vall_any {w : World} {ab : Nat} {GA : Nat → Prop} {a : ArS} (h : ArAt w ab GA a) : Calls Tryz.prog 32 #[.pointer (some ⟨ab, 0, none⟩)] w (MadeRow w 3 a.D.length (fun i => .int .i64 (i : Int))) := by
  have KL := alive_any h
  have d2 := h.ok.d2
  obtain ⟨n, hn⟩ : ∃ n, Hid (n = a.D.length) := ⟨_, rfl⟩
  rw [← hn.out] at d2 KL ⊢
  have mk1 := run_make_row' (P := Tryz.prog) 59 3 (.int .i64 0) 8 Tryz.underlying59 info_int17 rfl .i64 .i64 n (by omega) (by omega)
  go_enter Tryz.func32, Tryz.ntmps32
  go_wp2_with fail
  refine KL.mono ?_
  rintro _ w1 ⟨g0, rfl, r1, s1, b1⟩
  clear KL r1 s1
  obtain ⟨u, hu⟩ : ∃ u, u = w1.alloc (Obj.cells (madeCells #[Value.int .i64 0] n) 3) := ⟨_, rfl⟩
  have hub : Below w1.heap.size w1 u := by rw [hu]; exact belR _ _
  have hur : u.rowIs w1.heap.size 3 n (fun _ => .int .i64 0) := by rw [hu]; exact World.rowIs_made _ _ _ _
  have mk2 := mk1 w1
  obtain ⟨g, hg⟩ : ∃ g, Hid (g = w1.heap.size) := ⟨_, rfl⟩
  rw [← hu, ← hg.out] at mk2
  rw [← hg.out] at hur
  have gl : Hid (w.heap.size ≤ g) := by show _ ≤ _; rw [hg.out]; exact b1.size
  have START : Hid (u.rowIs g 3 n (fun j => if j < 0 then .int .i64 (j : Int) else .int .i64 0) ∧ Below w.heap.size w u) := ⟨hur.congr fun j _ => by rw [if_neg (by omega)], b1.step16 hub b1.size⟩
  clear mk1 hu hub hur b1
  go_wp2_with fail
  go_loopw [11] (fun i wr => ∃ k : Nat, k ≤ n ∧ i = .int .i64 (k : Int) ∧ wr.rowIs g 3 n (fun j => if j < k then .int .i64 (j : Int) else .int .i64 0) ∧ Hid (Below w.heap.size w wr)) (fun i _ => n - (intOf i).toNat)
  case atStart => exact ⟨0, Nat.zero_le _, rfl, START.out.1, START.out.2⟩
  case round =>
    clear START
    obtain ⟨k, hk, rfl, hr, hB⟩ := hrel
    by_cases hlt : k < n
    · have hlt' : (k : Int) < (n : Int) := by omega
      have cq := hr.cell hlt
      have fq := hr.frozen k
      have R3 := hr.set k (.int .i64 (k : Int))
      have E2 : Hid ((wr.setCell ⟨g, k, none⟩ (.int .i64 (k : Int))).rowIs g 3 n (fun j => if j < k + 1 then .int .i64 (j : Int) else .int .i64 0)) := R3.congr fun j hj => by
        by_cases e : j = k
        · rw [if_pos e, if_pos (by omega), e]
        · rw [if_neg e]
          by_cases e2 : j < k
          · rw [if_pos e2, if_pos (by omega)]
          · rw [if_neg e2, if_neg (by omega)]
      have B2 : Hid (Below w.heap.size w (wr.setCell ⟨g, k, none⟩ (.int .i64 (k : Int)))) := hB.out.setCell gl.out _
      clear R3 hr hB
      go_wp2
      go_roundw
      case rel => exact ⟨k + 1, by omega, by go_num, E2.out, B2⟩
      case measure => simp [intOf]; omega
    · obtain rfl : k = n := by omega
      have hge : ¬ (k : Int) < (k : Int) := by omega
      have FIN : Hid (wr.rowIs g 3 k (fun j => .int .i64 (j : Int)) ∧ w.heap.size ≤ g ∧ Below w.heap.size w wr) := ⟨hr.congr fun j hj => if_pos hj, gl.out, hB.out⟩
      clear hr hB
      go_wp2
      go_ret
      exact ⟨g, rfl, FIN.out⟩
/-- what going through disks answers: X is what doing it answers, round by round; JE what is left where the power goes, J where it does not -/
def EachP (n : Nat) (X : Nat → Int) (J JE : Nat → World → Prop) (e : Ending) (w' : World) : Prop :=
  (∃ r, r < n ∧ X r = 130 ∧ (∀ i, i < r → ¬ X i = 130) ∧ e = .returned (.tuple #[.int .i64 0, .int .i64 130]) ∧ JE r w') ∨ ((∀ i, i < n → ¬ X i = 130) ∧ e = .returned (.tuple #[.int .i64 ((cnt (fun i => decide (X i = 0)) n : Nat) : Int), .int .i64 0]) ∧ J n w')
set_option maxRecDepth 100000 in
set_option maxHeartbeats 1000000 in
theorem veach_any {F : Nat} {c0 c1 c2 : Value} {da : Option Addr} {dc n : Nat} {zs : List Int} {w : World} (hn : zs.length = n) (hb : n ≤ 1000) {X : Nat → Int} {J JE : Nat → World → Prop}
    (eg : Hid (∀ (args : Array Value) (w : World), Sem.run Tryz.prog (callFunc F args) w = .ok (.enter F args) w))
    (hl : ∀ r W, J r W → RdI W (.slice da n dc) zs)
    (hf : ∀ r W, r < n → J r W → Calls Tryz.prog F #[.int .i64 (zs.getD r 0), c0, c1, c2] W fun e w' => e = .returned (.int .i64 (X r)) ∧ (X r = 130 → JE r w') ∧ (¬ X r = 130 → J (r + 1) w'))
    (h0 : J 0 w) : Calls Tryz.prog 64 #[.slice da n dc, .func (.func F) #[] #[c0, c1, c2]] w (EachP n X J JE) := by
  have HL : Hid (∀ r W, J r W → RdI W (.slice da n dc) zs) := hl
  have HF : Hid (∀ r W, r < n → J r W → Calls Tryz.prog F #[.int .i64 (zs.getD r 0), c0, c1, c2] W fun e w' => e = .returned (.int .i64 (X r)) ∧ (X r = 130 → JE r w') ∧ (¬ X r = 130 → J (r + 1) w')) := hf
  have HZ : Hid (zs.length = n) := hn
  clear hl hf hn
  go_enter Tryz.func64, Tryz.ntmps64
  go_wp2_with fail
  go_loopw [6, 11] (fun c i wr => ∃ r : Nat, r ≤ n ∧ i = .int .i64 (r : Int) ∧ c = .int .i64 ((cnt (fun i => decide (X i = 0)) r : Nat) : Int) ∧ Hid (J r wr) ∧ Hid (∀ i, i < r → ¬ X i = 130)) (fun _ i _ => n - (intOf i).toNat)
  case atStart => exact ⟨0, Nat.zero_le _, rfl, rfl, h0, fun i hi => by omega⟩
  case round =>
    obtain ⟨r, hr, rfl, rfl, hJ, hX⟩ := hrel
    have hc := cnt_le (fun i => decide (X i = 0)) r
    by_cases hlt : r < n
    · have hlt' : (r : Int) < (n : Int) := by omega
      obtain ⟨b, off, rfl, hbs, hcc⟩ := (HL.out r wr hJ.out).at (i := r) (by rw [HZ.out]; exact hlt)
      have K := HF.out r wr hlt hJ.out
      obtain ⟨z, hz⟩ : ∃ z, Hid (z = zs.getD r 0) := ⟨_, rfl⟩
      obtain ⟨x, hx⟩ : ∃ x, Hid (x = X r) := ⟨_, rfl⟩
      rw [← hz.out] at hcc K
      rw [← hx.out] at K
      obtain ⟨c, hcn⟩ : ∃ c, Hid (c = cnt (fun i => decide (X i = 0)) r) := ⟨_, rfl⟩
      rw [← hcn.out] at hc ⊢
      have CS : Hid (cnt (fun i => decide (X i = 0)) (r + 1) = c + if x = 0 then 1 else 0) := by
        show _ = _
        rw [hcn.out, hx.out]
        by_cases q : X r = 0
        · rw [if_pos q, cnt_yes (decide_eq_true q)]
        · rw [if_neg q, cnt_not (decide_eq_false q), Nat.add_zero]
      clear hcn
      go_wp2_with fail
      rw [eg.out, Oper.upon_enter]
      refine K.mono ?_
      rintro _ w1 ⟨rfl, k1, k2⟩
      clear K hcc hJ
      by_cases q0 : x = 0
      · have N1 : Hid (J (r + 1) w1) := k2 (by rw [q0]; decide)
        have N2 : Hid (∀ i, i < r + 1 → ¬ X i = 130) := fun i hi => by
          by_cases e : i = r
          · rw [e, ← hx.out, q0]; decide
          · exact hX.out i (by omega)
        rw [if_pos q0] at CS
        subst q0
        clear k1 k2 hx hX
        go_wp2
        go_roundw
        case rel => exact ⟨r + 1, by omega, by go_num, by rw [CS.out]; go_num, N1, N2⟩
        case measure => simp [intOf]; omega
      · have q0' : (x == 0) = false := beq_eq_false_iff_ne.2 q0
        by_cases q1 : x = 130
        · have FIN : Hid (EachP n X J JE (.returned (.tuple #[.int .i64 0, .int .i64 130])) w1) := Or.inl ⟨r, hlt, by rw [← hx.out, q1], hX.out, rfl, k1 q1⟩
          subst q1
          clear k1 k2 hx hX
          go_wp2
          exact bodyPost_ret (v := .tuple #[.int .i64 0, .int .i64 130]) (by simp [results, Tryz.results64, go_sem]) rfl FIN.out
        · have q1' : (x == 130) = false := beq_eq_false_iff_ne.2 q1
          have N1 : Hid (J (r + 1) w1) := k2 q1
          have N2 : Hid (∀ i, i < r + 1 → ¬ X i = 130) := fun i hi => by
            by_cases e : i = r
            · rw [e, ← hx.out]; exact q1
            · exact hX.out i (by omega)
          rw [if_neg q0] at CS
          clear k1 k2 hx hX
          go_wp2
          go_roundw
          case rel => exact ⟨r + 1, by omega, by go_num, by rw [CS.out]; rfl, N1, N2⟩
          case measure => simp [intOf]; omega
    · obtain rfl : r = n := by omega
      have hge : ¬ (r : Int) < (r : Int) := by omega
      have FIN : Hid (EachP r X J JE (.returned (.tuple #[.int .i64 ((cnt (fun i => decide (X i = 0)) r : Nat) : Int), .int .i64 0])) wr) := Or.inr ⟨hX.out, rfl, hJ.out⟩
      clear hJ hX hc
      go_wp2
      exact bodyPost_ret (v := .tuple #[.int .i64 ((cnt (fun i => decide (X i = 0)) r : Nat) : Int), .int .i64 0]) (by simp [results, Tryz.results64, go_sem]) rfl FIN.out
/-- three variables in boxes -/
theorem box3 {w W : World} {x y z : Value} {s t u : Nat} (h : W = ((w.alloc (.cells #[x] s)).alloc (.cells #[y] t)).alloc (.cells #[z] u)) : Below w.heap.size w W ∧ W.cell? ⟨w.heap.size, 0, none⟩ = some x ∧ W.cell? ⟨w.heap.size + 1, 0, none⟩ = some y ∧ W.cell? ⟨w.heap.size + 1 + 1, 0, none⟩ = some z ∧ W.heap.size = w.heap.size + 3 := by
  obtain ⟨u1, hu1⟩ : ∃ u1, u1 = w.alloc (.cells #[x] s) := ⟨_, rfl⟩
  obtain ⟨u2, hu2⟩ : ∃ u2, u2 = u1.alloc (.cells #[y] t) := ⟨_, rfl⟩
  rw [← hu1, ← hu2] at h
  have s1 : u1.heap.size = w.heap.size + 1 := by rw [hu1]; simp
  have s2 : u2.heap.size = w.heap.size + 1 + 1 := by rw [hu2, ← s1]; simp
  have s3 : W.heap.size = w.heap.size + 3 := by
    have : W.heap.size = u2.heap.size + 1 := by rw [h]; simp
    omega
  have b1 : Below w.heap.size w u1 := by rw [hu1]; exact belR _ _
  have b2 : Below u1.heap.size u1 u2 := by rw [hu2]; exact belR _ _
  have b3 : Below u2.heap.size u2 W := by rw [h]; exact belR _ _
  have k1 : u1.cell? ⟨w.heap.size, 0, none⟩ = some x := by rw [hu1]; exact World.cell?_alloc_new _ _ _ _
  have k2 : u2.cell? ⟨u1.heap.size, 0, none⟩ = some y := by rw [hu2]; exact World.cell?_alloc_new _ _ _ _
  have k3 : W.cell? ⟨u2.heap.size, 0, none⟩ = some z := by rw [h]; exact World.cell?_alloc_new _ _ _ _
  have b23 := b2.step16 b3 b2.size
  refine ⟨b1.step16 b23 b1.size, (b23.cell (p := ⟨w.heap.size, 0, none⟩) (by show w.heap.size < _; omega)).trans k1, ?_, ?_, s3⟩
  · rw [← s1]; exact (b3.cell (p := ⟨u1.heap.size, 0, none⟩) (by show u1.heap.size < _; omega)).trans k2
  · rw [← s2]; exact k3
theorem enters_write1 : Hid (∀ (args : Array Value) (w : World), Sem.run Tryz.prog (callFunc 65 args) w = .ok (.enter 65 args) w) := enters_of Tryz.func65 (by kernel_rfl) rfl
set_option maxRecDepth 100000 in
theorem vwrite1_any {w : World} {ab : Nat} {GA : Nat → Prop} {a : ArS} (h : ArAt w ab GA a) {i ad : Int} (hi : (Lit.int .i64 i).wf = true) (ha : (Lit.int .i64 ad).wf = true) {v : Value} {b : List UInt8} (hp : Rd w v b) {b0 b1 b2 : Nat}
    (c0 : w.cell? ⟨b0, 0, none⟩ = some (.pointer (some ⟨ab, 0, none⟩))) (c1 : w.cell? ⟨b1, 0, none⟩ = some (.int .i64 ad)) (c2 : w.cell? ⟨b2, 0, none⟩ = some v) :
    Calls Tryz.prog 65 #[.int .i64 i, .pointer (some ⟨b0, 0, none⟩), .pointer (some ⟨b1, 0, none⟩), .pointer (some ⟨b2, 0, none⟩)] w (LeavesA w ab GA (wrAS a i ad b) (.int .i64 (wrAX a i ad b))) := by
  have K := awrite_any h hi ha hp
  obtain ⟨va, vc, ev⟩ := hp.form
  subst ev
  obtain ⟨x, hx⟩ : ∃ x, Hid (x = wrAX a i ad b) := ⟨_, rfl⟩
  obtain ⟨s, hs⟩ : ∃ s, Hid (s = wrAS a i ad b) := ⟨_, rfl⟩
  rw [← hx.out, ← hs.out] at K ⊢
  clear hp h hx hs
  go_enter Tryz.func65, Tryz.ntmps65
  go_wp2_with fail
  refine K.mono ?_
  rintro _ w1 ⟨rfl, L⟩
  have FIN : Hid (∃ GA', ArAt w1 ab GA' s ∧ Grew GA w GA' w1) := L
  clear L K
  go_wp2
  go_ret
  exact ⟨rfl, FIN.out⟩
set_option maxRecDepth 100000 in
theorem vwrite_any {w : World} {ab : Nat} {GA : Nat → Prop} {a : ArS} (h : ArAt w ab GA a) {ad : Int} (ha : (Lit.int .i64 ad).wf = true) {pv : Value} {b : List UInt8} (hp : ∀ W, TurnG GA w W → Rd W pv b) {da : Option Addr} {dc n : Nat} {l : List Nat} (hn : l.length = n) (hb : n ≤ 1000) (hs : ∀ i, i < n → l.getD i 0 ≤ 1000) (hd : ∀ W, TurnG GA w W → RdI W (.slice da n dc) (zsN l)) :
    Calls Tryz.prog 31 #[.pointer (some ⟨ab, 0, none⟩), .slice da n dc, .int .i64 ad, pv] w (LeavesA w ab GA (puW a ad b l n).st (.tuple #[.int .i64 (puN (puW a ad b l n)), .int .i64 (puE (puW a ad b l n))])) := by
  obtain ⟨va, vc, ev⟩ := (hp w (TurnG.refl _ _)).form
  subst ev
  obtain ⟨W, hW⟩ : ∃ W, W = ((w.alloc (.cells #[.pointer (some ⟨ab, 0, none⟩)] 24)).alloc (.cells #[.int .i64 ad] 3)).alloc (.cells #[.slice va b.length vc] 32) := ⟨_, rfl⟩
  obtain ⟨B, c0, c1, c2, sz⟩ := box3 hW
  have hA := h.below B
  have lG := h.lt
  have ng : ∀ k, w.heap.size ≤ k → ¬ GA k := fun k hk e => by have := lG k e; omega
  have KE := @veach_any 65 (.pointer (some ⟨w.heap.size, 0, none⟩)) (.pointer (some ⟨w.heap.size + 1, 0, none⟩)) (.pointer (some ⟨w.heap.size + 1 + 1, 0, none⟩)) da dc n (zsN l) W (by rw [zsN_length, hn]) hb (wxW a ad b l)
    (fun r V => (∃ GA', ArAt V ab GA' (puW a ad b l r).st ∧ Grew GA W GA' V) ∧ ∀ i, i < r → ¬ wxW a ad b l i = 130) (fun r V => ∃ GA', ArAt V ab GA' (puW a ad b l r).st ∧ Grew GA W GA' V) enters_write1
    (fun r V ⟨⟨GA', _, g⟩, _⟩ => hd V ((Below.turnG B GA).trans g.turn))
    (fun r V hr ⟨⟨GA', k1, g⟩, k3⟩ => by
      have q := vwrite1_any k1 (i := (zsN l).getD r 0) (by rw [zsN_getD]; have := hs r hr; exact WalkArith.wf_i64 (by omega)) ha (hp V ((Below.turnG B GA).trans g.turn))
        ((g.turn.cell (p := ⟨w.heap.size, 0, none⟩) (by show w.heap.size < _; omega) (ng _ (Nat.le_refl _))).trans c0) ((g.turn.cell (p := ⟨w.heap.size + 1, 0, none⟩) (by show w.heap.size + 1 < _; omega) (ng (w.heap.size + 1) (by omega))).trans c1) ((g.turn.cell (p := ⟨w.heap.size + 1 + 1, 0, none⟩) (by show w.heap.size + 1 + 1 < _; omega) (ng (w.heap.size + 1 + 1) (by omega))).trans c2)
      refine q.mono ?_
      rintro _ V2 ⟨rfl, GA2, A2, g2⟩
      rw [zsN_getD] at A2 ⊢
      refine ⟨rfl, fun e => ⟨GA2, ?_, g.trans g2⟩, fun e => ⟨⟨GA2, ?_, g.trans g2⟩, fun i hi => ?_⟩⟩
      · rw [puW_st e] at A2; exact A2
      · rw [(puW_go (puW_calm r k3).1 e).2]; exact A2
      · by_cases q : i = r
        · rw [q]; exact e
        · exact k3 i (by omega))
    ⟨⟨GA, hA, Grew.refl _ _⟩, fun i hi => by omega⟩
  have FIN : Hid (∀ e V, EachP n (wxW a ad b l) (fun r V => (∃ GA', ArAt V ab GA' (puW a ad b l r).st ∧ Grew GA W GA' V) ∧ ∀ i, i < r → ¬ wxW a ad b l i = 130) (fun r V => ∃ GA', ArAt V ab GA' (puW a ad b l r).st ∧ Grew GA W GA' V) e V → LeavesA w ab GA (puW a ad b l n).st (.tuple #[.int .i64 (puN (puW a ad b l n)), .int .i64 (puE (puW a ad b l n))]) e V) := by
    rintro e V (⟨r, hr, x1, x2, rfl, GA', A1, g1⟩ | ⟨x2, rfl, ⟨GA', A1, g1⟩, _⟩)
    · obtain ⟨y1, y2⟩ := puW_crash x2 x1 hr
      unfold puN puE
      rw [y1, y2]
      exact ⟨rfl, GA', A1, (Grew.of_below B).trans g1⟩
    · obtain ⟨y1, y2⟩ := puW_calm n x2
      unfold puN puE
      rw [y1, if_neg (by decide), if_neg (by decide), y2]
      exact ⟨rfl, GA', A1, (Grew.of_below B).trans g1⟩
  clear hA h hp hd hs lG ng c0 c1 c2 sz B
  go_enter Tryz.func31, Tryz.ntmps31
  go_wp2_with fail
  rw [← hW]
  refine KE.mono ?_
  rintro _ V (⟨r, hr, x1, x2, rfl, k⟩ | ⟨x2, rfl, k⟩)
  · have F : Hid (LeavesA w ab GA (puW a ad b l n).st (.tuple #[.int .i64 (puN (puW a ad b l n)), .int .i64 (puE (puW a ad b l n))]) (.returned (.tuple #[.int .i64 0, .int .i64 130])) V) := FIN.out _ V (Or.inl ⟨r, hr, x1, x2, rfl, k⟩)
    clear FIN KE x1 x2 k hW
    go_wp2
    exact bodyPost_ret (v := .tuple #[.int .i64 0, .int .i64 130]) (by simp [results, Tryz.results31, go_sem]) rfl F.out
  · obtain ⟨c, hc⟩ : ∃ c, Hid (c = cnt (fun i => decide (wxW a ad b l i = 0)) n) := ⟨_, rfl⟩
    have F : Hid (LeavesA w ab GA (puW a ad b l n).st (.tuple #[.int .i64 (puN (puW a ad b l n)), .int .i64 (puE (puW a ad b l n))]) (.returned (.tuple #[.int .i64 (c : Int), .int .i64 0])) V) := by
      rw [hc.out]
      exact FIN.out _ V (Or.inr ⟨x2, rfl, k⟩)
    rw [← hc.out]
    clear FIN KE x2 k hW hc
    go_wp2
    exact bodyPost_ret (v := .tuple #[.int .i64 (c : Int), .int .i64 0]) (by simp [results, Tryz.results31, go_sem]) rfl F.out
end Go.Proofs.YtgahaebfgmbckaaGreat.Gf

namespace Go.Proofs.YtgahaebfgmbckaaGreat.Gf
set_option linter.unusedVariables false
set_option linter.unusedSimpArgs false
open Go.RowKit Go.Shelf
/-- a reply's four cells -/
def rpC (r : RpS) (j : Nat) : Value := if j = 0 then .bool r.sp else if j = 1 then .bool r.has else if j = 2 then .int .i64 r.ep else .string ⟨r.da.toArray⟩
/-- a row of replies -/
def RpRow (w : World) (g n : Nat) (f : Nat → RpS) : Prop := w.rowIs g 121 (n * 4) (fun j => rpC (f (j / 4)) (j % 4))
section
variable {w w' : World} {g n : Nat} {f f' : Nat → RpS}
theorem RpRow.lt (h : RpRow w g n f) : g < w.heap.size := World.rowIs.lt h
theorem RpRow.congr (h : RpRow w g n f) (e : ∀ i, i < n → f i = f' i) : RpRow w g n f' := World.rowIs.congr h fun j hj => by rw [e (j / 4) (by omega)]
theorem RpRow.block (h : RpRow w g n f) (e : w'.heap[g]? = w.heap[g]?) : RpRow w' g n f := World.rowIs.of_block h e
theorem RpRow.below (h : RpRow w g n f) (b : Below w.heap.size w w') : RpRow w' g n f := h.block (b.block g h.lt)
theorem RpRow.get (h : RpRow w g n f) {i j : Nat} (hi : i < n) (hj : j < 4) : w.cell? ⟨g, i * 4 + j, none⟩ = some (rpC (f i) j) := by
  have := World.rowIs.cell h (i := i * 4 + j) (by omega)
  rw [this, show (i * 4 + j) / 4 = i by omega, show (i * 4 + j) % 4 = j by omega]
theorem RpRow.cells (h : RpRow w g n f) {i : Nat} (hi : i < n) : w.cell? ⟨g, i * 4, none⟩ = some (.bool (f i).sp) ∧ w.cell? ⟨g, i * 4 + 1, none⟩ = some (.bool (f i).has) ∧ w.cell? ⟨g, i * 4 + 2, none⟩ = some (.int .i64 (f i).ep) ∧ w.cell? ⟨g, i * 4 + 3, none⟩ = some (.string ⟨(f i).da.toArray⟩) :=
  ⟨h.get hi (j := 0) (by decide), h.get hi (j := 1) (by decide), h.get hi (j := 2) (by decide), h.get hi (j := 3) (by decide)⟩
theorem RpRow.frozen (h : RpRow w g n f) (j : Nat) : w.frozen? ⟨g, j, none⟩ = false := World.rowIs.frozen h j
theorem RpRow.put (h : RpRow w g n f) (i : Nat) (r : RpS) : RpRow ((((w.setCell ⟨g, i * 4, none⟩ (.bool r.sp)).setCell ⟨g, i * 4 + 1, none⟩ (.bool r.has)).setCell ⟨g, i * 4 + 2, none⟩ (.int .i64 r.ep)).setCell ⟨g, i * 4 + 3, none⟩ (.string ⟨r.da.toArray⟩)) g n (fun k => if k = i then r else f k) := by
  refine World.rowIs.congr ((((World.rowIs.set h _ _).set _ _).set _ _).set _ _) fun j hj => ?_
  show _ = rpC (if j / 4 = i then r else f (j / 4)) (j % 4)
  by_cases e3 : j = i * 4 + 3
  · subst e3
    rw [if_pos rfl, if_pos (by omega), show (i * 4 + 3) % 4 = 3 by omega]; rfl
  rw [if_neg e3]
  by_cases e2 : j = i * 4 + 2
  · subst e2
    rw [if_pos rfl, if_pos (by omega), show (i * 4 + 2) % 4 = 2 by omega]; rfl
  rw [if_neg e2]
  by_cases e1 : j = i * 4 + 1
  · subst e1
    rw [if_pos rfl, if_pos (by omega), show (i * 4 + 1) % 4 = 1 by omega]; rfl
  rw [if_neg e1]
  by_cases e0 : j = i * 4
  · subst e0
    rw [if_pos rfl, if_pos (by omega), show (i * 4) % 4 = 0 by omega]; rfl
  rw [if_neg e0, if_neg (by omega)]
theorem info_reply : (Tryz.prog.info? 121).map (fun i => (i.zero, i.size, i.bytes)) = some (some (.agg #[.bool false, .bool false, .int .i64 0, .string ⟨#[]⟩]), 4, 32) := by kernel_rfl
theorem run_make_replies (n : Nat) (hn : n ≤ 1000) (w : World) : (Instr.makeSlice 83 (.int .i64 (n : Int)) (.int .i64 (n : Int))).run Tryz.prog w = .ok (.slice (some ⟨w.heap.size, 0, none⟩) n n) (w.alloc (.cells (madeCells #[.bool false, .bool false, .int .i64 0, .string ⟨#[]⟩] (n * 4)) 121)) := by
  obtain ⟨i, hi, hzz⟩ := Option.map_eq_some_iff.1 info_reply
  simp only [Prod.mk.injEq] at hzz
  obtain ⟨hz, hs, hb⟩ := hzz
  have hr := run_make (P := Tryz.prog) w 83 121 i _ Tryz.underlying83 hi hz .i64 .i64 n n (by omega) (Int.le_refl _) (by rw [hb]; omega) (by omega)
  simp only [Int.toNat_natCast, hs] at hr
  exact hr
theorem RpRow.made (w : World) (n : Nat) : RpRow (w.alloc (.cells (madeCells #[.bool false, .bool false, .int .i64 0, .string ⟨#[]⟩] (n * 4)) 121)) w.heap.size n (fun _ => rpN) := by
  refine ⟨_, Deep.blk_alloc_new _ _, size_madeCells _ _, fun i hi => ?_⟩
  have h4 : i % 4 < 4 := Nat.mod_lt _ (by decide)
  have : i % 4 = 0 ∨ i % 4 = 1 ∨ i % 4 = 2 ∨ i % 4 = 3 := by omega
  rcases this with e | e | e | e <;> simp [madeCells, hi, e, rpC, rpN]
end
set_option maxRecDepth 100000 in
set_option maxHeartbeats 2000000 in
theorem vask1_any {w : World} {ab : Nat} {GA : Nat → Prop} {a : ArS} (h : ArAt w ab GA a) {i n g : Nat} (hi : i < n) (hn : n ≤ 1000) {ad : Int} (ha : (Lit.int .i64 ad).wf = true) {f : Nat → RpS} (hR : RpRow w g n f) {b0 b1 b2 : Nat} (n0 : b0 ≠ g) (n1 : b1 ≠ g) (n2 : b2 ≠ g)
    (c0 : w.cell? ⟨b0, 0, none⟩ = some (.pointer (some ⟨ab, 0, none⟩))) (c1 : w.cell? ⟨b1, 0, none⟩ = some (.int .i64 ad)) (c2 : w.cell? ⟨b2, 0, none⟩ = some (.slice (some ⟨g, 0, none⟩) n n)) :
    Calls Tryz.prog 66 #[.int .i64 (i : Int), .pointer (some ⟨b0, 0, none⟩), .pointer (some ⟨b1, 0, none⟩), .pointer (some ⟨b2, 0, none⟩)] w fun e w' => e = .returned (.int .i64 (rdAX a (i : Int) ad)) ∧ TurnG (fun k => k = g) w w' ∧ RpRow w' g n (fun k => if k = i then (if rdAX a (i : Int) ad = 0 then heS ad (rdAB a (i : Int) ad) else f i) else f k) := by
  have KR := aread_any h (i := (i : Int)) (ad := ad) (WalkArith.wf_i64 (by omega)) ha
  have lp : (rdAB a (i : Int) ad).length ≤ 100000 := Nat.le_trans (rdB_le h.ok _ _) (by decide)
  obtain ⟨x, hx⟩ : ∃ x, Hid (x = rdAX a (i : Int) ad) := ⟨_, rfl⟩
  obtain ⟨p, hp⟩ : ∃ p, Hid (p = rdAB a (i : Int) ad) := ⟨_, rfl⟩
  rw [← hx.out, ← hp.out] at KR ⊢
  rw [← hp.out] at lp
  have l1 : b1 < w.heap.size := World.block_lt_of_cell? w _ c1
  have l2 : b2 < w.heap.size := World.block_lt_of_cell? w _ c2
  have HN : Hid (b1 ≠ g ∧ b2 ≠ g) := ⟨n1, n2⟩
  clear hx hp h n0 n1 n2
  go_enter Tryz.func66, Tryz.ntmps66
  go_wp2_with fail
  refine KR.mono ?_
  rintro _ w1 ⟨v, rfl, O1, B1⟩
  have R1 := Rd.owned O1
  obtain ⟨va, vc, ev⟩ := R1.form
  subst ev
  replace c1 := (B1.cell (p := ⟨b1, 0, none⟩) l1).trans c1
  replace c2 := (B1.cell (p := ⟨b2, 0, none⟩) l2).trans c2
  have hR1 := hR.below B1
  clear KR O1 c0
  by_cases q : x = 0
  · subst q
    have HH := fun W (b : Below w1.heap.size w1 W) => hear_any (ad := ad) (R1.below b) lp
    obtain ⟨r, hr⟩ : ∃ r, Hid (r = heS ad p) := ⟨_, rfl⟩
    rw [← hr.out] at HH
    obtain ⟨rs, rh, re, rd⟩ := r
    have HR : Hid (RpRow w1 g n f) := hR1
    have HB : Hid (Below w.heap.size w w1) := B1
    have hi' : (i : Int) < (n : Int) := by omega
    have l1' : b1 < w1.heap.size := Nat.lt_of_lt_of_le l1 B1.size
    have l2' : b2 < w1.heap.size := Nat.lt_of_lt_of_le l2 B1.size
    have s0 : w1.cell? ⟨b1, 0, none⟩ = some (.int .i64 ad) ∧ w1.cell? ⟨b2, 0, none⟩ = some (.slice (some ⟨g, 0, none⟩) n n) := ⟨c1, c2⟩
    have SE : Hid (∀ W, Below w1.heap.size w1 W → (W.cell? ⟨b1, 0, none⟩ = some (.int .i64 ad) ∧ W.cell? ⟨b2, 0, none⟩ = some (.slice (some ⟨g, 0, none⟩) n n))) := fun W b => ⟨(b.cell (p := ⟨b1, 0, none⟩) l1').trans c1, (b.cell (p := ⟨b2, 0, none⟩) l2').trans c2⟩
    have BD : Below w1.heap.size w1 w1.drew := (Below.refl _ _).drew
    have sD := SE.out _ BD
    have EV : Hid (agRp ⟨rs, rh, re, rd⟩ = .agg #[.bool rs, .bool rh, .int .i64 re, .string ⟨rd.toArray⟩]) := rfl
    rw [EV.out] at HH
    have HK : Hid (∀ W W', Only g W W' → (W.cell? ⟨b1, 0, none⟩ = some (.int .i64 ad) ∧ W.cell? ⟨b2, 0, none⟩ = some (.slice (some ⟨g, 0, none⟩) n n)) → (W'.cell? ⟨b1, 0, none⟩ = some (.int .i64 ad) ∧ W'.cell? ⟨b2, 0, none⟩ = some (.slice (some ⟨g, 0, none⟩) n n))) := fun W W' o k => ⟨(o.cell (p := ⟨b1, 0, none⟩) HN.out.1).trans k.1, (o.cell (p := ⟨b2, 0, none⟩) HN.out.2).trans k.2⟩
    clear hR hR1 B1 R1 EV
    go_wp2_with fail
    go_region_held3 (fun wx => wx.cell? ⟨b1, 0, none⟩ = some (.int .i64 ad) ∧ wx.cell? ⟨b2, 0, none⟩ = some (.slice (some ⟨g, 0, none⟩) n n)) (first | exact s0 | exact sD | exact s1 | exact HK.out _ _ (((((Only.refl g _).setCell _ _).setCell _ _).setCell _ _).setCell _ _) s1) (first
      | (go_at_call 67; go_loud (refine (HH _ BD).mono ?_); rintro _ w2 ⟨rfl, B2⟩; have B3 := BD.step16 B2 BD.size; have s1 := SE.out _ B3; have R2 := HR.out.below B3; have f0 := R2.frozen (i * 4); have f1 := R2.frozen (i * 4 + 1); have f2 := R2.frozen (i * 4 + 2); have f3 := R2.frozen (i * 4 + 3); obtain ⟨m0, m1, m2, m3⟩ := R2.cells hi))
    have FIN : Hid (TurnG (fun k => k = g) w ((((w2.setCell ⟨g, i * 4, none⟩ (.bool rs)).setCell ⟨g, i * 4 + 1, none⟩ (.bool rh)).setCell ⟨g, i * 4 + 2, none⟩ (.int .i64 re)).setCell ⟨g, i * 4 + 3, none⟩ (.string ⟨rd.toArray⟩)) ∧ RpRow ((((w2.setCell ⟨g, i * 4, none⟩ (.bool rs)).setCell ⟨g, i * 4 + 1, none⟩ (.bool rh)).setCell ⟨g, i * 4 + 2, none⟩ (.int .i64 re)).setCell ⟨g, i * 4 + 3, none⟩ (.string ⟨rd.toArray⟩)) g n (fun k => if k = i then heS ad p else f k)) := by
      refine ⟨(Below.turnG (HB.out.step16 B3 HB.out.size) _).trans (Only.turnG (((((Only.refl g _).setCell _ _).setCell _ _).setCell _ _).setCell _ _) rfl), ?_⟩
      rw [← hr.out]
      exact R2.put i ⟨rs, rh, re, rd⟩
    clear B2 B3 R2 f0 f1 f2 f3 m0 m1 m2 m3 s0 s1 sD BD HH
    go_wp2
    go_ret
    exact ⟨rfl, by simpa using FIN.out⟩
  · have q' : (x == 0) = false := beq_eq_false_iff_ne.2 q
    have FIN : Hid (TurnG (fun k => k = g) w w1 ∧ RpRow w1 g n (fun k => if k = i then (if x = 0 then heS ad p else f i) else f k)) := ⟨Below.turnG B1 _, hR1.congr fun k hk => by
      rw [if_neg q]
      by_cases e : k = i
      · rw [if_pos e, e]
      · rw [if_neg e]⟩
    clear hR hR1 B1 R1
    go_wp2
    go_ret
    exact ⟨rfl, by simpa [q] using FIN.out⟩
end Go.Proofs.YtgahaebfgmbckaaGreat.Gf
