/- TEXTS JOINED: MxRInvB, MxRInvC, BkRefA, BkCop, BkRefE, ErRefD. -/
import Derived.Test.YtchfonofjbpmaaaTome15
import Derived.Test.YtchfonofjbpmaaaTome17
import Derived.Test.YtchfonofjbpmaaaTome4
import Derived.Test.YtchfonofjbpmaaaTome13
import Derived.Test.YtchfonofjbpmaaaTome5
import Derived.Test.YtchfonofjbpmaaaTome3
import Derived.Test.YtchfonofjbpmaaaTome16
import Derived.BigQuiet
import Derived.Test.YtchfonofjbpmaaaTome8
/-
  PLAIN MATHEMATICS: one column of an inverse by rows' steps, as the document's answer takes them (no row is scaled till the end).
-/

namespace Go.Proofs.Ytchfonofjbpmaaa.Gf
set_option linter.unusedVariables false
set_option linter.unusedSimpArgs false
open Go.RowKit

def clr2 (F : Mx) (c k : Nat) : Mx := fun i j => if i = c then F c j else if i < k then clearL (F i) (F c) c j else F i j
theorem clr2_zero (F : Mx) (c : Nat) : clr2 F c 0 = F := by
  funext i j
  unfold clr2
  by_cases e : i = c
  · rw [if_pos e, e]
  · rw [if_neg e, if_neg (Nat.not_lt_zero _)]
theorem clr2_skip (F : Mx) (c : Nat) : clr2 F c (c + 1) = clr2 F c c := by
  funext i j
  unfold clr2
  by_cases e : i = c
  · rw [if_pos e, if_pos e]
  · rw [if_neg e, if_neg e]
    by_cases h : i < c
    · rw [if_pos h, if_pos (by omega)]
    · rw [if_neg h, if_neg (by omega)]
theorem clr2_other {F : Mx} {c k i : Nat} (hi : i ≠ k) (j : Nat) : clr2 F c k i j = clr2 F c (k + 1) i j := by
  unfold clr2
  by_cases e : i = c
  · rw [if_pos e, if_pos e]
  · rw [if_neg e, if_neg e]
    by_cases h : i < k
    · rw [if_pos h, if_pos (by omega)]
    · rw [if_neg h, if_neg (by omega)]
theorem clr2_row {F : Mx} {c k : Nat} (hk : k ≠ c) : clr2 F c k k = F k := by
  funext j; unfold clr2; rw [if_neg hk, if_neg (by omega)]
theorem clr2_piv (F : Mx) (c k : Nat) : clr2 F c k c = F c := by
  funext j; unfold clr2; rw [if_pos rfl]
theorem clr2_new {F : Mx} {c k : Nat} (hk : k ≠ c) (j : Nat) : clr2 F c (k + 1) k j = clearL (F k) (F c) c j := by
  unfold clr2; rw [if_neg hk, if_pos (by omega)]
theorem gj2_clear {n k : Nat} {A F : Mx} (h : GJ n A F (rt n F) k) (hk : k < n) (j : Nat) (hj : j ≤ n) : GJ n A (clr2 F k j) (rt n (clr2 F k j)) k := by
  induction j with
  | zero => rw [clr2_zero]; exact h
  | succ j ih =>
    have g := ih (by omega)
    by_cases e : j = k
    · subst e; rw [clr2_skip]; exact g
    · have key : ∀ i x, (if i = j then clr2 F k j i x ^^^ mu (mu (F j k) (iv (F k k))) (clr2 F k j k x) else clr2 F k j i x) = clr2 F k (j + 1) i x := by
        intro i x
        by_cases e2 : i = j
        · subst e2; rw [if_pos rfl, clr2_row e, clr2_piv, clr2_new e]; rfl
        · rw [if_neg e2, clr2_other e2]
      exact (g.clear (r := j) (x := mu (F j k) (iv (F k k))) (by omega) hk e).congr (by omega) (fun _ _ _ _ => rfl) (fun i x _ _ => key i x) (fun i x _ _ => key i (n + x))
theorem sw_self {l k : Nat} : sw l k k = l := by
  unfold sw
  by_cases e : k = l
  · rw [if_pos e]; exact e
  · rw [if_neg e, if_pos rfl]
theorem gj2_round {n k l : Nat} {A W : Mx} (h : GJ n A W (rt n W) k) (hkl : k ≤ l) (hl : l < n) (hp : W l k ≠ 0) :
    GJ n A (clr2 (fun i j => W (sw l k i) j) k n) (rt n (clr2 (fun i j => W (sw l k i) j) k n)) (k + 1) := by
  have g1 : GJ n A (fun i j => W (sw l k i) j) (rt n (fun i j => W (sw l k i) j)) k := h.swap hkl hl
  obtain ⟨F, hF⟩ : ∃ F : Mx, F = fun i j => W (sw l k i) j := ⟨_, rfl⟩
  rw [← hF] at g1 ⊢
  have hpF : F k k ≠ 0 := by rw [hF]; show W (sw l k k) k ≠ 0; rw [sw_self]; exact hp
  refine (gj2_clear g1 (by omega) n (Nat.le_refl _)).next (fun i hi hik => ?_) (by rw [clr2_piv]; exact hpF)
  unfold clr2 clearL
  rw [if_neg hik, if_pos hi, mu_assoc, mu_comm (iv (F k k)) (F k k), mu_iv hpF, mu_one, x_self]
/-- rows that were widened by the identity's -/
def wrow (n : Nat) (A : List UInt8) (k i : Nat) : List UInt8 := if i < k then upto (wideF n A i) (n + n) else upto (fun j => en n A i j) n
theorem wrow_step {n : Nat} {A : List UInt8} {k i : Nat} (h : i ≠ k) : wrow n A (k + 1) i = wrow n A k i := by
  unfold wrow
  by_cases h2 : i < k
  · rw [if_pos h2, if_pos (by omega)]
  · rw [if_neg h2, if_neg (by omega)]
theorem wrow_new (n : Nat) (A : List UInt8) (k : Nat) : wrow n A (k + 1) k = upto (fun j => en n A k j) n ++ upto (fun j => one k j) n := by
  unfold wrow
  rw [if_pos (by omega), upto_add]
  congr 1
  · exact upto_congr fun j hj => if_pos hj
  · refine upto_congr fun j hj => ?_
    show (if n + j < n then en n A k (n + j) else one k (n + j - n)) = one k j
    rw [if_neg (by omega), Nat.add_sub_cancel_left]
theorem wrow_old (n : Nat) (A : List UInt8) (k : Nat) : wrow n A k k = upto (fun j => en n A k j) n := by unfold wrow; rw [if_neg (by omega)]
theorem wrow_zero (n : Nat) (A : List UInt8) : wrow n A 0 = fun i => upto (fun j => en n A i j) n := by funext i; unfold wrow; rw [if_neg (Nat.not_lt_zero _)]
theorem RowsO.grid {w : World} {base u bt G n C : Nat} {vals : List Value} {A : List UInt8} (h : RowsO w base u (.slice (some ⟨G, 0, none⟩) n C) vals (wrow n A n)) (hv : w.ownsRow base bt 1 (.slice (some ⟨G, 0, none⟩) n C) n vals) : Grid w base bt G n C (n + n) (wideF n A) := by
  have hlen : vals.length = n := by have := hv.1; omega
  refine ⟨vals, hv, fun i hi => ?_⟩
  have hx : vals[i]? = some (vals[i]'(by omega)) := List.getElem?_eq_getElem (by omega)
  refine ⟨_, hx, ?_, fun a m c e => ?_⟩
  · have := Rd.owned (h.own i _ hx)
    unfold wrow at this
    rw [if_pos hi] at this
    exact this
  · right
    rcases h.out i _ hx with h1 | h1
    · rw [e] at h1; cases h1
    · rw [e] at h1
      intro e2
      exact h1 (by show some a.block = some G; rw [e2])

end Go.Proofs.Ytchfonofjbpmaaa.Gf

/-
  THE DOCUMENT's ANSWER FOR LAYER 3 (package aumbryref03) BY CONTRACT: 'Invert'.
-/

namespace Go.Proofs.Ytchfonofjbpmaaa.Gf
set_option linter.unusedVariables false
set_option linter.unusedSimpArgs false
open Go.RowKit

theorem Free.new1' (w : World) (o : Obj) (cs : Array Value) (t : TypeId) : Free ((w.alloc o).alloc (.cells cs t)) (w.heap.size + 1) := by
  have h := Free.new (w.alloc o) cs t
  rwa [World.size_alloc] at h
theorem oneK_step (k t : Nat) : one k t = if t = k then 1 else 0 := by
  unfold one
  by_cases e : k = t
  · rw [if_pos e, if_pos e.symm]
  · rw [if_neg e, if_neg (fun h => e h.symm)]

set_option maxRecDepth 100000 in
set_option maxHeartbeats 2000000 in
theorem rinvm_bad {va : Value} {r c : Int} {A : List UInt8} {w : World} (ha : RdM w va r c A) (hbad : ¬ (OkM r c A ∧ r = c)) :
    Calls Try.prog 95 #[va] w (MakesErr w 30) := by
  obtain ⟨vs, rfl, h1⟩ := ha
  by_cases k1 : OkM r c A
  · have k3 : (r != c) = true := by simp; intro e; exact hbad ⟨k1, e⟩
    clear hbad
    go_enter Try.func95, Try.ntmps95
    go_wp2_with fail
    refine (rcheck_ok ⟨vs, rfl, h1.below (by repeat (first | exact Below.refl _ _ | apply below_lit))⟩ k1).mono ?_
    rintro e w2 ⟨rfl, b2⟩
    have X1 : Box w2 w.heap.size r c vs := Below.box b2 (by simp <;> omega) ((Box.new w r c vs _).alloc (by simp) _)
    have X3 : Box w2 (w.heap.size + 1) 0 0 (.slice none 0 0) := Below.box b2 (by simp <;> omega) (Box.new1 w _ 0 0 (.slice none 0 0) 74)
    have F3 : Free w2 (w.heap.size + 1) := Below.free b2 (by simp <;> omega) (Free.new1' w _ _ 74)
    have B2 : Below w.heap.size w w2 := Below.next (by repeat (first | exact Below.refl _ _ | apply below_lit)) b2
    clear b2
    have x10 := X1.c0
    have x11 := X1.c1
    have x30 := X3.c0
    have x31 := X3.c1
    have x32 := X3.c2
    have f30 := F3.f0
    have f31 := F3.f1
    have f32 := F3.f2
    go_wp2
    refine bodyPost_ret (v := .tuple #[.agg #[.int .i64 0, .int .i64 0, .slice none 0 0], .int .i64 30]) (by simp [results, Try.results95, go_sem, X3.c0, X3.c1, X3.c2, F3.f0, F3.f1, F3.f2]) rfl ⟨_, rfl, rd_none, ?_⟩
    exact B2.trans ((((Only.refl _ _).setCell 0 _).setCell 1 _).setCell 2 _ |>.below (by omega))
  · clear hbad
    go_enter Try.func95, Try.ntmps95
    go_wp2_with fail
    refine (rcheck_bad ⟨vs, rfl, h1.below (by repeat (first | exact Below.refl _ _ | apply below_lit))⟩ k1).mono ?_
    rintro e w2 ⟨rfl, b2⟩
    have X3 : Box w2 (w.heap.size + 1) 0 0 (.slice none 0 0) := Below.box b2 (by simp <;> omega) (Box.new1 w _ 0 0 (.slice none 0 0) 74)
    have F3 : Free w2 (w.heap.size + 1) := Below.free b2 (by simp <;> omega) (Free.new1' w _ _ 74)
    have B2 : Below w.heap.size w w2 := Below.next (by repeat (first | exact Below.refl _ _ | apply below_lit)) b2
    clear b2
    have x30 := X3.c0
    have x31 := X3.c1
    have x32 := X3.c2
    have f30 := F3.f0
    have f31 := F3.f1
    have f32 := F3.f2
    go_wp2
    refine bodyPost_ret (v := .tuple #[.agg #[.int .i64 0, .int .i64 0, .slice none 0 0], .int .i64 30]) (by simp [results, Try.results95, go_sem, X3.c0, X3.c1, X3.c2, F3.f0, F3.f1, F3.f2]) rfl ⟨_, rfl, rd_none, ?_⟩
    exact B2.trans ((((Only.refl _ _).setCell 0 _).setCell 1 _).setCell 2 _ |>.below (by omega))
theorem unit_facts {wr w5 : World} {u n k G : Nat} {x : Value} (hown : w5.ownsRow wr.heap.size u 1 (.slice (some ⟨wr.heap.size, 0, none⟩) n n) n (madeCells (Value.cells (.int .u8 0)) (n * 1)).toList) (hgrow : wr.grownBy w5 none) (hk : k < n) (hG : G < wr.heap.size) (c1 : wr.cell? ⟨G, k, none⟩ = some x) :
    w5.cell? ⟨wr.heap.size, k, none⟩ = some (.int .u8 0) ∧ w5.frozen? ⟨wr.heap.size, k, none⟩ = false ∧ w5.cell? ⟨G, k, none⟩ = some x ∧ Hid (Rd (w5.setCell ⟨wr.heap.size, k, none⟩ (.int .u8 1)) (.slice (some ⟨wr.heap.size, 0, none⟩) n n) (upto (fun j => one k j) n)) ∧ Hid (Below wr.heap.size wr (w5.setCell ⟨wr.heap.size, k, none⟩ (.int .u8 1))) := by
  have R5 := RowF.made hown
  have B5 : Below wr.heap.size wr w5 := (Below.refl _ _).grown hgrow (Nat.le_refl _) (fun q h => by cases h)
  refine ⟨R5.cell hk, R5.unfrozen k, (B5.cell (p := ⟨G, k, none⟩) hG).trans c1, ?_, B5.setCell (Nat.le_refl _) _⟩
  exact (R5.store (f' := fun j => one k j) hk 1 (fun t => oneK_step k t)).rd

set_option maxRecDepth 100000 in
set_option maxHeartbeats 8000000 in
theorem rinvm_main {va : Value} {n : Nat} {A : List UInt8} {w : World} (ha : RdM w va n n A) (k1 : OkM n n A) (hn0 : 0 < n) :
    Calls Try.prog 95 #[va] w fun e w' => (∃ V, IsInv n (en n A) V ∧ MakesM w n n V e w') ∨ (IsSing n (en n A) ∧ MakesErr w 31 e w') := by
  obtain ⟨i0, hi, hz0, hz1, hz2⟩ := info_parts info_u8
  obtain ⟨vs, rfl, h1⟩ := ha
  have hn : n ≤ 256 := by have := k1.2.1; omega
  go_enter Try.func95, Try.ntmps95
  go_wp2_with fail
  refine (rcheck_ok ⟨vs, rfl, h1.below (by repeat (first | exact Below.refl _ _ | apply below_lit))⟩ k1).mono ?_
  rintro e w2 ⟨rfl, b2⟩
  have X1 : Box w2 w.heap.size n n vs := Below.box b2 (by simp <;> omega) ((Box.new w n n vs _).alloc (by simp) _)
  have X3 : Box w2 (w.heap.size + 1) 0 0 (.slice none 0 0) := Below.box b2 (by simp <;> omega) (Box.new1 w _ 0 0 (.slice none 0 0) 74)
  have F3 : Free w2 (w.heap.size + 1) := Below.free b2 (by simp <;> omega) (Free.new1' w _ _ 74)
  have B2 : Below w.heap.size w w2 := Below.next (by repeat (first | exact Below.refl _ _ | apply below_lit)) b2
  have s2 : w.heap.size + 1 < w2.heap.size := by have := b2.size; simp at this; omega
  clear b2
  have x10 := X1.c0
  have x11 := X1.c1
  have x12 := X1.c2
  go_wp2_with fail
  refine (rwide_any (h1.below B2) k1).mono ?_
  rintro e w3 ⟨v, vals, rfl, hvl, hown, hrows, b3⟩
  obtain ⟨G, C, rfl, hG⟩ : ∃ G C, v = .slice (some ⟨G, 0, none⟩) n C ∧ w2.heap.size ≤ G := by
    rcases hown.2 with ⟨_, e⟩ | ⟨g, cap, cur, e, e2, _⟩
    · omega
    · exact ⟨g, cap, e, e2⟩
  rw [← wrow_zero] at hrows
  clear x10 x11 x12 h1 X1
  obtain ⟨base, hbase⟩ : ∃ base, Hid (base = w2.heap.size) := ⟨_, rfl⟩
  have s2' := s2
  rw [← hbase.out] at hown hrows b3 s2
  have hbw : base ≤ w3.heap.size := by rw [hbase.out]; exact b3.size
  go_wp2
  go_loopw [6] (fun i wr => ∃ (k : Nat) (vals : List Value), k ≤ n ∧ i = .int .i64 k ∧ vals.length = n ∧ wr.ownsRow base 22 1 (.slice (some ⟨G, 0, none⟩) n C) n vals ∧ RowsO wr base 5 (.slice (some ⟨G, 0, none⟩) n C) vals (wrow n A k) ∧ Below base w2 wr) (fun i _ => n - (intOf i).toNat)
  case atStart => exact ⟨0, vals, by omega, rfl, hvl, hown, hrows, b3⟩
  case round =>
    clear hown hrows hvl b3
    obtain ⟨k, vals, hk, rfl, hvl, hown, hrows, hB⟩ := hrel
    have hsb := hB.size
    by_cases hlt : k < n
    · have hlt' : (k : Int) < (n : Int) := by omega
      obtain ⟨x, hx⟩ : ∃ x, vals[k]? = some x := ⟨_, List.getElem?_eq_getElem (by omega)⟩
      have hxo := hrows.own k x hx
      have hx2 : OwnP wr base 5 x (upto (fun j => en n A k j) n) := by rw [← wrow_old]; exact hxo
      have HX2 : Hid (OwnP wr base 5 x (upto (fun j => en n A k j) n)) := hx2
      clear hxo hx2
      have c1 := World.ownsRow.cellAt hown k (by omega)
      rw [hx] at c1
      have f1 := World.ownsRow.frozenAt hown k
      have hGw := World.ownsRow.lt hown G rfl
      have hl2 : wr.heap.size ≠ G := by omega
      have hl3 : G < wr.heap.size := hGw.2
      have HL : Hid ((upto (fun j => one k j) n).length = n) := upto_length _ _
      go_wp2_with (first
        | (at_make; refine wpList_make_full _ rfl (.tmp 37) (.tmp 37) 22 rfl wr.heap.size 5 i0 (.int .u8 0) 1 Try.underlying22 hi hz0 hz1 _ _ _ _ n rfl rfl (by omega) (by omega) (by rw [hz2]; omega) (by unfold maxLen; omega) (Nat.le_refl _) ?_; intro w5 hown5 hgrow5; obtain ⟨c5, f5, c6, R6, B6⟩ := unit_facts hown5 hgrow5 hlt hl3 c1; clear hown5 hgrow5)
        | (at_builtin; (refine wpList_append_rd2 _ rfl (.tmp 47) (.tmp 48) 22 rfl base 5 i0 Try.underlying22 hi hz0 hz1 hz2 x n ((upto (fun j => en n A k j) n).map vb) rfl (by have h := owns_later HX2.out B6.out; rwa [upto_length] at h) _ (upto (fun j => one k j) n) rfl R6.out (by rw [HL.out]; omega) (by have := B6.out.size; omega) ?_); intro x' w7 hx7 hg7 hb7; rw [HL.out] at hx7; obtain ⟨ax, cx, ex⟩ := owns_form hx7; subst ex; obtain ⟨c7, f7⟩ := hrows.outer hown hx hlt B6.out hg7))
      have HP : Hid _ := RowsO.put (row' := wrow n A (k + 1)) hrows hown hx B6.out hg7 (by rw [wrow_new]; unfold OwnP; rw [List.length_append, upto_length, upto_length, List.map_append]; exact hx7) hb7 (fun i hi => wrow_step hi)
      have HB : Hid (Below base w2 (w7.setCell ⟨G, k, none⟩ (.slice ax (n + n) cx))) := by
        have hxb : ∀ q, x.ownBlock = some q → base ≤ q := fun q hq => (OwnP.lt HX2.out hq).1
        exact ((hB.trans (B6.out.mono (by rw [hbase.out]; exact hsb))).grown hg7 (by have := B6.out.size; rw [hbase.out]; omega) hxb).setCell (by show base ≤ G; rw [hbase.out]; exact hG) _
      clear hrows hown c1 f1 c5 f5 c6 R6 B6 hx7 hg7 hb7 c7 f7 hB HX2
      go_roundw
      case rel => exact ⟨k + 1, vals.set k (.slice ax (n + n) cx), by omega, by go_num, by simp [hvl], HP.out.1, HP.out.2, HB.out⟩
      case measure => simp [intOf]; omega
    · have e : k = n := by omega
      rw [e] at hrows
      have HG := hrows.grid hown
      clear hrows hown hvl e
      obtain ⟨M, hM⟩ : ∃ M, Hid (M = n + n) := ⟨_, rfl⟩
      have hM0 : n ≤ M := by have := hM.out; omega
      have hM5 : M ≤ 512 := by have := hM.out; omega
      rw [← hM.out] at HG
      have hge : ¬ (k : Int) < (n : Int) := by omega
      go_wp2
      clear hk hge hlt
      go_loopw [8] (fun i w5 => ∃ (k : Nat) (W : Mx), k ≤ n ∧ i = .int .i64 k ∧ Grid w5 base 22 G n C M W ∧ Hid (GJ n (en n A) W (rt n W) k) ∧ Below base w2 w5) (fun i _ => n - (intOf i).toNat)
      case atStart => exact ⟨0, wideF n A, by omega, rfl, HG, gj_wide n A, hB⟩
      case round =>
        clear HG hB hsb
        obtain ⟨k, W, hk, rfl, HG, hgj, hB⟩ := hrel
        by_cases hlt : k < n
        · have hlt' : (k : Int) < (n : Int) := by omega
          obtain ⟨wo, rfl⟩ : ∃ wo, wo = wr := ⟨_, rfl⟩
          have hkM : k < M := by omega
          have hkM' : (k : Int) < (M : Int) := by omega
          go_wp2
          go_loop [9] (fun i => ∃ l : Nat, k ≤ l ∧ l ≤ n ∧ i = .int .i64 l ∧ Hid (∀ i, k ≤ i → i < l → W i k = 0)) (fun i => n - (intOf i).toNat)
          case atStart => exact ⟨k, Nat.le_refl _, by omega, rfl, (fun i h1 h2 => by omega : ∀ i, k ≤ i → i < k → W i k = 0)⟩
          case round =>
            obtain ⟨l, hkl, hl, rfl, hz⟩ := hrel
            by_cases hl2 : l < n
            · have hl2' : (l : Int) < (n : Int) := by omega
              have d1 : decide ((l : Int) < (n : Int)) = true := decide_eq_true hl2'
              obtain ⟨bl, ol, cl, g1, g2, g3, g4, g5⟩ := HG.at hl2 (by omega)
              have g6 := g5 k hkM
              by_cases hz0 : W l k = 0
              · have d0 : (((W l k).toNat : Int) == 0) = true := by rw [hz0]; rfl
                have HZ : Hid (∀ i, k ≤ i → i < l + 1 → W i k = 0) := fun i h1 h2 => by
                  by_cases e : i = l
                  · subst e; exact hz0
                  · exact hz.out i h1 (by omega)
                clear hz hz0 g5 g3
                go_wp2
                go_round
                case rel => exact ⟨l + 1, by omega, by omega, by go_num, HZ⟩
                case measure => simp [intOf]; omega
              · have d0 : (((W l k).toNat : Int) == 0) = false := by rw [eq_u8_zero]; exact decide_eq_false hz0
                have d2 : ((l : Int) == (n : Int)) = false := by rw [beq_eq_false_iff_ne]; omega
                obtain ⟨bk, ok, ck, q1, q2, q3, q4, _⟩ := HG.at hlt (by omega)
                have O1 : Only G wo (wo.setCell ⟨G, l, none⟩ (.slice (some ⟨bk, ok, none⟩) M ck)) := (Only.refl _ _).setCell _ _
                have G1 := HG.set (W' := fun i j => if i = l then W k j else W i j) hl2 (by rw [show (fun j => if l = l then W k j else W l j) = W k from funext fun j => if_pos rfl]; exact q3) (apart_block q4) (fun i j _ hi _ => (if_neg hi).symm)
                have G2 := G1.set (W' := fun i j => W (sw l k i) j) hlt (x := .slice (some ⟨bl, ol, none⟩) M cl) (by rw [show (fun j => W (sw l k k) j) = W l from by rw [sw_self]]; exact g3.only (apart_block g4) O1) (apart_block g4) (fun i j _ hi _ => by
                  show (if i = l then W k j else W i j) = W (sw l k i) j
                  unfold sw
                  by_cases e : i = l
                  · rw [if_pos e, if_pos e]
                  · rw [if_neg e, if_neg e, if_neg hi])
                obtain ⟨xx, cxx⟩ := cell?_setCell_some (w := wo) (p := ⟨G, l, none⟩) (x := .slice (some ⟨bk, ok, none⟩) M ck) (q := ⟨G, k, none⟩) (v := .slice (some ⟨bk, ok, none⟩) M ck) q1
                have H2 : Hid (Grid ((wo.setCell ⟨G, l, none⟩ (.slice (some ⟨bk, ok, none⟩) M ck)).setCell ⟨G, k, none⟩ (.slice (some ⟨bl, ol, none⟩) M cl)) base 22 G n C M (fun i j => W (sw l k i) j)) := G2
                have HB2 : Hid (Below base w2 ((wo.setCell ⟨G, l, none⟩ (.slice (some ⟨bk, ok, none⟩) M ck)).setCell ⟨G, k, none⟩ (.slice (some ⟨bl, ol, none⟩) M cl))) := (hB.setCell (by show base ≤ G; rw [hbase.out]; exact hG) _).setCell (by show base ≤ G; rw [hbase.out]; exact hG) _
                have HJ : Hid _ := gj2_round hgj.out hkl hl2 hz0
                clear G1 G2 O1 hgj hz hz0 g5 g3 q3 HG hB
                go_wp2
                obtain ⟨F, hF⟩ : ∃ F : Mx, Hid (F = fun i j => W (sw l k i) j) := ⟨_, rfl⟩
                have H3 := H2.out
                have HB3 := HB2.out
                rw [← hF.out] at H3 HJ
                clear H2 HB2 g1 g2 g4 g6 q1 q2 q4 cxx
                generalize (wo.setCell ⟨G, l, none⟩ (.slice (some ⟨bk, ok, none⟩) M ck)).setCell ⟨G, k, none⟩ (.slice (some ⟨bl, ol, none⟩) M cl) = w5 at *
                go_loopw [11] (fun i w6 => ∃ j : Nat, j ≤ n ∧ i = .int .i64 j ∧ Grid w6 base 22 G n C M (clr2 F k j) ∧ Below base w2 w6) (fun i _ => n - (intOf i).toNat)
                case atStart => exact ⟨0, by omega, rfl, by rw [clr2_zero]; exact H3, HB3⟩
                case round =>
                  clear H3 HB3
                  obtain ⟨j, hj, rfl, H4, HB4⟩ := hrel
                  by_cases hj2 : j < n
                  · have hj2' : (j : Int) < (n : Int) := by omega
                    by_cases hjk : j = k
                    · subst hjk
                      have HN : Hid _ := H4
                      rw [← clr2_skip] at HN
                      clear H4
                      go_wp2
                      go_roundw
                      case rel => exact ⟨j + 1, by omega, by go_num, HN.out, HB4⟩
                      case measure => simp [intOf]; omega
                    · have hne : ((j : Int) != (k : Int)) = true := by simp; omega
                      obtain ⟨bj, oj, cj, r1, r2, r3, r4, _⟩ := H4.at hj2 (by omega)
                      obtain ⟨bp, op, cp, p1, p2, p3, p4, _⟩ := H4.at hlt (by omega)
                      rw [clr2_row hjk] at r3
                      rw [clr2_piv] at p3
                      have H4' : Hid (Grid wr base 22 G n C M (clr2 F k j)) := H4
                      have HGl := H4.lt
                      clear H4
                      have hcl : ∀ w8, Below wr.heap.size wr w8 → Calls Try.prog 117 #[.slice (some ⟨bj, oj, none⟩) M cj, .slice (some ⟨bp, op, none⟩) M cp, .int .i64 (k : Int)] w8 fun e w' => ∃ a c, e = .returned (.slice a M c) ∧ Rd w' (.slice a M c) (upto (clearL (F j) (F k) k) M) ∧ Apart G (.slice a M c) ∧ w'.cell? ⟨G, j, none⟩ = some (.slice (some ⟨bj, oj, none⟩) M cj) ∧ w'.frozen? ⟨G, j, none⟩ = false ∧ Below wr.heap.size wr w' := by
                        intro w8 hb8
                        refine (rcleared_any rfl (r3.below hb8) (p3.below hb8) (by rw [upto_length, upto_length]) (by rw [upto_length]; omega) (by rw [upto_length]; exact hkM)).mono ?_
                        rintro e w' ⟨v, rfl, hv, hb⟩
                        rw [upto_length] at hv
                        obtain ⟨a, c, ev⟩ := owns_form hv
                        rw [upto_length] at ev
                        subst ev
                        have hb' := Below.next hb8 hb
                        have e1 : upto (clearL (co (upto (F j) M)) (co (upto (F k) M)) k) M = upto (clearL (F j) (F k) k) M := upto_congr fun t ht => by
                          unfold clearL
                          rw [co_upto_lt ht, co_upto_lt ht, co_upto_lt hkM, co_upto_lt hkM]
                        refine ⟨a, c, rfl, by rw [← e1]; exact Rd.owned hv, fun y m' c' ey => ?_, (hb'.cell (p := ⟨G, j, none⟩) HGl.2).trans r1, (hb'.frozen (p := ⟨G, j, none⟩) HGl.2).trans r2, hb'⟩
                        right
                        intro eG
                        have := (OwnP.lt hv (k := G) (by rw [ey]; show some y.block = some G; rw [eG])).1
                        have := hb8.size
                        omega
                      clear r3 p3
                      go_wp2
                      go_region_with ((go_at_call 117; refine (hcl _ (by first | assumption | exact (Below.refl _ _).drew)).mono ?_; rintro e v5 ⟨an, cn, rfl, hrn, han, cn1, fn1, bn⟩))
                      all_goals
                        have HN : Hid (Grid (v5.setCell ⟨G, j, none⟩ (.slice an M cn)) base 22 G n C M (clr2 F k (j + 1))) := (H4'.out.later bn).set hj2 (by rw [show clr2 F k (j + 1) j = clearL (F j) (F k) k from funext fun t => clr2_new hjk t]; exact hrn) han (fun i t _ hi _ => clr2_other hi t)
                        have HBN : Hid (Below base w2 (v5.setCell ⟨G, j, none⟩ (.slice an M cn))) := (HB4.trans (bn.mono (by have := HGl.1; omega))).setCell (by show base ≤ G; exact HGl.1) _
                        clear hcl hrn han cn1 fn1 bn H4' HB4
                        go_wp2
                        go_roundw
                        case rel => exact ⟨j + 1, by omega, by go_num, HN.out, HBN.out⟩
                        case measure => simp [intOf]; omega
                  · have e : j = n := by omega
                    rw [e] at H4
                    have hge : ¬ (j : Int) < (n : Int) := by omega
                    clear e
                    go_wp2
                    go_roundw
                    case rel => exact ⟨k + 1, _, by omega, by go_num, H4, HJ, HB4⟩
                    case measure => simp [intOf]; omega
            · have hge : ¬ (l : Int) < (n : Int) := by omega
              have d1 : decide ((l : Int) < (n : Int)) = false := decide_eq_false hge
              have e : l = n := by omega
              have d2 : ((l : Int) == (n : Int)) = true := by rw [beq_iff_eq]; omega
              have HS : Hid (IsSing n (en n A)) := hgj.out.sing hlt (fun i h1 h2 => hz.out i h1 (by omega))
              have hBB : Below w2.heap.size w2 wo := by rw [← hbase.out]; exact hB
              have X4 := X3.below (by omega) hBB
              have F4 := F3.below (by omega) hBB
              have x30 := X4.c0
              have x31 := X4.c1
              have x32 := X4.c2
              have f30 := F4.f0
              have f31 := F4.f1
              have f32 := F4.f2
              clear e hz hgj HG
              go_wp2
              exact bodyPost_ret (v := .tuple #[.agg #[.int .i64 0, .int .i64 0, .slice none 0 0], .int .i64 31]) (by simp [results, Try.results95, go_sem, x30, x31, x32, f30, f31, f32]) rfl (Or.inr ⟨HS.out, _, rfl, rd_none, (B2.trans (hBB.mono (by omega))).trans ((((Only.refl _ _).setCell 0 _).setCell 1 _).setCell 2 _ |>.below (by omega))⟩)
        · have e : k = n := by omega
          have hinv : GJ n (en n A) W (rt n W) n := by have h := hgj.out; rw [e] at h; exact h
          have HI : Hid (IsInv n (en n A) (fun i j => mu (iv (W i i)) (rt n W i j))) := hinv.finish
          obtain ⟨V, hV⟩ : ∃ V : Mx, Hid (V = fun i j => mu (iv (W i i)) (rt n W i j)) := ⟨_, rfl⟩
          rw [← hV.out] at HI
          have hge : ¬ (k : Int) < (n : Int) := by omega
          have hBB : Below w2.heap.size w2 wr := by rw [← hbase.out]; exact hB
          have X4 := X3.below (by omega) hBB
          have F4 := F3.below (by omega) hBB
          have B4 := B2.trans (hBB.mono (by omega))
          have HGl := HG.lt
          have hsz4 := hBB.size
          have hM0' : 0 < M := by omega
          clear hgj hinv e hB hBB hk hlt
          obtain ⟨w4, rfl⟩ : ∃ w4, w4 = wr := ⟨_, rfl⟩
          have hAl : Below w4.heap.size w4 (w4.alloc (.cells #[.int .i64 (n : Int), .int .i64 (n : Int), .slice none 0 0] 74)) := (Below.refl _ _).alloc (Nat.le_refl _) _
          have YM := Box.new w4 (n : Int) (n : Int) (.slice none 0 0) 74
          have GM := Free.new w4 #[.int .i64 (n : Int), .int .i64 (n : Int), .slice none 0 0] 74
          have hmsz : w4.heap.size < (w4.alloc (.cells #[.int .i64 (n : Int), .int .i64 (n : Int), .slice none 0 0] 74)).heap.size := by simp
          go_wp2
          clear hge
          generalize w4.alloc (.cells #[.int .i64 (n : Int), .int .i64 (n : Int), .slice none 0 0] 74) = w5 at *
          go_loopw [13] (fun i w6 => ∃ (k : Nat) (v : Value), k ≤ n ∧ i = .int .i64 k ∧ Box w6 w4.heap.size (n : Int) (n : Int) v ∧ Free w6 w4.heap.size ∧ w6.ownsRow (w4.heap.size + 1) 5 1 v (k * n) ((upto (pl n V) (k * n)).map vb) ∧ w4.heap.size < w6.heap.size ∧ Below w4.heap.size w4 w6) (fun i _ => n - (intOf i).toNat)
          case atStart => exact ⟨0, .slice none 0 0, by omega, rfl, YM, GM, by rw [Nat.zero_mul]; exact World.ownsRow_nil _ _ _ _, hmsz, hAl⟩
          case round =>
            clear YM GM hmsz hAl
            obtain ⟨k, v, hk, rfl, YM, GM, hown, hms, hB⟩ := hrel
            by_cases hlt : k < n
            · have hlt' : (k : Int) < (n : Int) := by omega
              go_wp2
              go_loopw [14] (fun i w6 => ∃ (l : Nat) (v : Value), l ≤ n ∧ i = .int .i64 l ∧ Box w6 w4.heap.size (n : Int) (n : Int) v ∧ Free w6 w4.heap.size ∧ w6.ownsRow (w4.heap.size + 1) 5 1 v (k * n + l) ((upto (pl n V) (k * n + l)).map vb) ∧ w4.heap.size < w6.heap.size ∧ Below w4.heap.size w4 w6) (fun i _ => n - (intOf i).toNat)
              case atStart => exact ⟨0, v, by omega, rfl, YM, GM, hown, hms, hB⟩
              case round =>
                clear YM GM hown hms hB
                obtain ⟨l, v, hl, rfl, YM, GM, hown, hms, hB⟩ := hrel
                by_cases hl2 : l < n
                · have hl2' : (l : Int) < (n : Int) := by omega
                  have HG6 := HG.later hB
                  obtain ⟨bk, ok, ck, q1, q2, q3, q4, q5⟩ := HG6.at hlt hM0'
                  obtain ⟨t, ht⟩ : ∃ t, Hid (t = n + l) := ⟨_, rfl⟩
                  have g0 : (n : Int) + (l : Int) = (t : Int) := by have := ht.out; omega
                  have gw : IntKind.i64.wrap (t : Int) = (t : Int) := by rw [IntKind.wrap_i64]; have := ht.out; omega
                  have htM : t < M := by have := ht.out; have := hM.out; omega
                  have htM' : (t : Int) < (M : Int) := by omega
                  have hkM : k < M := by omega
                  have hkM' : (k : Int) < (M : Int) := by omega
                  have c1 := q5 t htM
                  have c2 := q5 k hkM
                  have m2 := YM.c2
                  have n2 := GM.f2
                  obtain ⟨y, hy⟩ : ∃ y, Hid (y = mu (W k t) (iv (W k k))) := ⟨_, rfl⟩
                  have HY : Hid (y = pl n V (k * n + l)) := by
                    show _ = _
                    rw [pl_at _ hl2, hV.out, hy.out, mu_comm, ht.out]; rfl
                  clear q5 q3 HG6 q4
                  go_wp2
                  go_quiet ((go_at_call 118; go_loud (exact Calls.quiet_of_same (rdiv3_at (W k t) (W k k) rfl rfl))))
                  rw [← hy.out]
                  obtain ⟨w7, hw7⟩ : ∃ w7, w7 = wr.drewN nq := ⟨_, rfl⟩
                  have YM7 : Box w7 w4.heap.size (n : Int) (n : Int) v := by rw [hw7]; exact YM.drewN nq
                  have GM7 : Free w7 w4.heap.size := by rw [hw7]; exact GM.drewN nq
                  have hown7 : w7.ownsRow (w4.heap.size + 1) 5 1 v (k * n + l) ((upto (pl n V) (k * n + l)).map vb) := by rw [hw7]; exact hown
                  have hms7 : w4.heap.size < w7.heap.size := by rw [hw7]; exact hms
                  have hB7 : Below w4.heap.size w4 w7 := by rw [hw7]; exact hB.drewN nq
                  rw [← hw7]
                  clear hw7 YM GM hown hms hB m2 n2 c1 c2 q1 q2
                  have m2 := YM7.c2
                  have n2 := GM7.f2
                  obtain ⟨av, cv, ev⟩ := owns_form hown7
                  subst ev
                  obtain ⟨T, hT⟩ : ∃ T, Hid (T = k * n + l) := ⟨_, rfl⟩
                  have hT2 : T ≤ 70000 := by have := hT.out; have := Nat.mul_le_mul (show k ≤ 256 by omega) hn; omega
                  rw [← hT.out] at hown7 m2 YM7 HY
                  have hvn : ∀ q, (Value.slice av T cv).ownBlock = some q → w4.heap.size + 1 ≤ q := fun q hq => (World.ownsRow.lt hown7 q hq).1
                  have hvne : some w4.heap.size ≠ (Value.slice av T cv).ownBlock := fun e => by have := hvn _ e.symm; omega
                  go_wp2_with (at_builtin; refine wpList_append_rd2 _ rfl (.tmp 146) (.tmp 148) 22 rfl (w4.heap.size + 1) 5 i0 Try.underlying22 hi hz0 hz1 hz2 (.slice av T cv) T _ rfl (World.ownsRow.alloc hown7 _) _ [y] rfl (rd_lit [y] rfl rfl (by decide)) (by simp; omega) (by simp; omega) ?_; intro x' w8 hx8 hg8 hb8; rw [show T + [y].length = T + 1 from rfl] at hx8; obtain ⟨ax, cx, ex⟩ := owns_form hx8; subst ex; have YM8 := (YM7.alloc hms7 _).grown hg8 (by simp; omega) hvne; have GM8 := (GM7.alloc hms7 _).grown hg8 (by simp; omega) hvne; have m8 := YM8.c2; have n8 := GM8.f2)
                  have HO : Hid (World.ownsRow (w8.setCell ⟨w4.heap.size, 2, none⟩ (.slice ax (T + 1) cx)) (w4.heap.size + 1) 5 1 (.slice ax (T + 1) cx) (T + 1) ((upto (pl n V) (T + 1)).map vb)) := by
                    have h1 : w8.grownBy (w8.setCell ⟨w4.heap.size, 2, none⟩ (.slice ax (T + 1) cx)) (some w4.heap.size) := by
                      have O := (Only.refl w4.heap.size w8).setCell 2 (.slice ax (T + 1) cx)
                      exact ⟨O.os, O.tape, O.output, by rw [O.size]; exact Nat.le_refl _, fun q _ hq => O.block q (fun e => hq (by rw [e]))⟩
                    refine World.ownsRow.kept (by rw [upto_vb_succ, ← HY.out]; exact hx8) h1 ?_
                    rcases hq : (Value.slice ax (T + 1) cx).ownBlock with _ | q
                    · exact Or.inl rfl
                    · right; intro e; cases e; have := (World.ownsRow.lt hx8 _ hq).1; omega
                  have HB8 : Hid (Below w4.heap.size w4 (w8.setCell ⟨w4.heap.size, 2, none⟩ (.slice ax (T + 1) cx))) := ((hB7.alloc (by omega) _).grown hg8 (by simp; omega) (fun q hq => by have := hvn q hq; omega)).setCell (Nat.le_refl _) _
                  have HY8 : Hid (Box (w8.setCell ⟨w4.heap.size, 2, none⟩ (.slice ax (T + 1) cx)) w4.heap.size (n : Int) (n : Int) (.slice ax (T + 1) cx)) := YM8.set2 _
                  have HF8 : Hid (Free (w8.setCell ⟨w4.heap.size, 2, none⟩ (.slice ax (T + 1) cx)) w4.heap.size) := GM8.setCell _ _
                  have HS8 : Hid (w4.heap.size < (w8.setCell ⟨w4.heap.size, 2, none⟩ (.slice ax (T + 1) cx)).heap.size) := by have := hg8.size; show _ < _; simp at this ⊢; omega
                  have HT : Hid (T + 1 = k * n + (l + 1)) := by show _ = _; rw [hT.out]; rfl
                  clear hx8 hg8 hb8 YM8 GM8 m8 n8 m2 n2 hown7 YM7 GM7 hB7 hvn hvne hms7
                  go_roundw
                  case rel => exact ⟨l + 1, .slice ax (T + 1) cx, by omega, by go_num, HY8.out, HF8.out, by rw [← HT.out]; exact HO.out, HS8.out, HB8.out⟩
                  case measure => simp [intOf]; omega
                · have e : l = n := by omega
                  have hge : ¬ (l : Int) < (n : Int) := by omega
                  have HO : Hid (wr.ownsRow (w4.heap.size + 1) 5 1 v ((k + 1) * n) ((upto (pl n V) ((k + 1) * n)).map vb)) := by
                    show World.ownsRow _ _ _ _ _ _ _
                    rw [Nat.add_mul, Nat.one_mul, ← e]; subst e; exact hown
                  clear hown e
                  go_wp2
                  go_roundw
                  case rel => exact ⟨k + 1, v, by omega, by go_num, YM, GM, HO.out, hms, hB⟩
                  case measure => simp [intOf]; omega
            · have e : k = n := by omega
              have hge : ¬ (k : Int) < (n : Int) := by omega
              have hRd : Rd wr v (flat n n V) := by
                rw [← pl_flat]
                refine Rd.owned (base := w4.heap.size + 1) (e := 5) ?_
                rw [upto_length, ← e]; subst e; exact hown
              have hvb : ∀ q, v.ownBlock = some q → w4.heap.size + 1 ≤ q := fun q hq => (World.ownsRow.lt hown q hq).1
              obtain ⟨av, cv, ev⟩ := owns_form hown
              clear hown e
              subst ev
              have X5 := X4.below (by omega) hB
              have F5 := F4.below (by omega) hB
              have x30 := X5.c0
              have x31 := X5.c1
              have x32 := X5.c2
              have f30 := F5.f0
              have f31 := F5.f1
              have f32 := F5.f2
              have y0 := YM.c0
              have y1 := YM.c1
              have y2 := YM.c2
              go_wp2
              have O1 : Only (w.heap.size + 1) wr (((wr.setCell ⟨w.heap.size + 1, 0, none⟩ (.int .i64 (n : Int))).setCell ⟨w.heap.size + 1, 1, none⟩ (.int .i64 (n : Int))).setCell ⟨w.heap.size + 1, 2, none⟩ (.slice av (k * n) cv)) :=
                (((Only.refl _ _).setCell 0 _).setCell 1 _).setCell 2 _
              have hap : Apart (w.heap.size + 1) (.slice av (k * n) cv) := fun x m' c' ex => by
                right; intro eb
                simp at ex
                obtain ⟨rfl, _⟩ := ex
                have := hvb x.block rfl
                omega
              exact bodyPost_ret (v := .tuple #[.agg #[.int .i64 (n : Int), .int .i64 (n : Int), .slice av (k * n) cv], .int .i64 0]) (by simp [results, Try.results95, go_sem, x30, x31, x32, f30, f31, f32]) rfl (Or.inl ⟨V, HI.out, _, rfl, hRd.only hap O1, (B4.trans (hB.mono (by omega))).trans (O1.below (by omega))⟩)

set_option maxRecDepth 100000 in
set_option maxHeartbeats 4000000 in
theorem rinvm_zero {va : Value} {A : List UInt8} {w : World} (ha : RdM w va 0 0 A) (k1 : OkM 0 0 A) :
    Calls Try.prog 95 #[va] w fun e w' => ∃ vs, e = .returned (.tuple #[.agg #[.int .i64 0, .int .i64 0, vs], .int .i64 0]) ∧ Rd w' vs [] ∧ Below w.heap.size w w' := by
  obtain ⟨vs, rfl, h1⟩ := ha
  go_enter Try.func95, Try.ntmps95
  go_wp2_with fail
  refine (rcheck_ok ⟨vs, rfl, h1.below (by repeat (first | exact Below.refl _ _ | apply below_lit))⟩ k1).mono ?_
  rintro e w2 ⟨rfl, b2⟩
  have X1 : Box w2 w.heap.size 0 0 vs := Below.box b2 (by simp <;> omega) ((Box.new w 0 0 vs _).alloc (by simp) _)
  have X3 : Box w2 (w.heap.size + 1) 0 0 (.slice none 0 0) := Below.box b2 (by simp <;> omega) (Box.new1 w _ 0 0 (.slice none 0 0) 74)
  have F3 : Free w2 (w.heap.size + 1) := Below.free b2 (by simp <;> omega) (Free.new1' w _ _ 74)
  have B2 : Below w.heap.size w w2 := Below.next (by repeat (first | exact Below.refl _ _ | apply below_lit)) b2
  have s2 : w.heap.size + 1 < w2.heap.size := by have := b2.size; simp at this; omega
  clear b2
  have x10 := X1.c0
  have x11 := X1.c1
  have x12 := X1.c2
  go_wp2_with fail
  refine (rwide_any (n := 0) (h1.below B2) k1).mono ?_
  rintro e w3 ⟨v, vals, rfl, hvl, hown, hrows, b3⟩
  have X4 := X3.below (by omega) b3
  have F4 := F3.below (by omega) b3
  have B4 := Below.next B2 b3
  have hs3 := b3.size
  clear x10 x11 x12 h1 X1 hown hrows b3 X3 F3 hvl
  go_wp2
  go_loopw [6] (fun i wr => i = .int .i64 0 ∧ wr = w3) (fun _ _ => 0)
  case atStart => exact ⟨rfl, rfl⟩
  case round =>
    obtain ⟨rfl, rfl⟩ := hrel
    go_wp2
    go_loopw [8] (fun i w5 => i = .int .i64 0 ∧ w5 = wr) (fun _ _ => 0)
    case atStart => exact ⟨rfl, rfl⟩
    case round =>
      obtain ⟨rfl, rfl⟩ := hrel
      have hA : Below wr.heap.size wr (wr.alloc (.cells #[.int .i64 0, .int .i64 0, .slice none 0 0] 74)) := (Below.refl _ _).alloc (Nat.le_refl _) _
      have YM := Box.new wr 0 0 (.slice none 0 0) 74
      have X5 := X4.below (by omega) hA
      have F5 := F4.below (by omega) hA
      have B5 := Below.next B4 hA
      go_wp2
      generalize wr.alloc (.cells #[.int .i64 0, .int .i64 0, .slice none 0 0] 74) = w5 at *
      obtain ⟨w6, rfl⟩ : ∃ w6, w6 = wr := ⟨_, rfl⟩
      go_loopw [13] (fun i w7 => i = .int .i64 0 ∧ w7 = w5) (fun _ _ => 0)
      case atStart => exact ⟨rfl, rfl⟩
      case round =>
        obtain ⟨rfl, rfl⟩ := hrel
        have x30 := X5.c0
        have x31 := X5.c1
        have x32 := X5.c2
        have f30 := F5.f0
        have f31 := F5.f1
        have f32 := F5.f2
        have y0 := YM.c0
        have y1 := YM.c1
        have y2 := YM.c2
        go_wp2
        refine bodyPost_ret (v := .tuple #[.agg #[.int .i64 0, .int .i64 0, .slice none 0 0], .int .i64 0]) (by simp [results, Try.results95, go_sem, x30, x31, x32, f30, f31, f32]) rfl ⟨_, rfl, rd_none, B5.trans ((((Only.refl _ _).setCell 0 _).setCell 1 _).setCell 2 _ |>.below (by omega))⟩

theorem rinvm_ok {va : Value} {n : Nat} {A : List UInt8} {w : World} (ha : RdM w va n n A) (k1 : OkM n n A) :
    Calls Try.prog 95 #[va] w fun e w' => (∃ V, IsInv n (en n A) V ∧ MakesM w n n V e w') ∨ (IsSing n (en n A) ∧ MakesErr w 31 e w') := by
  rcases Nat.eq_zero_or_pos n with e | h0
  · subst e
    refine (rinvm_zero ha k1).mono ?_
    rintro e w' ⟨vs, rfl, hr, hb⟩
    refine Or.inl ⟨one, ⟨fun i j hi => by omega, fun i j hi => by omega⟩, vs, rfl, ?_, hb⟩
    have e : flat 0 0 one = [] := List.length_eq_zero_iff.1 (by rw [flat_length])
    rw [e]; exact hr
  · exact rinvm_main ha k1 h0

end Go.Proofs.Ytchfonofjbpmaaa.Gf

/-
  THE DOCUMENT's ANSWER FOR LAYER 6 (package aumbryref06) BY CONTRACT: 'Alike'.
-/

namespace Go.Proofs.Ytchfonofjbpmaaa.Gf
set_option linter.unusedVariables false
set_option linter.unusedSimpArgs false
open Go.RowKit

set_option maxRecDepth 100000 in
set_option maxHeartbeats 1000000 in
theorem alike_any {v : Value} {L : List (List UInt8)} {w : World} (h : Rs w v L) {x : Int} : Calls Try.prog 120 #[v, .int .i64 x] w fun e w' => e = .returned (.bool (alikeB L x)) ∧ ∃ n, w' = w.drewN n := by
  obtain ⟨a, c, rfl⟩ := h.form
  have hl := h.len
  unfold maxLen at hl
  by_cases hx : (L.length : Int) = x
  · have hb : ((L.length : Int) != x) = false := by simp [hx]
    go_enter Try.func120, Try.ntmps120
    go_wp2
    clear hb
    go_loopw [5] (fun i wr => ∃ k : Nat, 1 ≤ k ∧ k ≤ L.length + 1 ∧ i = .int .i64 k ∧ Hid (∀ j, j < k → j < L.length → (ro L j).length = (ro L 0).length) ∧ ∃ n, wr = w.drewN n) (fun i _ => L.length + 1 - (intOf i).toNat)
    case atStart => exact ⟨1, by omega, by omega, rfl, fun j hj hj2 => by rw [show j = 0 by omega], 0, rfl⟩
    case round =>
      obtain ⟨k, hk1, hk, rfl, hs, nd, rfl⟩ := hrel
      by_cases hlt : k < L.length
      · obtain ⟨b, off, xa, xc, rfl, hb, c1, r1⟩ := h.at hlt
        obtain ⟨ya, yc, c0, r0⟩ := h.get (i := 0) (by omega)
        rw [Nat.add_zero] at c0
        have hlt' : (k : Int) < (L.length : Int) := by omega
        have h0' : (0 : Int) < (L.length : Int) := by omega
        by_cases e : (ro L k).length = (ro L 0).length
        · have hn : (((ro L k).length : Int) != ((ro L 0).length : Int)) = false := by simp [e]
          have HS : Hid (∀ j, j < k + 1 → j < L.length → (ro L j).length = (ro L 0).length) := fun j hj hj2 => by
            by_cases e2 : j = k
            · rw [e2]; exact e
            · exact hs.out j (by omega) hj2
          clear e hs h r1 r0
          go_wp2
          go_quiet (fail)
          go_wp2
          go_roundw
          case rel => exact ⟨k + 1, by omega, by omega, by go_num, HS, _, rfl⟩
          case measure => simp [intOf]; omega
        · have hn : (((ro L k).length : Int) != ((ro L 0).length : Int)) = true := by simp; omega
          have E : Hid (alikeB L x = false) := alikeB_false2 fun h => e (h k hlt)
          clear e hs h r1 r0
          go_wp2
          go_quiet (fail)
          go_wp2
          go_ret
          exact ⟨by rw [E.out]; rfl, _, World.drewN_drewN _ _ _⟩
      · have E : Hid (alikeB L x = true) := alikeB_true hx fun i hi => hs.out i (by omega) hi
        have hge : ¬ (k : Int) < (L.length : Int) := by omega
        clear hs h
        go_wp2
        go_ret
        exact ⟨by rw [E.out]; rfl, _, rfl⟩
  · have hb : ((L.length : Int) != x) = true := by simp [hx]
    have E : Hid (alikeB L x = false) := alikeB_false1 hx
    clear h hx
    go_enter Try.func120, Try.ntmps120
    go_wp2
    go_ret
    exact ⟨by rw [E.out]; rfl, 0, rfl⟩

end Go.Proofs.Ytchfonofjbpmaaa.Gf

/-
  THE DOCUMENT's ANSWER FOR LAYER 6 (package aumbryref06) BY CONTRACT: 'Copied'.
-/

namespace Go.Proofs.Ytchfonofjbpmaaa.Gf
set_option linter.unusedVariables false
set_option linter.unusedSimpArgs false
open Go.RowKit

set_option maxRecDepth 100000 in
set_option maxHeartbeats 2000000 in
theorem rcop_any {v : Value} {L : List (List UInt8)} {w : World} (h : Rs w v L) (hS : Small L) : Calls Try.prog 25 #[v] w fun e w' => ∃ v', e = .returned v' ∧ Os w' w.heap.size 22 5 v' L ∧ Below w.heap.size w w' := by
  obtain ⟨i0, hi, hz0, hz1, hz2⟩ := info_parts info_u8
  obtain ⟨i1, hj, hy0, hy1, hy2⟩ := info_parts info_shard
  obtain ⟨a, c, rfl⟩ := h.form
  have hl := hS.1
  go_enter Try.func25, Try.ntmps25
  go_wp2
  go_loopw [3, 4] (fun o i wr => ∃ k : Nat, k ≤ L.length ∧ i = .int .i64 k ∧ Os wr w.heap.size 22 5 o (L.take k) ∧ Below w.heap.size w wr) (fun _ i _ => L.length - (intOf i).toNat)
  case atStart => exact ⟨0, by omega, rfl, Os.nil _ _ _ _, Below.refl _ _⟩
  case round =>
    obtain ⟨k, hk, rfl, hO, hB⟩ := hrel
    have hsz := hB.size
    by_cases hlt : k < L.length
    · obtain ⟨b, off, xa, xc, rfl, hb, c1, r1⟩ := (h.below hB).at hlt
      have hlt' : (k : Int) < (L.length : Int) := by omega
      have hln := hS.2 k
      obtain ⟨p, hp⟩ : ∃ p, Hid (p = ro L k) := ⟨_, rfl⟩
      have HT : Hid (L.take (k + 1) = L.take k ++ [p]) := by show _ = _; rw [hp.out]; exact take_next hlt
      have HL : Hid ((L.take k).length = k) := by show _ = _; rw [List.length_take]; omega
      rw [← hp.out] at c1 r1 hln
      obtain ⟨av, cv, ev⟩ := hO.form
      rw [HL.out] at ev
      subst ev
      have hE : (wr.alloc (.cells #[] 5)).ownsRow w.heap.size 5 1 (.slice (some ⟨wr.heap.size, 0, none⟩) 0 0) 0 [] := World.ownsRow_made wr #[] 0 hsz (Nat.zero_le _) rfl
      have hA1 : Below wr.heap.size wr (wr.alloc (.cells #[] 5)) := (Below.refl _ _).alloc (Nat.le_refl _) _
      have HR2 : Hid _ := r1.below hA1
      clear h hS r1 hp
      go_wp2_with (first
        | (at_builtin; refine wpList_append_rd2 _ rfl (.tmp 12) (.tmp 16) 22 rfl w.heap.size 5 i0 Try.underlying22 hi hz0 hz1 hz2 (.slice (some ⟨wr.heap.size, 0, none⟩) 0 0) 0 [] rfl hE _ _ rfl HR2.out (by omega) (by simp; omega) ?_; intro x w5 hx5 hg5 hb5; rw [List.nil_append, Nat.zero_add] at hx5; obtain ⟨ax, cx, ex⟩ := owns_form hx5; subst ex)
        | (at_builtin; go_loud (refine wpList_append_os rfl (.tmp 11) (.tmp 18) 36 rfl w.heap.size 22 i1 Try.underlying36 hj hy0 hy1 hy2 5 (.slice av k cv) (L.take k) rfl hO (hA1.trans (by exact (Below.refl _ _).grown hg5 (by simp) (fun q hq => by cases hq; exact Nat.le_refl _))) (.slice ax p.length cx) p hx5 (by intro q hq; rcases hb5 with e | e <;> (rw [e] at hq; cases hq; simp)) _ 1 rfl (by rw [HL.out]; omega) hsz ?_); intro v' w6 hv6 hb6 _ _))
      rw [← HT.out] at hv6
      have HB : Hid (Below w.heap.size w w6) := hB.trans hb6
      have HO : Hid (Os w6 w.heap.size 22 5 v' (L.take (k + 1))) := hv6
      clear hB hb6 hv6 hO hx5 hg5 hb5 hE HR2 hA1 c1
      go_roundw
      case rel => exact ⟨k + 1, by omega, by go_num, HO.out, HB.out⟩
      case measure => simp [intOf]; omega
    · have e : k = L.length := by omega
      have hge : ¬ (k : Int) < (L.length : Int) := by omega
      rw [e, List.take_length] at hO
      clear h hS e
      go_wp2
      go_ret
      exact ⟨_, rfl, hO, hB⟩

end Go.Proofs.Ytchfonofjbpmaaa.Gf

/-
  THE DOCUMENT's ANSWER FOR LAYER 6 (package aumbryref06) BY CONTRACT: 'word' and 'Encode'.
-/



namespace Go.Proofs.Ytchfonofjbpmaaa.Gf
set_option linter.unusedVariables false
set_option linter.unusedSimpArgs false
open Go.RowKit

theorem rmu6_at {w : World} (a b : UInt8) {x y : Int} (hx : x = ((a.toNat : Nat) : Int)) (hy : y = ((b.toNat : Nat) : Int)) :
    Calls Try.prog 96 #[.int .u8 x, .int .u8 y] w fun e w' => e = .returned (.int .u8 ((mu a b).toNat : Nat)) ∧ w' = w := by
  rw [mu_toNat]
  exact rmul_at a.toNat b.toNat hx hy (u8_lt a) (u8_lt b)

set_option maxRecDepth 100000 in
set_option maxHeartbeats 2000000 in
theorem word_any {w : World} {vs v : Value} {L : List (List UInt8)} (m k i n : Nat) (F : Mx) (hA : Rd w vs (flat m k F)) (hm : m ≤ 256) (hk : k ≤ 256) (hi : i < m) (h : Rs w v L) (hL : L.length = k) (hn : ∀ j, j < k → n < (ro L j).length) (hn2 : n ≤ 300) {x y z t : Int} (hx : x = (m : Int)) (hy : y = (k : Int)) (hz : z = (i : Int)) (ht : t = (n : Int)) :
    Calls Try.prog 121 #[.agg #[.int .i64 x, .int .i64 y, vs], .int .i64 z, v, .int .i64 t] w fun e w' => e = .returned (.int .u8 ((wd F L i k n).toNat : Nat)) ∧ Below w.heap.size w w' := by
  subst hx hy hz ht
  obtain ⟨da, dc, rfl⟩ := h.form
  have hLh : Hid (L.length = k) := hL
  rw [hL] at h ⊢
  clear hL
  obtain ⟨N, hN⟩ : ∃ N, Hid (N = (flat m k F).length) := ⟨_, rfl⟩
  obtain ⟨va, vc, rfl⟩ := hA.form
  rw [← hN.out] at hA ⊢
  have hNm : Hid (N = m * k) := by show _ = _; rw [hN.out, flat_length]
  have B0 : Below w.heap.size w (w.alloc (.cells #[.int .i64 (m : Int), .int .i64 (k : Int), .slice va N vc] 74)) := (Below.refl _ _).alloc (Nat.le_refl _) _
  have X0 := Box.new w (m : Int) (k : Int) (.slice va N vc) 74
  have h0 := h.below B0
  have hA0 := hA.below B0
  have hn' : Hid _ := hn
  clear h hA hn hN
  go_enter Try.func121, Try.ntmps121
  go_wp2
  generalize w.alloc (.cells #[.int .i64 (m : Int), .int .i64 (k : Int), .slice va N vc] 74) = w1 at *
  have x1 := X0.c1
  have x2 := X0.c2
  go_loopw [9, 10] (fun o c wr => ∃ j : Nat, j ≤ k ∧ c = .int .i64 j ∧ o = .int .u8 ((wd F L i j n).toNat : Nat) ∧ ∃ nd, wr = w1.drewN nd) (fun _ c _ => k - (intOf c).toNat)
  case atStart => exact ⟨0, by omega, rfl, rfl, 0, rfl⟩
  case round =>
    obtain ⟨j, hj, rfl, rfl, nd, hd0⟩ := hrel
    by_cases hlt : j < k
    · have hlt' : (j : Int) < (k : Int) := by omega
      obtain ⟨db, doff, xa, xc, eda, hdb, cj, rj⟩ := h0.at (i := j) (by rw [hLh.out]; exact hlt)
      subst eda
      have hnj := hn'.out j hlt
      have hnj' : (n : Int) < ((ro L j).length : Int) := by omega
      obtain ⟨xb, xo, exa, hxb, dj⟩ := rj.byte hnj
      subst exa
      obtain ⟨T, hT⟩ : ∃ T, Hid (T = i * k + j) := ⟨_, rfl⟩
      have hTN : T < N := by rw [hT.out, hNm.out]; exact place_lt hi hlt
      have hNs : N ≤ 65536 := by rw [hNm.out]; exact mul_small hm hk
      obtain ⟨o', ho'⟩ : ∃ o', Hid (o' = i * k) := ⟨_, rfl⟩
      have hoT : o' + j = T := by rw [ho'.out, hT.out]
      have v0 : (i : Int) * (k : Int) = (o' : Int) := by rw [ho'.out]; exact_mod_cast rfl
      have v3 : (o' : Int) + (j : Int) = (T : Int) := by omega
      have v1 : IntKind.i64.wrap (o' : Int) = (o' : Int) := by rw [IntKind.wrap_i64]; omega
      have v2 : IntKind.i64.wrap (T : Int) = (T : Int) := by rw [IntKind.wrap_i64]; omega
      obtain ⟨ab, ao, eva, hab, ca⟩ := hA0.byte (i := T) (by rw [flat_length, ← hNm.out]; exact hTN)
      have eT : co (flat m k F) T = F i j := by rw [hT.out]; exact en_flat F hi hlt
      rw [eT] at ca
      subst eva
      have hTN' : (T : Int) < (N : Int) := by omega
      have E := xor_u8 (wd F L i j n) (mu (F i j) (co (ro L j) n))
      have HE : Hid (((wd F L i j n).toNat ^^^ (mu (F i j) (co (ro L j) n)).toNat : Nat) = (wd F L i (j + 1) n).toNat) := by show _ = _; rw [wd_succ, UInt8.toNat_xor]
      have hd : Hid (wr = w1.drewN nd) := hd0
      have y1 : wr.cell? ⟨w.heap.size, 1, none⟩ = some (.int .i64 (k : Int)) := by rw [hd0]; exact x1
      have y2 : wr.cell? ⟨w.heap.size, 2, none⟩ = some (.slice (some ⟨ab, ao, none⟩) N vc) := by rw [hd0]; exact x2
      have cj2 : wr.cell? ⟨db, doff + j, none⟩ = some (.slice (some ⟨xb, xo, none⟩) (ro L j).length xc) := by rw [hd0]; exact cj
      have dj2 : wr.cell? ⟨xb, xo + n, none⟩ = some (.int .u8 ((co (ro L j) n).toNat : Nat)) := by rw [hd0]; exact dj
      have ca2 : wr.cell? ⟨ab, ao + T, none⟩ = some (.int .u8 ((F i j).toNat : Nat)) := by rw [hd0]; exact ca
      clear hd0 hoT eT cj dj ca rj x1 x2 h0 hA0 X0 hn'
      go_wp2
      go_quiet ((go_at_call 96; go_loud (exact Calls.quiet_of_same (rmu6_at (F i j) (co (ro L j) n) rfl rfl))))
      go_wp2
      go_roundw
      case rel => exact ⟨j + 1, by omega, by go_num, by rw [HE.out], _, by show _ = _; rw [hd.out, World.drewN_drewN]⟩
      case measure => simp [intOf]; omega
    · have hge : ¬ (j : Int) < (k : Int) := by omega
      have ej : j = k := by omega
      subst ej
      have HB : Hid (Below w.heap.size w wr) := by rw [hd0]; exact B0.drewN nd
      clear hd0 h0 hA0 X0 x1 x2 hn'
      go_wp2
      go_ret
      exact ⟨rfl, HB.out⟩

set_option maxRecDepth 100000 in
set_option maxHeartbeats 1000000 in
theorem renc_bad {k m : Int} {v : Value} {w : World} (h : ¬ OkC k m) : Calls Try.prog 97 #[.int .i64 k, .int .i64 m, v] w (MakesRs w 50 []) := by
  go_enter Try.func97, Try.ntmps97
  go_wp2_with fail
  refine (rpar_bad _ h).mono ?_
  rintro e w2 ⟨vs, rfl, hR, b2⟩
  obtain ⟨va, vc, rfl⟩ := hR.form
  clear h hR
  go_wp2
  exact bodyPost_ret (v := .tuple #[.slice none 0 0, .int .i64 50]) (by simp [results, Try.results97, go_sem]) rfl ⟨_, rfl, rs_none, below_lit b2 _⟩

set_option maxRecDepth 100000 in
set_option maxHeartbeats 1000000 in
theorem renc_shard {k m : Nat} {v : Value} {L : List (List UInt8)} {w : World} (h1 : 1 ≤ k) (h2 : k + m ≤ 256) (h : Rs w v L) (hb : ¬ ((L.length : Int) = (k : Int) ∧ Even L)) {x y : Int} (hx : x = (k : Int)) (hy : y = (m : Int)) :
    Calls Try.prog 97 #[.int .i64 x, .int .i64 y, v] w (MakesRs w 60 []) := by
  subst hx hy
  have hE : Hid (alikeB L (k : Int) = false) := decide_eq_false hb
  obtain ⟨da, dc, rfl⟩ := h.form
  clear hb
  go_enter Try.func97, Try.ntmps97
  go_wp2_with fail
  refine (rpar_ok _ h1 h2 rfl rfl).mono ?_
  rintro e w2 ⟨vs, rfl, hR, b2⟩
  obtain ⟨va, vc, rfl⟩ := hR.form
  have B2 : Hid (Below w.heap.size w (w2.alloc (.cells #[.int .i64 (m : Int), .int .i64 (k : Int), .slice va (flat m k (parF k)).length vc] 74))) := below_lit b2 _
  clear hR b2
  go_wp2_with fail
  refine (alike_any (h.below B2.out)).mono ?_
  rintro e w3 ⟨rfl, nd, hd⟩
  rw [hE.out]
  have B3 : Hid (Below w.heap.size w w3) := by rw [hd]; exact B2.out.drewN nd
  clear h B2 hd
  go_wp2
  exact bodyPost_ret (v := .tuple #[.slice none 0 0, .int .i64 60]) (by simp [results, Try.results97, go_sem]) rfl ⟨_, rfl, rs_none, B3.out⟩

set_option maxRecDepth 100000 in
set_option maxHeartbeats 4000000 in
theorem renc_ok {k m : Nat} {v : Value} {L : List (List UInt8)} {w : World} (h1 : 1 ≤ k) (h2 : k + m ≤ 256) (h : Rs w v L) (hL : L.length = k) (hE : Even L) (hS : Small L) {x y : Int} (hx : x = (k : Int)) (hy : y = (m : Int)) :
    Calls Try.prog 97 #[.int .i64 x, .int .i64 y, v] w (MakesRs w 0 (encL m k (parF k) L)) := by
  subst hx hy
  obtain ⟨i0, hi, hz0, hz1, hz2⟩ := info_parts info_u8
  obtain ⟨i1, hj, hy0, hy1, hy2⟩ := info_parts info_shard
  have hAl : Hid (alikeB L (k : Int) = true) := alikeB_true (by omega) hE
  obtain ⟨db, doff, dc, rfl, hdb, hdc, hdm⟩ := h.somewhere (by omega)
  have hLh : Hid (L.length = k) := hL
  rw [hL] at h ⊢
  clear hL
  obtain ⟨F, hFF⟩ : ∃ F, Hid (F = parF k) := ⟨_, rfl⟩
  rw [← hFF.out]
  go_enter Try.func97, Try.ntmps97
  go_wp2_with fail
  refine (rpar_ok _ h1 h2 rfl rfl).mono ?_
  rintro e w2 ⟨vs, rfl, hR, b2⟩
  rw [← hFF.out] at hR
  obtain ⟨N, hN⟩ : ∃ N, Hid (N = (flat m k F).length) := ⟨_, rfl⟩
  obtain ⟨va, vc, rfl⟩ := hR.form
  rw [← hN.out] at hR ⊢
  have A2 : Below w2.heap.size w2 (w2.alloc (.cells #[.int .i64 (m : Int), .int .i64 (k : Int), .slice va N vc] 74)) := (Below.refl _ _).alloc (Nat.le_refl _) _
  have B2 : Below w.heap.size w (w2.alloc (.cells #[.int .i64 (m : Int), .int .i64 (k : Int), .slice va N vc] 74)) := below_lit b2 _
  have X2 := Box.new w2 (m : Int) (k : Int) (.slice va N vc) 74
  have hl2 : w2.heap.size < (w2.alloc (.cells #[.int .i64 (m : Int), .int .i64 (k : Int), .slice va N vc] 74)).heap.size := by simp
  have hR2 := hR.below A2
  have hD2 := h.below B2
  clear hR b2 A2 h
  go_wp2_with fail
  refine (alike_any hD2).mono ?_
  rintro e w3 ⟨rfl, nd, hd⟩
  rw [hAl.out]
  have b3 : Below (w2.alloc (.cells #[.int .i64 (m : Int), .int .i64 (k : Int), .slice va N vc] 74)).heap.size (w2.alloc (.cells #[.int .i64 (m : Int), .int .i64 (k : Int), .slice va N vc] 74)) w3 := by rw [hd]; exact (Below.refl _ _).drewN nd
  clear hd hAl
  generalize w2.alloc (.cells #[.int .i64 (m : Int), .int .i64 (k : Int), .slice va N vc] 74) = w1 at *
  replace X2 := X2.below hl2 b3
  replace hl2 := Nat.lt_of_lt_of_le hl2 b3.size
  replace hR2 := hR2.below b3
  replace hD2 := hD2.below b3
  replace B2 := Below.next B2 b3
  clear b3
  go_wp2_with fail
  refine (rcop_any hD2 hS).mono ?_
  rintro e w4 ⟨vo, rfl, hO4, b4⟩
  obtain ⟨B, hBB⟩ : ∃ B, Hid (B = w3.heap.size) := ⟨_, rfl⟩
  rw [← hBB.out] at hO4 b4 hl2
  have HX : Hid (∀ wr, Below B w3 wr → Box wr w2.heap.size (m : Int) (k : Int) (.slice va N vc)) := fun wr hb => X2.below hl2 hb
  have HD : Hid (∀ wr, Below B w3 wr → Rs wr (.slice (some ⟨db, doff, none⟩) k dc) L) := fun wr hb => hD2.below (by rw [← hBB.out]; exact hb)
  have HA : Hid (∀ wr, Below B w3 wr → Rd wr (.slice va N vc) (flat m k F)) := fun wr hb => hR2.below (by rw [← hBB.out]; exact hb)
  have hdB : db < B := by
    obtain ⟨b', off', xa, xc, e, h, _⟩ := hD2.at (i := 0) (by rw [hLh.out]; omega)
    simp at e
    rw [hBB.out, e.1]; exact h
  have hsB : Hid (w.heap.size ≤ B) := by rw [hBB.out]; exact B2.size
  have HB2 : Hid _ := B2
  have hSk : Hid (∀ i, (ro L i).length ≤ 300) := hS.2
  have hEv : Hid (Even L) := hE
  have HO4 : Hid (Os w4 B 22 5 vo L) := hO4
  have HB4 : Hid (Below B w3 w4) := b4
  clear X2 hD2 hR2 hS hE hO4 b4 B2 hN
  go_wp2
  go_loopw [11, 12] (fun o i wr => ∃ r : Nat, r ≤ m ∧ i = .int .i64 r ∧ Os wr B 22 5 o (L ++ mkL r (parR k F L)) ∧ Below B w3 wr) (fun _ i _ => m - (intOf i).toNat)
  case atStart => exact ⟨0, by omega, rfl, by simpa [mkL] using HO4.out, HB4.out⟩
  case round =>
    obtain ⟨r, hr, rfl, hO, hB⟩ := hrel
    clear HO4 HB4
    obtain ⟨wo, hwo⟩ : ∃ wo, wo = wr := ⟨_, rfl⟩
    subst hwo
    have hszr : B ≤ wo.heap.size := by rw [hBB.out]; exact hB.size
    by_cases hlt : r < m
    · have hlt' : (r : Int) < (m : Int) := by omega
      have HLen : Hid ((L ++ mkL r (parR k F L)).length = k + r) := by show _ = _; rw [List.length_append, mkL_length, hLh.out]
      obtain ⟨av, cv, ev⟩ := hO.form
      rw [HLen.out] at ev
      subst ev
      have hO' : Hid _ := hO
      have hB' : Hid _ := hB
      obtain ⟨n0, hn0⟩ : ∃ n0, Hid (n0 = (ro L 0).length) := ⟨_, rfl⟩
      have hn03 : n0 ≤ 300 := by rw [hn0.out]; exact hSk.out 0
      clear hO hB
      go_wp2
      go_loopw [13, 14] (fun s i w8 => ∃ t : Nat, t ≤ n0 ∧ i = .int .i64 t ∧ w8.ownsRow wo.heap.size 5 1 s t ((upto (wd F L r k) t).map vb) ∧ Below wo.heap.size wo w8) (fun _ i _ => n0 - (intOf i).toNat)
      case atStart => exact ⟨0, by omega, rfl, World.ownsRow_nil _ _ _ _, Below.refl _ _⟩
      case round =>
        obtain ⟨t, ht, rfl, hs, b8⟩ := hrel
        obtain ⟨w8, hw8⟩ : ∃ w8, w8 = wr := ⟨_, rfl⟩
        subst hw8
        have hB8 : Below B w3 w8 := hB'.out.trans (b8.mono hszr)
        have hs8 : wo.heap.size ≤ w8.heap.size := b8.size
        obtain ⟨ya, yc, c0, r0⟩ := (HD.out _ hB8).get (i := 0) (by rw [hLh.out]; omega)
        rw [Nat.add_zero, ← hn0.out] at c0
        have h0k : (0 : Int) < (k : Int) := by omega
        obtain ⟨sa, sc, es⟩ := owns_form hs
        subst es
        clear r0
        by_cases hlt3 : t < n0
        · have hlt3' : (t : Int) < (n0 : Int) := by omega
          have X8 := HX.out _ hB8
          have x0 := X8.c0
          have x1 := X8.c1
          have x2 := X8.c2
          have HW := word_any (n := t) m k r F (HA.out _ hB8) (by omega) (by omega) hlt (HD.out _ hB8) hLh.out (fun j hj => by rw [hEv.out j (by rw [hLh.out]; exact hj), ← hn0.out]; exact hlt3) (by omega) rfl rfl rfl rfl
          have hs' : Hid _ := hs
          have b8' : Hid _ := b8
          clear hs b8 X8 hB8
          go_wp2_with fail
          refine HW.mono ?_
          rintro e w9 ⟨rfl, b9⟩
          have hs9 := owns_later hs'.out b9
          have B9 : Hid (Below wo.heap.size wo w9) := Below.next b8'.out b9
          have hs9' : wo.heap.size ≤ w9.heap.size := B9.out.size
          clear HW hs' b8' b9 x0 x1 x2 c0
          go_wp2_with (at_builtin; go_loud (refine wpList_append_rd2 _ rfl (.tmp 44) (.tmp 50) 22 rfl wo.heap.size 5 i0 Try.underlying22 hi hz0 hz1 hz2 (.slice sa t sc) t _ rfl (World.ownsRow.alloc hs9 _) _ [wd F L r k t] rfl (rd_lit (n := 1) [wd F L r k t] rfl rfl (by decide)) (by simp; omega) (by simp; omega) ?_); intro x' w10 hx10 hg10 hb10)
          have HN : Hid (w10.ownsRow wo.heap.size 5 1 x' (t + 1) ((upto (wd F L r k) (t + 1)).map vb)) := (by rw [upto_vb_succ]; exact hx10 : w10.ownsRow wo.heap.size 5 1 x' (t + 1) ((upto (wd F L r k) (t + 1)).map vb))
          have HB10 : Hid (Below wo.heap.size wo w10) := (B9.out.alloc hs9' _).grown hg10 (by simp; omega) (fun q hq => (World.ownsRow.lt hs9 q hq).1)
          clear hx10 hg10 hb10 hs9 B9
          go_roundw
          case rel => exact ⟨t + 1, by omega, by go_num, HN.out, HB10.out⟩
          case measure => simp [intOf]; omega
        · have hge3 : ¬ (t : Int) < (n0 : Int) := by omega
          have et : t = n0 := by omega
          have hx8 : OwnP w8 B 5 (.slice sa t sc) (parR k F L r) := by
            unfold OwnP parR
            rw [upto_length, ← hn0.out, ← et]
            exact ownsRow_base hs hszr
          have hb1 : ∀ q, (Value.slice sa t sc).ownBlock = some q → wo.heap.size ≤ q := fun q hq => (World.ownsRow.lt hs q hq).1
          clear hs et
          go_wp2_with (at_builtin; go_loud (refine wpList_append_os rfl (.tmp 52) (.tmp 54) 36 rfl B 22 i1 Try.underlying36 hj hy0 hy1 hy2 5 (.slice av (k + r) cv) (L ++ mkL r (parR k F L)) rfl hO'.out b8 (.slice sa t sc) (parR k F L r) hx8 hb1 _ 1 rfl (by rw [HLen.out]; omega) hszr ?_); intro v' w9 hv9 hb9 _ _)
          have HOn : Hid (Os w9 B 22 5 v' (L ++ mkL (r + 1) (parR k F L))) := by
            show Os _ _ _ _ _ _
            rw [mkL_succ, ← List.append_assoc]; exact hv9
          have HBn : Hid (Below B w3 w9) := hB'.out.trans hb9
          clear hv9 hb9 hx8 hb1 hB8 b8 hO' hB' c0
          go_wp2
          go_roundw
          case rel => exact ⟨r + 1, by omega, by go_num, HOn.out, HBn.out⟩
          case measure => simp [intOf]; omega
    · have hge : ¬ (r : Int) < (m : Int) := by omega
      have er : r = m := by omega
      rw [er] at hO
      have HR : Hid (Rs wo u11 (encL m k F L)) := hO.rs
      have HBn : Hid (Below w.heap.size w wo) := Below.trans HB2.out (hB.mono hsB.out)
      obtain ⟨ra, rc, ev⟩ := hO.form
      subst ev
      clear hO hB er
      go_wp2
      exact bodyPost_ret (v := .tuple #[.slice ra (L ++ mkL m (parR k F L)).length rc, .int .i64 0]) (by simp [results, Try.results97, go_sem]) rfl ⟨_, rfl, HR.out, HBn.out⟩

theorem renc_any {k m : Int} {v : Value} {L : List (List UInt8)} {w : World} (h : Rs w v L) (hS : Small L) : Calls Try.prog 97 #[.int .i64 k, .int .i64 m, v] w (MakesRs w (encX k m L) (encR k m L)) := by
  rcases enc_cases k m L with c | ⟨c, d⟩ | ⟨c, d1, d2⟩
  · rw [(encX_bad c).1, (encX_bad c).2]
    exact renc_bad c
  · rw [(encX_shard c d).1, (encX_shard c d).2]
    obtain ⟨k, m, rfl, rfl, h1, h2⟩ := c.nat
    exact renc_shard h1 h2 h d rfl rfl
  · obtain ⟨k, m, rfl, rfl, h1, h2⟩ := c.nat
    rw [(encX_ok c d1 d2).1, (encX_ok c d1 d2).2]
    exact renc_ok h1 h2 h (by omega) d2 hS rfl rfl

end Go.Proofs.Ytchfonofjbpmaaa.Gf

/-
  THE DOCUMENT's ANSWER FOR LAYER 7 (package aumbryref07) BY CONTRACT: 'Decode'.
-/




namespace Go.Proofs.Ytchfonofjbpmaaa.Gf
set_option linter.unusedVariables false
set_option linter.unusedSimpArgs false
open Go.RowKit

theorem OwnI.cap {w : World} {base e : Nat} {a : Option Addr} {n c : Nat} {zs : List Nat} (h : OwnI w base e (.slice a n c) zs) : zs.length ≤ c ∧ c ≤ maxLen := by
  obtain ⟨_, ⟨e, hn⟩ | ⟨g, cap, cur, e, hg, hh, hc, hm, hs, ht⟩⟩ := h
  · simp at e; omega
  · simp at e
    obtain ⟨_, _, rfl⟩ := e
    exact ⟨hc, hm⟩
theorem RdI.first {w : World} {b off n c k : Nat} {zs : List Nat} (h : RdI w (.slice (some ⟨b, off, none⟩) n c) (toI zs)) (hk : k ≤ zs.length) (h0 : 0 < k) : RdI w (.slice (some ⟨b, off, none⟩) k c) (toI (zs.take k)) := by
  have hl : (toI (zs.take k)).length = k := by rw [toI_length, List.length_take]; omega
  rcases h with ⟨_, _, e, _⟩ | ⟨b', off', cap, h1, e, h2, h3, h4⟩
  · have := congrArg List.length e
    rw [toI_length, List.length_nil] at this
    omega
  · simp at e
    obtain ⟨⟨rfl, rfl⟩, rfl, rfl⟩ := e
    refine Or.inr ⟨b, off, c, fun q => by rw [q] at hl; simp at hl; omega, by rw [hl], by rw [hl]; rw [toI_length] at h2; omega, h3, fun i hi => ?_⟩
    rw [hl] at hi
    rw [h4 i (by rw [toI_length]; omega), toI_getD, toI_getD]
    simp [List.getD, List.getElem?_take_of_lt hi]

set_option maxRecDepth 100000 in
set_option maxHeartbeats 1000000 in
theorem rdec_bad {k m : Int} {va vl : Value} {w : World} (h : ¬ OkC k m) : Calls Try.prog 62 #[.int .i64 k, .int .i64 m, va, vl] w (MakesRs w 50 []) := by
  go_enter Try.func62, Try.ntmps62
  go_wp2_with fail
  refine (rgen_bad _ h).mono ?_
  rintro e w2 ⟨vs, rfl, hR, b2⟩
  obtain ⟨sa, sc, rfl⟩ := hR.form
  clear h hR
  go_wp2
  exact bodyPost_ret (v := .tuple #[.slice none 0 0, .int .i64 50]) (by simp [results, Try.results62, go_sem]) rfl ⟨_, rfl, rs_none, below_lit b2 _⟩

set_option maxRecDepth 100000 in
set_option maxHeartbeats 2000000 in
theorem rdec_shard {k m : Nat} {va vl : Value} {h : List Bool} {L : List (List UInt8)} {w : World} (h1 : 1 ≤ k) (h2 : k + m ≤ 256) (hH : RdB w va h) (hL : Rs w vl L) (hno : ¬ OkH k m h L) {x y : Int} (hx : x = (k : Int)) (hy : y = (m : Int)) :
    Calls Try.prog 62 #[.int .i64 x, .int .i64 y, va, vl] w (MakesRs w 60 []) := by
  subst hx hy
  obtain ⟨a1, c1, rfl⟩ := hH.form
  obtain ⟨a2, c2, rfl⟩ := hL.form
  obtain ⟨s, hs⟩ : ∃ s, Hid (s = k + m) := ⟨_, rfl⟩
  have g1 : (k : Int) + (m : Int) = (s : Int) := by have := hs.out; omega
  have gw : IntKind.i64.wrap (s : Int) = (s : Int) := by have := hs.out; rw [IntKind.wrap_i64]; omega
  have hno' : Hid (¬ (h.length = s ∧ L.length = s ∧ EvenH h L)) := fun ⟨p1, p2, p3⟩ => hno ⟨by rw [p1]; omega, by rw [p2]; omega, p3⟩
  clear hno
  go_enter Try.func62, Try.ntmps62
  go_wp2_with fail
  refine (rgen_ok (k := k) (m := m) _ h1 h2 rfl rfl).mono ?_
  rintro e w2 ⟨vs, rfl, hR, b2⟩
  obtain ⟨sa, sc, rfl⟩ := hR.form
  generalize (flat (k + m) k (genF k)).length = N at *
  rw [show ((k + m : Nat) : Int) = (s : Int) by rw [hs.out]]
  have B2 : Below w.heap.size w (w2.alloc (.cells #[.int .i64 (s : Int), .int .i64 (k : Int), .slice sa N sc] 74)) := below_lit b2 _
  by_cases p1 : h.length = s
  · have q1 : ((h.length : Int) != (s : Int)) = false := by simp [p1]
    have p1' : Hid _ := p1
    have hl3 : h.length ≤ 300 := by have := hs.out; omega
    clear p1
    by_cases p2 : L.length = s
    · have q2 : ((L.length : Int) != (s : Int)) = false := by simp [p2]
      have E : Hid (¬ EvenH h L) := fun e => hno'.out ⟨p1'.out, p2, e⟩
      have p2' : Hid _ := p2
      have hH2 := hH.below B2
      have hL2 := hL.below B2
      clear p2 hR b2 hH hL
      go_wp2_with fail
      refine (rthere_any hH2 hL2 (by rw [p1'.out, p2'.out]) hl3).mono ?_
      rintro e w3 (⟨he, _⟩ | ⟨_, rfl, b3⟩)
      · exact absurd he E.out
      · have B3 := Below.next B2 b3
        clear hH2 hL2 b3 B2
        go_wp2
        exact bodyPost_ret (v := .tuple #[.slice none 0 0, .int .i64 60]) (by simp [results, Try.results62, go_sem]) rfl ⟨_, rfl, rs_none, B3⟩
    · have q2 : ((L.length : Int) != (s : Int)) = true := by simp; omega
      clear p2 hR b2 hH hL
      go_wp2
      exact bodyPost_ret (v := .tuple #[.slice none 0 0, .int .i64 60]) (by simp [results, Try.results62, go_sem]) rfl ⟨_, rfl, rs_none, B2⟩
  · have q1 : ((h.length : Int) != (s : Int)) = true := by simp; omega
    clear p1 hR b2 hH hL
    go_wp2
    exact bodyPost_ret (v := .tuple #[.slice none 0 0, .int .i64 60]) (by simp [results, Try.results62, go_sem]) rfl ⟨_, rfl, rs_none, B2⟩

set_option maxRecDepth 100000 in
set_option maxHeartbeats 2000000 in
theorem rdec_few {k m : Nat} {va vl : Value} {h : List Bool} {L : List (List UInt8)} {w : World} (h1 : 1 ≤ k) (h2 : k + m ≤ 256) (hH : RdB w va h) (hL : Rs w vl L) (hok : OkH k m h L) (hf : (thr h h.length).length < k) {x y : Int} (hx : x = (k : Int)) (hy : y = (m : Int)) :
    Calls Try.prog 62 #[.int .i64 x, .int .i64 y, va, vl] w (MakesRs w 70 []) := by
  subst hx hy
  obtain ⟨a1, c1, rfl⟩ := hH.form
  obtain ⟨a2, c2, rfl⟩ := hL.form
  obtain ⟨s, hs⟩ : ∃ s, Hid (s = k + m) := ⟨_, rfl⟩
  have g1 : (k : Int) + (m : Int) = (s : Int) := by have := hs.out; omega
  have gw : IntKind.i64.wrap (s : Int) = (s : Int) := by have := hs.out; rw [IntKind.wrap_i64]; omega
  have p1 : Hid (h.length = s) := by show _ = _; have := hok.1; omega
  have p2 : Hid (L.length = s) := by show _ = _; have := hok.2.1; omega
  have E : Hid (EvenH h L) := hok.2.2
  have q0 : ((s : Int) != (s : Int)) = false := by simp
  have hs3 : Hid (s ≤ 256) := by rw [hs.out]; exact h2
  clear hok
  rw [p1.out] at hH ⊢
  rw [p2.out] at hL ⊢
  go_enter Try.func62, Try.ntmps62
  go_wp2_with fail
  refine (rgen_ok (k := k) (m := m) _ h1 h2 rfl rfl).mono ?_
  rintro e w2 ⟨vs, rfl, hR, b2⟩
  obtain ⟨sa, sc, rfl⟩ := hR.form
  generalize (flat (k + m) k (genF k)).length = N at *
  rw [show ((k + m : Nat) : Int) = (s : Int) by rw [hs.out]]
  have B2 : Below w.heap.size w (w2.alloc (.cells #[.int .i64 (s : Int), .int .i64 (k : Int), .slice sa N sc] 74)) := below_lit b2 _
  have hH2 := hH.below B2
  have hL2 := hL.below B2
  clear hR b2 hH hL
  go_wp2_with fail
  refine (rthere_any hH2 hL2 (by rw [p1.out, p2.out]) (by rw [p1.out]; have := hs3.out; omega)).mono ?_
  rintro e w3 (⟨_, v4, rfl, hO4, b3⟩ | ⟨he, _⟩)
  · have B3 := Below.next B2 b3
    obtain ⟨pa, pc, rfl⟩ := hO4.form
    have hf' : (((thr h h.length).length : Nat) : Int) < (k : Int) := by omega
    generalize (thr h h.length).length = n7 at *
    clear hH2 hL2 b3 B2 hO4
    go_wp2
    exact bodyPost_ret (v := .tuple #[.slice none 0 0, .int .i64 70]) (by simp [results, Try.results62, go_sem]) rfl ⟨_, rfl, rs_none, B3⟩
  · exact absurd E.out he

end Go.Proofs.Ytchfonofjbpmaaa.Gf

