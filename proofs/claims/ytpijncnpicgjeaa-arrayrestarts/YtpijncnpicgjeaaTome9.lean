/- TEXTS JOINED: ArAw. -/
import Derived.Test.YtpijncnpicgjeaaTome8
/-
  THE STATEMENTS' HELPERS OF LAYER 13: 'awake'; how an array and what it told are carried over a call: 'ArB', 'Told', 'ToldR'.
-/

namespace Go.Proofs.Ytpijncnpicgjeaa.Gf
set_option linter.unusedVariables false
set_option linter.unusedSimpArgs false
open Go.RowKit

section
variable {w w' : World} {ab N : Nat} {GA GA' : Nat → Prop} {a a' : ArS}
/-- an array and the least number of its blocks -/
structure ArB (w : World) (N : Nat) (ab : Nat) (GA : Nat → Prop) (a : ArS) : Prop where
  at_ : ArAt w ab GA a
  low : ∀ k, GA k → N ≤ k
  size : N ≤ w.heap.size
theorem ArB.below (h : ArB w N ab GA a) (hb : Below w.heap.size w w') : ArB w' N ab GA a := ⟨h.at_.below hb, h.low, Nat.le_trans h.size hb.size⟩
theorem ArB.grew (h : ArB w N ab GA a) (hd : ArAt w' ab GA' a') (g : Grew GA w GA' w') : ArB w' N ab GA' a' := ⟨hd, g.base h.low h.size, Nat.le_trans h.size g.turn.size⟩
theorem ArB.bel (h : ArB w N ab GA a) (g : Grew GA w GA' w') : Below N w w' := g.below h.low h.size
theorem Told.ownA {v : Value} {p : List UInt8} {e : Nat} (h : ArAt w ab GA a) (ho : w'.ownsRow w.heap.size e 1 v p.length (p.map vb)) : Told w' GA v p := ⟨Rd.owned ho, ApartG.own ho h.lt⟩
/-- a row that was told, apart from the array -/
structure ToldR (w : World) (G : Nat → Prop) (g t n : Nat) (f : Nat → Value) : Prop where
  row : w.rowIs g t n f
  ap : ¬ G g
theorem ToldR.below {G : Nat → Prop} {g t n : Nat} {f : Nat → Value} (h : ToldR w G g t n f) (hb : Below w.heap.size w w') : ToldR w' G g t n f := ⟨h.row.of_block (hb.block g h.row.lt), h.ap⟩
theorem ToldR.grew {G G' : Nat → Prop} {g t n : Nat} {f : Nat → Value} (h : ToldR w G g t n f) (gr : Grew G w G' w') : ToldR w' G' g t n f := ⟨h.row.of_block (gr.turn.block g h.row.lt h.ap), gr.off h.row.lt h.ap⟩
theorem ToldR.own {g t n : Nat} {f : Nat → Value} (h : ArAt w ab GA a) (r : w'.rowIs g t n f) (hg : w.heap.size ≤ g) : ToldR w' GA g t n f := ⟨r, fun e => by have := h.lt g e; omega⟩
/-- a list of one list of one integer -/
theorem litII {G : Nat → Prop} (z : Int) (hz : (Lit.int .i64 z).wf = true) (e1 e2 : Nat) (hG : ∀ k, G k → k < w.heap.size) :
    ToldII ((w.alloc (.cells #[.int .i64 z] e1)).alloc (.cells #[.slice (some ⟨w.heap.size, 0, none⟩) 1 1] e2)) G (.slice (some ⟨w.heap.size + 1, 0, none⟩) 1 1) [(.slice (some ⟨w.heap.size, 0, none⟩) 1 1, [z])] := by
  have s1 : (w.alloc (.cells #[.int .i64 z] e1)).heap.size = w.heap.size + 1 := by simp
  refine ⟨Or.inr ⟨w.heap.size + 1, 0, 1, by simp, rfl, by simp [maxLen], by simp, fun i hi => ?_⟩, ?_, ?_⟩
  · have e : i = 0 := by simpa using hi
    subst e
    refine ⟨?_, ?_, ?_⟩
    · show World.cell? _ ⟨w.heap.size + 1, 0, none⟩ = some (Value.slice (some ⟨w.heap.size, 0, none⟩) 1 1)
      rw [← s1]
      exact World.cell?_alloc_new _ _ _ _
    · exact (litI w z e1).below (belA _ _)
    · intro y hy
      have : y = z := by simpa using hy
      rw [this]; exact hz
  · intro x n c e
    simp at e
    obtain ⟨rfl, _⟩ := e
    exact Or.inr (fun h => by have := hG _ h; simp at this; omega)
  · intro r hr
    have : r = (.slice (some ⟨w.heap.size, 0, none⟩) 1 1, [z]) := by simpa using hr
    rw [this]
    intro x n c e
    simp at e
    obtain ⟨rfl, _⟩ := e
    exact Or.inr (fun h => by have := hG _ h; simp at this)
end
theorem OwnH.formL {w : World} {base : Nat} {v : Value} {L : List (Int × List UInt8)} (h : OwnH w base v L) : ∃ a c, v = .slice a L.length c := by
  obtain ⟨T, h1, h2⟩ := h
  obtain ⟨a, c, e⟩ := owns_slice h2.row
  refine ⟨a, c, ?_⟩
  rw [e, ← h1]
  simp [bareT]
def ax1 : ArS := caA (newA 2 4) 1
def ax2 : ArS := wrAS ax1 0 1 [7]
def ax3 : ArS := reAS ax2 [[1]]
def ax4 : ArS := faAS ax3 1
theorem ax_w : wrAX ax1 0 1 [7] = 0 := by decide
theorem ax_r : rdAX ax2 0 1 = 130 := by decide
theorem ax_r' : rdAB ax2 0 1 = [] := by decide
theorem ax_d : ax2.off = true := by decide
theorem ax_b : rdAX ax3 0 1 = 0 := by decide
theorem ax_b' : rdAB ax3 0 1 = [7] := by decide
theorem ax_h : thX ax3 1 = 0 := by decide
theorem ax_l : ax4.D.length = 2 := by decide
theorem ax_l0 : (ax4.D.getD 0 default).dead = false := by decide
theorem ax_l1 : (ax4.D.getD 1 default).dead = true := by decide
theorem ax_n0 : ax4.B.getD 0 0 = 0 := by decide
theorem ax_n1 : ax4.B.getD 1 0 = 1 := by decide
theorem ax_e : wrAX ax4 1 1 [7] = 120 := by decide
theorem ax_e' : wrAS ax4 1 1 [7] = ax4 := by
  unfold wrAS
  rw [if_neg (by decide), if_pos (by decide), if_neg (by decide)]
theorem ax_f : wrAX ax4 2 1 [7] = 1 := by decide
theorem newA_len (n s : Nat) : (newA n s).D.length = n := by simp [newA]
section
variable {w : World} {ab : Nat} {GA : Nat → Prop} {a : ArS}
theorem awrite_is (h : ArAt w ab GA a) {i ad : Int} (hi : (Lit.int .i64 i).wf = true) (ha : (Lit.int .i64 ad).wf = true) {v : Value} {p : List UInt8} (hp : Rd w v p) {x : Int} (hx : wrAX a i ad p = x) {a' : ArS} (hd : wrAS a i ad p = a') : Calls Try.prog 16 #[.pointer (some ⟨ab, 0, none⟩), .int .i64 i, .int .i64 ad, v] w (LeavesA w ab GA a' (.int .i64 x)) := by
  rw [← hx, ← hd]; exact awrite_any h hi ha hp
theorem aread_is (h : ArAt w ab GA a) {i ad : Int} (hi : (Lit.int .i64 i).wf = true) (ha : (Lit.int .i64 ad).wf = true) {x : Int} (hx : rdAX a i ad = x) {p : List UInt8} (hp : rdAB a i ad = p) : Calls Try.prog 17 #[.pointer (some ⟨ab, 0, none⟩), .int .i64 i, .int .i64 ad] w (Tells w x p) := by
  rw [← hx, ← hp]; exact aread_any h hi ha
theorem afail_is (h : ArAt w ab GA a) {i : Int} (hi : (Lit.int .i64 i).wf = true) {x : Int} (hx : thX a i = x) : Calls Try.prog 25 #[.pointer (some ⟨ab, 0, none⟩), .int .i64 i] w (LeavesA w ab GA (faAS a i) (.int .i64 x)) := by
  rw [← hx]; exact afail_any h hi
theorem aflush_is (h : ArAt w ab GA a) {x : Int} (hx : flAX a = x) {a' : ArS} (hd : flAS a = a') : Calls Try.prog 18 #[.pointer (some ⟨ab, 0, none⟩)] w (LeavesA w ab GA a' (.int .i64 x)) := by
  rw [← hx, ← hd]; exact aflush_any h
theorem flAS_off (a : ArS) : (flAS a).off = a.off := by unfold flAS; split <;> rfl
theorem alive_is (h : ArAt w ab GA a) {n : Nat} (hn : a.D.length = n) : Calls Try.prog 28 #[.pointer (some ⟨ab, 0, none⟩)] w (MadeRow w 4 n (fun i => .bool (!(a.D.getD i default).dead))) := by
  rw [← hn]; exact alive_any h
theorem abirths_is (h : ArAt w ab GA a) {n : Nat} (hn : a.D.length = n) : Calls Try.prog 29 #[.pointer (some ⟨ab, 0, none⟩)] w (MadeRow w 3 n (fun i => .int .i64 (a.B.getD i 0))) := by
  rw [← hn]; exact abirths_any h
theorem adown_is (h : ArAt w ab GA a) {x : Bool} (hx : a.off = x) : Calls Try.prog 19 #[.pointer (some ⟨ab, 0, none⟩)] w fun e w' => e = .returned (.bool x) ∧ w' = w := by
  rw [← hx]; exact adown_any h
theorem anew_is {w : World} {n s : Int} {m : Nat} (e : n = (m : Int)) (h1 : 1 ≤ m) (h2 : m ≤ 32) (h3 : 1 ≤ s) (h4 : s ≤ 4096) {k : Nat} (hs : s.toNat = k) : Calls Try.prog 10 #[.int .i64 n, .int .i64 s] w (NewsA w m k) := by
  subst e hs
  exact anew_any h1 h2 h3 h4
end
set_option maxRecDepth 100000 in
set_option maxHeartbeats 2000000 in
theorem awake_any {w : World} : Calls Try.prog 9 #[] w fun e w' => e = .returned (.bool true) ∧ Below w.heap.size w w' := by
  go_enter Try.func9, Try.ntmps9
  go_wp2_with fail
  refine (anew_is (n := 2) (s := 4) (m := 2) (k := 4) rfl (by decide) (by decide) (by decide) (by decide) rfl).mono ?_
  rintro _ w1 ⟨ab, G1, rfl, A1, H1, B1⟩
  have D1 : ArB w1 w.heap.size ab G1 (newA 2 4) := ⟨A1, H1, B1.size⟩
  clear A1 H1
  go_wp2_with fail
  refine (anew_bad (n := 33) (s := 4) (by decide)).mono ?_
  rintro _ wq ⟨rfl, hwq⟩
  rw [hwq]
  clear hwq wq
  go_wp2_with fail
  refine (aafter_any D1.at_ (n := 1) (by decide)).mono ?_
  rintro _ w2 ⟨rfl, G2, A2, g2⟩
  have D2 : ArB w2 w.heap.size ab G2 ax1 := D1.grew A2 g2
  have B2 := B1.trans (D1.bel g2)
  clear A2 g2 D1 B1
  go_wp2_with fail
  have D2a := fun o => D2.below (belA w2 o)
  have B2a := fun o => B2.step12 (belA w2 o) B2.size
  refine (awrite_is (D2a _).at_ (by decide) (by decide) (rd_lit [7] rfl rfl (by decide)) ax_w (a' := ax2) rfl).mono ?_
  rintro _ w3 ⟨rfl, G3, A3, g3⟩
  have D3 : ArB w3 w.heap.size ab G3 ax2 := (D2a _).grew A3 g3
  have B3 := (B2a _).trans ((D2a _).bel g3)
  clear D2a B2a A3 g3 D2 B2
  go_wp2_with fail
  refine (aread_is D3.at_ (by decide) (by decide) ax_r ax_r').mono ?_
  rintro _ w4 ⟨vr, rfl, O4, C4⟩
  have D4 := D3.below C4
  have B4 := B3.step12 C4 B3.size
  obtain ⟨ar, cr, rfl⟩ := owns_slice O4
  clear O4 C4 D3 B3
  go_wp2_with fail
  refine (adown_is D4.at_ ax_d).mono ?_
  rintro _ wq ⟨rfl, hwq⟩
  rw [hwq]
  clear hwq wq
  go_wp2_with fail
  have D4a := fun o p => (D4.below (belA w4 o)).below (belA (w4.alloc o) p)
  have B4a := fun o p => (B4.step12 (belA w4 o) B4.size).step12 (belA (w4.alloc o) p) (Nat.le_trans B4.size (belA w4 o).size)
  refine (arestart_any (D4a _ _).at_ (litII 1 (by decide) 3 56 D4.at_.lt) (by intro r hr; simp at hr; subst hr; show 1 ≤ 1000000; decide)).mono ?_
  rintro _ w5 ⟨rfl, G5, A5, g5⟩
  have D5 : ArB w5 w.heap.size ab G5 ax3 := (D4a _ _).grew A5 g5
  have B5 := (B4a _ _).trans ((D4a _ _).bel g5)
  clear D4a B4a A5 g5 D4 B4
  go_wp2_with fail
  refine (aread_is D5.at_ (by decide) (by decide) ax_b ax_b').mono ?_
  rintro _ w6 ⟨vb, rfl, O6, C6⟩
  have Tb6 := Told.ownA D5.at_ O6
  have D6 := D5.below C6
  have B6 := B5.step12 C6 B5.size
  obtain ⟨bb, cb, rfl⟩ := owns_slice O6
  clear O6 C6 D5 B5
  go_wp2_with fail
  refine (afail_is D6.at_ (by decide) ax_h).mono ?_
  rintro _ w7 ⟨rfl, G7, A7, g7⟩
  have D7 : ArB w7 w.heap.size ab G7 ax4 := D6.grew A7 g7
  have Tb7 := Tb6.grew g7
  have B7 := B6.trans (D6.bel g7)
  clear A7 g7 D6 B6 Tb6
  go_wp2_with fail
  refine (alive_is D7.at_ ax_l).mono ?_
  rintro _ w8 ⟨gl, rfl, R8, hl8, C8⟩
  have L8 := ToldR.own D7.at_ R8 hl8
  have D8 := D7.below C8
  have Tb8 := Tb7.below C8
  have B8 := B7.step12 C8 B7.size
  clear R8 hl8 C8 D7 B7 Tb7
  go_wp2_with fail
  refine (abirths_is D8.at_ ax_l).mono ?_
  rintro _ w9 ⟨gn, rfl, R9, hl9, C9⟩
  have N9 := ToldR.own D8.at_ R9 hl9
  have D9 := D8.below C9
  have Tb9 := Tb8.below C9
  have L9 := L8.below C9
  have B9 := B8.step12 C9 B8.size
  clear R9 hl9 C9 D8 B8 Tb8 L8
  obtain ⟨b9, o9, k9, e9, y9⟩ := Tb9.byte
  obtain ⟨rfl, rfl⟩ : bb = some ⟨b9, o9, none⟩ ∧ cb = k9 := by simpa using e9
  clear e9
  have l0 := L9.row.cell (i := 0) (by decide)
  have l1 := L9.row.cell (i := 1) (by decide)
  have n0 := N9.row.cell (i := 0) (by decide)
  have n1 := N9.row.cell (i := 1) (by decide)
  rw [ax_l0] at l0
  rw [ax_l1] at l1
  rw [ax_n0] at n0
  rw [ax_n1] at n1
  simp only [UInt8.reduceToNat, Int.cast_ofNat_Int, Bool.not_true, Bool.not_false] at y9 l0 l1
  clear L9 N9
  go_wp2_with fail
  refine (awrite_is D9.at_ (by decide) (by decide) Tb9.rd ax_e ax_e').mono ?_
  rintro _ w10 ⟨rfl, G10, A10, g10⟩
  have D10 : ArB w10 w.heap.size ab G10 ax4 := D9.grew A10 g10
  have Tb10 := Tb9.grew g10
  have B10 := B9.trans (D9.bel g10)
  clear A10 g10 D9 B9 Tb9
  go_wp2_with fail
  refine (awrite_is D10.at_ (by decide) (by decide) Tb10.rd ax_f rfl).mono ?_
  rintro _ w11 ⟨rfl, G11, A11, g11⟩
  have FB : Hid (Below w.heap.size w w11) := B10.trans (D10.bel g11)
  clear A11 g11 D10 B10 Tb10
  go_wp2
  go_ret
  exact ⟨rfl, FB.out⟩
end Go.Proofs.Ytpijncnpicgjeaa.Gf

