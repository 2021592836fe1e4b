/- TEXTS JOINED: StAw. -/
import Derived.Test.YtddnfhfangfgeaaGreatTome20
import Derived.Test.YtddnfhfangfgeaaGreatTome15
import Derived.Test.YtddnfhfangfgeaaGreatTome2
namespace Go.Proofs.YtddnfhfangfgeaaGreat.Gf
set_option linter.unusedVariables false
set_option linter.unusedSimpArgs false
open Go.RowKit
/-- an array, the least number of its blocks, and a field -/
structure StB (w : World) (N ab fb : Nat) (GA : Nat → Prop) (a : ArS) : Prop where
  D : ArB w N ab GA a
  F : FieldAt w fb
  nf : ¬ GA fb
section
variable {w w' : World} {N ab fb : Nat} {GA GA' : Nat → Prop} {a a' : ArS} {g : GeoS} {st ep : Int}
theorem StB.below (h : StB w N ab fb GA a) (hb : Below w.heap.size w w') : StB w' N ab fb GA a := ⟨h.D.below hb, h.F.belowF hb, h.nf⟩
theorem StB.grew (h : StB w N ab fb GA a) (hd : ArAt w' ab GA' a') (g : Grew GA w GA' w') : StB w' N ab fb GA' a' := ⟨h.D.grew hd g, h.F.turnG h.nf g.turn, g.off h.F.lt h.nf⟩
theorem StB.bel (h : StB w N ab fb GA a) (g : Grew GA w GA' w') : Below N w w' := h.D.bel g
theorem swrite_is (h : StB w N ab fb GA a) (hg : g.Wf) (hst : (Lit.int .i64 st).wf = true) {v : Value} {D : List UInt8} (hp : Rd w v D) (hz : okG g → g.z ≤ 300) {x : Int} (hx : swX a g st ep D = x) {a' : ArS} (hs : swS a g st ep D = a') :
    Calls Tryz.prog 18 #[.pointer (some ⟨ab, 0, none⟩), .pointer (some ⟨fb, 0, none⟩), aggG g, .int .i64 st, .int .i64 ep, v] w (LeavesA w ab GA a' (.int .i64 x)) := by
  rw [← hx, ← hs]; exact swrite_any h.D.at_ h.F hg hst hp hz
theorem sread_is (h : StB w N ab fb GA a) (hg : g.Wf) (hst : (Lit.int .i64 st).wf = true) (hz : okG g → g.z ≤ 300) {x : Int} (hx : rtX a g st ep = x) {D : List UInt8} (hD : rtD a g st ep = D) {B : List Nat} (hB : rtB a g st ep = B) :
    Calls Tryz.prog 24 #[.pointer (some ⟨ab, 0, none⟩), .pointer (some ⟨fb, 0, none⟩), aggG g, .int .i64 st, .int .i64 ep] w (MakesL15 w x D B) := by
  rw [← hx, ← hD, ← hB]; exact sread_any h.D.at_ h.F hg hst hz
theorem sfix_is (h : StB w N ab fb GA a) (hg : g.Wf) (hst : (Lit.int .i64 st).wf = true) (hz : okG g → g.z ≤ 300) {x : Int} (hx : fxX a g st ep = x) {n : Nat} (hn : fxN a g st ep = n) {a' : ArS} (hs : fxS a g st ep = a') :
    Calls Tryz.prog 26 #[.pointer (some ⟨ab, 0, none⟩), .pointer (some ⟨fb, 0, none⟩), aggG g, .int .i64 st, .int .i64 ep] w (LeavesA w ab GA a' (.tuple #[.int .i64 (n : Int), .int .i64 x])) := by
  rw [← hx, ← hn, ← hs]; exact sfix_any h.D.at_ h.F hg hst hz
end
theorem same15 {va vb : Value} {p q : List UInt8} {w : World} (hp : Rd w va p) (hq : Rd w vb q) {x : Bool} (h : sameB p q = x) : Calls Tryz.prog 25 #[va, vb] w fun e w' => e = .returned (.bool x) ∧ Below w.heap.size w w' :=
  (same_any hp hq).mono fun e w' ⟨h1, n, h2⟩ => ⟨by rw [h1, h], by rw [h2]; exact (Below.refl _ _).drewN n⟩
/-- the chapter's geometry -/
def tinyG : GeoS := ⟨2, 1, 1, 2, 1, 1⟩
theorem tinyG_wf : tinyG.Wf := ⟨by decide, by decide, by decide, by decide, by decide, by decide⟩
theorem tinyG_ok : okG tinyG := by decide
theorem tinyG_z : okG tinyG → tinyG.z ≤ 300 := fun _ => by decide
/-- new disks may be written to -/
theorem new_wr {g : GeoS} {st : Int} {n s : Nat} (hg : okG g) (h1 : 0 ≤ st) (h2 : st < g.s) (hn : nT g ≤ n) (hs : stG g st < (s : Int)) {i : Nat} (hi : i < nT g) : WrT (newA n s) g st i := by
  have d := diG_in hg h1 h2 hi
  have hl : (newA n s).D.length = n := newA_len n s
  have e : ∀ j : Nat, j < n → (newA n s).D.getD j default = newD s := fun j hj => by simp [newA, List.getD, hj]
  have hj : (diG g st (i : Int)).toNat < n := by omega
  refine ⟨⟨d.1, by rw [hl]; omega⟩, ?_, ?_⟩
  · unfold diA; rw [e _ hj]; rfl
  · unfold diA; rw [e _ hj]; exact hs
def tw1 : ArS := swS (newA 3 8) tinyG 1 5 [7, 9]
def tw2 : ArS := rpAS tw1 2
theorem tiny_T : OkT tinyG 1 5 := by decide
theorem tiny_T4 : OkT tinyG 1 4 := by decide
theorem tiny_L : LenT tinyG [7, 9] := by decide
theorem tiny_w : swX (newA 3 8) tinyG 1 5 [7, 9] = 0 ∧ WholeT tw1 tinyG 1 5 [7, 9] := by
  obtain ⟨q1, q2, _⟩ := whole_write tiny_T tiny_L (calm_new 3 8) (fun i hi => new_wr tinyG_ok (by decide) (by decide) (by decide) (by decide) hi)
  exact ⟨q1, q2⟩
theorem tiny_r : rtX tw1 tinyG 1 5 = 0 ∧ rtD tw1 tinyG 1 5 = [7, 9] ∧ rtB tw1 tinyG 1 5 = [] := by
  obtain ⟨_, h⟩ := back15 tiny_T tiny_L tiny_w.2 (kind := 1) (at_ := 0) (S := []) List.nodup_nil (fun d hd => by cases hd) (a' := tw1) rfl
  obtain ⟨q1, q2, q3, _⟩ := h (Nat.zero_le _)
  exact ⟨q1, q2, List.length_eq_zero_iff.1 q3⟩
theorem tiny_4 : rtX tw1 tinyG 1 4 = 150 ∧ rtD tw1 tinyG 1 4 = [] ∧ rtB tw1 tinyG 1 4 = [] :=
  read_none tiny_T4 tiny_w.2.calm.1 fun i hi => has_other tiny_T (by rw [shT_row tiny_L tinyG_ok hi]; decide) (tiny_w.2.held i hi) (by decide)
theorem tiny_2 : rtX tw2 tinyG 1 5 = 0 ∧ rtD tw2 tinyG 1 5 = [7, 9] ∧ (rtB tw2 tinyG 1 5).length = 1 ∧ fxX tw2 tinyG 1 5 = 0 ∧ fxN tw2 tinyG 1 5 = 1 := by
  obtain ⟨_, h⟩ := back15 tiny_T tiny_L tiny_w.2 (kind := 1) (at_ := 0) (S := [2]) (by simp) (fun d hd => by
    have : d = 2 := by simpa using hd
    rw [this]; exact ⟨by decide, by decide⟩) (a' := tw2) rfl
  obtain ⟨q1, q2, q3, q4, q5, _⟩ := h (by decide)
  have e : (rtB tw2 tinyG 1 5).length = 1 := q3
  exact ⟨q1, q2, e, q4, by rw [q5, e]⟩
theorem tiny_any {w : World} : Calls Tryz.prog 30 #[] w fun e w' => e = .returned (aggG tinyG) ∧ Below w.heap.size w w' := by
  rw [show aggG tinyG = .agg #[.int .i64 2, .int .i64 1, .int .i64 1, .int .i64 2, .int .i64 1, .int .i64 1] from rfl]
  go_enter Tryz.func30, Tryz.ntmps30
  go_wp2
  exact bodyPost_ret (v := .agg #[.int .i64 2, .int .i64 1, .int .i64 1, .int .i64 2, .int .i64 1, .int .i64 1]) (by simp [results, Tryz.results30, go_sem]) rfl ⟨rfl, belL _ _⟩
theorem areplS {w : World} {N ab fb : Nat} {GA : Nat → Prop} {a : ArS} (h : StB w N ab fb GA a) {i : Int} (hi : (Lit.int .i64 i).wf = true) {a' : ArS} (hs : rpAS a i = a') : Calls Tryz.prog 21 #[.pointer (some ⟨ab, 0, none⟩), .int .i64 i] w (LeavesA w ab GA a' (.int .i64 (thX a i))) := by
  rw [← hs]; exact arepl_any h.D.at_ hi
theorem Told.ownS {w w' : World} {N ab fb : Nat} {GA : Nat → Prop} {a : ArS} {v : Value} {p : List UInt8} {e : Nat} (h : StB w N ab fb GA a) (ho : w'.ownsRow w.heap.size e 1 v p.length (p.map vb)) : Told w' GA v p := Told.ownA h.D.at_ ho
set_option maxRecDepth 100000 in
set_option maxHeartbeats 4000000 in
theorem awake15_any {w : World} : Calls Tryz.prog 9 #[] w fun e w' => e = .returned (.bool true) ∧ Below w.heap.size w w' := by
  have ET : aggG tinyG = .agg #[.int .i64 2, .int .i64 1, .int .i64 1, .int .i64 2, .int .i64 1, .int .i64 1] := rfl
  have KT := fun W => @tiny_any W
  rw [ET] at KT
  go_enter Tryz.func9, Tryz.ntmps9
  go_wp2_with fail
  refine (new_any _).mono ?_
  rintro _ u1 ⟨rfl, F, hO⟩
  have b1 := hO.below
  obtain ⟨fb, hfb⟩ : ∃ fb, Hid (fb = w.heap.size) := ⟨_, rfl⟩
  rw [← hfb.out] at F ⊢
  clear hO
  go_wp2_with fail
  refine (anew_is (n := 3) (s := 8) (m := 3) (k := 8) rfl (by decide) (by decide) (by decide) (by decide) rfl).mono ?_
  rintro _ u2 ⟨ab, G2, rfl, A2, H2, B2⟩
  have S2 : StB u2 w.heap.size ab fb G2 (newA 3 8) := ⟨⟨A2, fun k hk => Nat.le_trans b1.size (H2 k hk), Nat.le_trans b1.size B2.size⟩, F.belowF B2, fun q => by have := H2 _ q; have := F.lt; omega⟩
  have C2 : Below w.heap.size w u2 := b1.stepL B2 b1.size
  clear A2 H2 B2 F b1
  go_wp2_with fail
  refine (KT _).mono ?_
  rintro _ u3 ⟨rfl, b3⟩
  have S3 := fun o => (S2.below b3).below (belL u3 o)
  have C3 := fun o => (C2.stepL b3 C2.size).stepL (belL u3 o) (C2.stepL b3 C2.size).size
  clear S2 C2 b3
  go_wp2_with fail
  have K := swrite_is (S3 (.cells #[.int .u8 7, .int .u8 9] 5)) tinyG_wf (st := 1) (ep := 5) (by decide) (rd_lit [7, 9] rfl rfl (by decide)) tinyG_z tiny_w.1 (a' := tw1) rfl
  rw [ET] at K
  refine K.mono ?_
  rintro _ u4 ⟨rfl, G4, A4, g4⟩
  have S4 := (S3 _).grew A4 g4
  have C4 := (C3 _).trans ((S3 _).bel g4)
  clear K S3 C3 A4 g4
  go_wp2_with fail
  refine (KT _).mono ?_
  rintro _ u5 ⟨rfl, b5⟩
  have S5 := S4.below b5
  have C5 := C4.stepL b5 C4.size
  clear S4 C4 b5
  have K := sread_is S5 tinyG_wf (st := 1) (ep := 5) (by decide) tinyG_z tiny_r.1 tiny_r.2.1 tiny_r.2.2
  rw [ET] at K
  go_wp2_with fail
  refine K.mono ?_
  rintro _ u6 ⟨vd, vb, rfl, O6, I6, b6⟩
  have T6 := Told.ownS S5 O6
  have S6 := S5.below b6
  have C6 := C5.stepL b6 C5.size
  obtain ⟨da, dc, rfl⟩ := T6.rd.form
  obtain ⟨ia, ic, rfl⟩ := I6.form
  clear K O6 I6 b6 S5 C5
  go_wp2_with fail
  refine (KT _).mono ?_
  rintro _ u7 ⟨rfl, b7⟩
  have S7 := S6.below b7
  have T7 := T6.below b7
  have C7 := C6.stepL b7 C6.size
  clear S6 C6 b7 T6
  have K := sread_is S7 tinyG_wf (st := 1) (ep := 4) (by decide) tinyG_z tiny_4.1 tiny_4.2.1 tiny_4.2.2
  rw [ET] at K
  go_wp2_with fail
  refine K.mono ?_
  rintro _ u8 ⟨vd8, vb8, rfl, O8, I8, b8⟩
  have S8 := S7.below b8
  have T8 := T7.below b8
  have C8 := C7.stepL b8 C7.size
  obtain ⟨d8, e8, rfl⟩ := owns_slice O8
  obtain ⟨i8, j8, rfl⟩ := I8.form
  clear K O8 I8 b8 S7 T7 C7
  have K := areplS S8 (i := 2) (by decide) (a' := tw2) rfl
  go_wp2_with fail
  refine K.mono ?_
  rintro _ u9 ⟨rfl, G9, A9, g9⟩
  have S9 := S8.grew A9 g9
  have T9 := T8.grew g9
  have C9 := C8.trans (S8.bel g9)
  clear K A9 g9 S8 T8 C8
  go_wp2_with fail
  refine (KT _).mono ?_
  rintro _ u10 ⟨rfl, b10⟩
  have S10 := S9.below b10
  have T10 := T9.below b10
  have C10 := C9.stepL b10 C9.size
  clear S9 T9 C9 b10
  have K := sread_is S10 tinyG_wf (st := 1) (ep := 5) (by decide) tinyG_z tiny_2.1 tiny_2.2.1 rfl
  rw [ET] at K
  go_wp2_with fail
  refine K.mono ?_
  rintro _ u11 ⟨vd11, vb11, rfl, O11, I11, b11⟩
  have S11 := S10.below b11
  have T11 := T10.below b11
  have C11 := C10.stepL b11 C10.size
  obtain ⟨d11, e11, rfl⟩ := owns_slice O11
  obtain ⟨i11, j11, rfl⟩ := I11.form
  rw [tiny_2.2.2.1]
  clear K O11 I11 b11 S10 T10 C10
  go_wp2_with fail
  refine (KT _).mono ?_
  rintro _ u12 ⟨rfl, b12⟩
  have S12 := S11.below b12
  have T12 := T11.below b12
  have C12 := C11.stepL b12 C11.size
  clear S11 T11 C11 b12
  have K := sfix_is S12 tinyG_wf (st := 1) (ep := 5) (by decide) tinyG_z tiny_2.2.2.2.1 tiny_2.2.2.2.2 rfl
  rw [ET] at K
  go_wp2_with fail
  refine K.mono ?_
  rintro _ u13 ⟨rfl, G13, A13, g13⟩
  have T13 := T12.grew g13
  have C13 := C12.trans (S12.bel g13)
  clear K A13 g13 S12 T12 C12
  have T14 := fun o => T13.below (belL u13 o)
  have C14 := fun o => C13.stepL (belL u13 o) C13.size
  go_wp2_with fail
  refine (same15 (T14 _).rd (rd_lit [7, 9] rfl rfl (by decide)) (x := true) (by decide)).mono ?_
  rintro _ u15 ⟨rfl, b15⟩
  have FB : Hid (Below w.heap.size w u15) := (C14 _).stepL b15 (C14 _).size
  clear T13 T14 C13 C14 b15
  go_wp2
  go_ret
  exact ⟨rfl, FB.out⟩
end Go.Proofs.YtddnfhfangfgeaaGreat.Gf

