/- PROVED: for every script of calls and every call c the call ArrayApart(script, c) returns true, and its arguments read behind it as before; no conditions. -/
import Derived.Test.YtpijncnpicgjeaaRows
import Derived.Test.YtpijncnpicgjeaaTome2
import Derived.Test.YtpijncnpicgjeaaTome10
import Derived.WalkKit
import Derived.ProofKit
import Derived.OpenShut
import Derived.ShutString
import Derived.ChangeOld
import Derived.Below
namespace Go.Proofs.Ytpijncnpicgjeaa.arrayApart
open Go.ChangeShapes Go.WideShapes Go.ChangeAt Go.RowKit
open Go.ChangeMaps (open_string shut_string)
set_option linter.unusedVariables false

theorem own : ownKnob Try.prog.godebug = none := by kernel_rfl
theorem laidOut : laidOutB Try.prog = true := by kernel_rfl

/-- WHAT THE WALK IS TOLD OF A SLICE OF INTEGERS THAT CAME IN: it is nil; or it leads to a row of 'cap' cells, the numbers 'zs' (the first 'len' are its elements, the rest its spare room), each fitting its kind. -/
def IsRow (k : IntKind) (w : World) (a : Option Addr) (len cap : Nat) (zs : List Int) : Prop :=
  (a = none ∧ len = 0 ∧ cap = 0 ∧ zs = []) ∨
  ∃ x, a = some x ∧ len ≤ cap ∧ cap ≤ maxLen ∧ zs.length = cap ∧ (∀ i, i < zs.length → w.cell? (x.add i) = some (.int k (zs.getD i 0))) ∧ ∀ n ∈ zs, (Lit.int k n).wf = true

open Gf
set_option linter.unusedSimpArgs false
set_option maxRecDepth 100000 in
set_option maxHeartbeats 4000000 in
theorem walk (a0 : Option Addr) (len0 cap0 : Nat) (z0 : List CallA) (c1 : CallA) (w : World) (w0 : RdA w (.slice a0 len0 cap0) z0) (w1 : CallV w c1) :
    Calls Try.prog 6 #[.slice a0 len0 cap0, aggA c1] w fun e w' => e = .returned (.bool true) ∧ Below w.heap.size w w' := by
  obtain rfl := w0.lenEq
  have hv := w1
  obtain ⟨kd, cd, cn, cm, cy, cvb, cvk, cb, ck⟩ := c1
  obtain ⟨wk, wd, wn, wm, rb, rk⟩ := w1
  simp only at wk wd wn wm rb rk
  obtain ⟨ba, bc, rfl⟩ := rb.form
  obtain ⟨ka, kc, rfl⟩ := rk.form
  obtain ⟨OB, hOB⟩ : ∃ OB, Hid (OB = Obj.cells #[.int .i64 kd, .int .i64 cd, .int .i64 cn, .int .i64 cm, .int .u8 ((cy.toNat : Nat) : Int), .slice ba cb.length bc, .slice ka ck.length kc] 35) := ⟨_, rfl⟩
  have BW : Below w.heap.size w (w.alloc OB) := belA w OB
  have CW : Hid (∀ j, (w.alloc OB).cell? ⟨w.heap.size, j, none⟩ = (#[.int .i64 kd, .int .i64 cd, .int .i64 cn, .int .i64 cm, .int .u8 ((cy.toNat : Nat) : Int), .slice ba cb.length bc, .slice ka ck.length kc] : Array Value)[j]?) := fun j => by rw [hOB.out]; exact World.cell?_alloc_new _ _ _ _
  rw [show aggA ⟨kd, cd, cn, cm, cy, .slice ba cb.length bc, .slice ka ck.length kc, cb, ck⟩ = .agg #[.int .i64 kd, .int .i64 cd, .int .i64 cn, .int .i64 cm, .int .u8 ((cy.toNat : Nat) : Int), .slice ba cb.length bc, .slice ka ck.length kc] from rfl]
  go_enter Try.func6, Try.ntmps6
  go_wp2_with fail
  rw [← hOB.out]
  have sW : w.heap.size < (w.alloc OB).heap.size := by simp
  obtain ⟨W, hW⟩ : ∃ W, W = w.alloc OB := ⟨_, rfl⟩
  rw [← hW] at CW BW sW ⊢
  obtain ⟨g0, hg0⟩ : ∃ g0, Hid (g0 = w.heap.size) := ⟨_, rfl⟩
  rw [← hg0.out] at CW sW ⊢
  clear hW hOB
  refine awake_any.mono ?_
  rintro e u1 ⟨rfl, bW⟩
  have b : Hid (Below w.heap.size w u1) := BW.trans (bW.mono BW.size)
  have C1 : Hid (∀ V, Below u1.heap.size u1 V → ∀ j, V.cell? ⟨g0, j, none⟩ = (#[.int .i64 kd, .int .i64 cd, .int .i64 cn, .int .i64 cm, .int .u8 ((cy.toNat : Nat) : Int), .slice ba cb.length bc, .slice ka ck.length kc] : Array Value)[j]?) := fun V hV j => ((hV.cell (p := ⟨g0, j, none⟩) (Nat.lt_of_lt_of_le sW bW.size)).trans (bW.cell (p := ⟨g0, j, none⟩) sW)).trans (CW.out j)
  have N1 := b.out.size
  have RA : Hid (∀ V G, Below u1.heap.size u1 V → (∀ g, G g → u1.heap.size ≤ g) → ToldA V G (.slice a0 z0.length cap0) z0) := fun V G hV hG => ToldA.old (w0.below b.out) hG hV
  have VA : Hid (∀ V, Below u1.heap.size u1 V → CallV V ⟨kd, cd, cn, cm, cy, .slice ba cb.length bc, .slice ka ck.length kc, cb, ck⟩) := fun V hV => (hv.below b.out).below hV
  have PA : Hid (∀ G, (∀ g, G g → u1.heap.size ≤ g) → ApC G ⟨kd, cd, cn, cm, cy, .slice ba cb.length bc, .slice ka ck.length kc, cb, ck⟩) := fun G hG => ApC.old (hv.below b.out).rb (hv.below b.out).rk hG
  clear CW BW sW bW hv w0 rb rk
  go_wp2_with fail
  refine (anew_is (n := 4) (s := 8) (m := 4) (k := 8) rfl (by decide) (by decide) (by decide) (by decide) rfl).mono ?_
  rintro _ v0 ⟨ab, G0, rfl, A0, H0, B0⟩
  have D0 : ArB v0 u1.heap.size ab G0 (newA 4 8) := ⟨A0, H0, B0.size⟩
  clear A0 H0
  have X := C1.out v0 B0
  have x0 := X 0
  have x1 := X 1
  have x2 := X 2
  have x3 := X 3
  have x4 := X 4
  have x5 := X 5
  have x6 := X 6
  simp at x0 x1 x2 x3 x4 x5 x6
  clear X
  have SM := asmall_any (VA.out v0 B0)
  go_wp2_with fail
  refine SM.mono ?_
  rintro _ v1 ⟨rfl, S1⟩
  have D1 := D0.below S1
  have B1 := B0.step12 S1 B0.size
  clear SM D0 B0 S1 x0 x1 x2 x3 x4 x5 x6
  have x0 := C1.out v1 B1 0
  simp at x0
  have FB1 : Hid (Below w.heap.size w v1) := b.out.trans (B1.mono N1)
  by_cases hs : smallA ⟨kd, cd, cn, cm, cy, .slice ba cb.length bc, .slice ka ck.length kc, cb, ck⟩
  rotate_left
  · rw [decide_eq_false hs]
    clear D1 B1
    go_wp2
    go_ret
    exact ⟨rfl, FB1.out⟩
  rw [decide_eq_true hs]
  by_cases k3 : kd = 3
  · subst k3
    clear D1 B1
    go_wp2
    go_ret
    exact ⟨rfl, FB1.out⟩
  by_cases k5 : kd = 5
  · subst k5
    clear D1 B1
    go_wp2
    go_ret
    exact ⟨rfl, FB1.out⟩
  have z3 : (kd == 3) = false := beq_eq_false_iff_ne.2 k3
  have z5 : (kd == 5) = false := beq_eq_false_iff_ne.2 k5
  have HK : Hid (∀ (a : ArS) (i : Nat), (i : Int) ≠ cd → (stepA a ⟨kd, cd, cn, cm, cy, .slice ba cb.length bc, .slice ka ck.length kc, cb, ck⟩).D.getD i default = a.D.getD i default) := fun a i hi => by
    unfold stepA
    rw [if_pos hs]
    exact play_other k3 k5 hi
  clear k3 k5 hs FB1
  go_wp2_with fail
  refine (adone_any D1.at_ (RA.out v1 G0 B1 D1.low)).mono ?_
  rintro _ v2 ⟨rfl, G2, A2, g2⟩
  have D2 := D1.grew A2 g2
  have B2 := B1.trans (D1.bel g2)
  clear A2 g2 D1 B1 RA x0
  have l4 : Hid ((runA (newA 4 8) (z0.take 50)).D.length = 4) := by show _ = _; rw [runA_len]; simp [newA]
  obtain ⟨a, ha⟩ : ∃ a, a = runA (newA 4 8) (z0.take 50) := ⟨_, rfl⟩
  rw [← ha] at D2 l4
  clear ha
  have START : Hid (∃ vs us, Two v2 u1.heap.size G2 (.slice none 0 0) (.slice none 0 0) vs us (lsF a 0) (wsF a 0) ∧ ArB v2 u1.heap.size ab G2 a ∧ Below u1.heap.size u1 v2) := ⟨[], [], Two.nil _ _ _, D2, B2⟩
  obtain ⟨i0, hi, hz0, hz1, hz2⟩ := info_parts info_helds13
  clear D2 B2 
  go_wp2
  go_loopw [8, 9, 10] (fun lv wv i wr => ∃ k : Nat, k ≤ 4 ∧ i = .int .i64 (k : Int) ∧ ∃ vs us, Two wr u1.heap.size G2 lv wv vs us (lsF a k) (wsF a k) ∧ ArB wr u1.heap.size ab G2 a ∧ Below u1.heap.size u1 wr) (fun _ _ i _ => 4 - (intOf i).toNat)
  case atStart => exact ⟨0, Nat.zero_le _, rfl, START.out⟩
  case round =>
    clear START
    obtain ⟨k, hk, rfl, vs, us, T, D, B⟩ := hrel
    by_cases hlt : k < 4
    · have hlt' : (k : Int) < 4 := by omega
      have g1 : IntKind.i64.wrap ((k : Int) + 1) = ((k + 1 : Nat) : Int) := by rw [IntKind.wrap_i64]; omega
      have hkl : k < a.D.length := by rw [l4.out]; exact hlt
      have hfl := held_few D.at_.ok hkl (a.D.getD k default).last
      have hfw := held_few D.at_.ok hkl (a.D.getD k default).wait
      have vl : vs.length = k := by rw [T.lv, lsF_len]
      have ul : us.length = k := by rw [T.lu, wsF_len]
      go_wp2_with fail
      refine (alasts_at D.at_ hkl).mono ?_
      rintro _ w3 ⟨xl, rfl, O3, C3⟩
      have X3 := ToldH.ownG (T.lt D.at_.lt) O3 hfl
      have T3 := T.below C3
      have D3 := D.below C3
      have B3 := B.step12 C3 B.size
      obtain ⟨ml, hml⟩ : ∃ ml, Hid (ml = (heldL (a.D.getD k default).last (a.D.getD k default).s).length) := ⟨_, rfl⟩
      obtain ⟨al, cl, rfl⟩ : ∃ al cl, xl = .slice al ml cl := by rw [hml.out]; exact X3.form
      clear T D B O3 C3 
      have bA := belA w3 (.cells #[.slice al ml cl] 44)
      have X4 := X3.below bA
      have D4 := D3.below bA
      have B4 := B3.step12 bA B3.size
      have T4 := T3.below bA
      clear X3 D3 B3 T3 bA 
      go_wp2_with (at_builtin; go_loud (refine wpList_append_v _ rfl (.tmp 46) (.tmp 50) 49 rfl u1.heap.size 44 i0 (.slice none 0 0) 24 Try.underlying49 hi hz0 hz1 hz2 rfl (by decide) u8 vs.length vs rfl T4.rv w3.heap.size 1 (.slice al ml cl) rfl (World.cell?_alloc_new _ _ _ 0) rfl (by omega) D4.size ?_); intro lv' w4 h4 g4 e4)
      have T5 := T4.push D4.at_.lt X4 h4 g4 e4
      have D5 := D4.grown T4.nv g4
      have B5 := T4.bel B4 D4.size g4
      have gg5 := T4.gg g4 e4
      rw [lsF_succ] at T5
      clear X4 D4 B4 T4 h4 g4 e4 gg5 
      refine (awaits_at D5.at_ hkl).mono ?_
      rintro _ w6 ⟨xw, rfl, O6, C6⟩
      have X6 := ToldH.ownG (T5.lt D5.at_.lt) O6 hfw
      have T6 := T5.below C6
      have D6 := D5.below C6
      have B6 := B5.step12 C6 B5.size
      obtain ⟨mw, hmw⟩ : ∃ mw, Hid (mw = (heldL (a.D.getD k default).wait (a.D.getD k default).s).length) := ⟨_, rfl⟩
      obtain ⟨aw, cw, rfl⟩ : ∃ aw cw, xw = .slice aw mw cw := by rw [hmw.out]; exact X6.form
      clear T5 D5 B5 O6 C6 
      have bA := belA w6 (.cells #[.slice aw mw cw] 44)
      have X7 := X6.below bA
      have D7 := D6.below bA
      have B7 := B6.step12 bA B6.size
      have T7 := (T6.below bA).swap
      rw [← hot_swap] at X7
      clear X6 D6 B6 T6 bA 
      go_wp2_with (at_builtin; go_loud (refine wpList_append_v _ rfl (.tmp 52) (.tmp 56) 49 rfl u1.heap.size 44 i0 (.slice none 0 0) 24 Try.underlying49 hi hz0 hz1 hz2 rfl (by decide) u9 us.length us rfl T7.rv w6.heap.size 1 (.slice aw mw cw) rfl (World.cell?_alloc_new _ _ _ 0) rfl (by omega) D7.size ?_); intro uv' w8 h8 g8 e8)
      have T8 := (T7.push D7.at_.lt X7 h8 g8 e8).swap
      have D8 := D7.grown T7.nv g8
      have B8 := T7.bel B7 D7.size g8
      have gg8 := T7.gg g8 e8
      rw [wsF_succ] at T8
      have E8 : Hid (∃ vs us, Two w8 u1.heap.size G2 lv' uv' vs us (lsF a (k + 1)) (wsF a (k + 1)) ∧ ArB w8 u1.heap.size ab G2 a ∧ Below u1.heap.size u1 w8) := ⟨_, _, T8, D8, B8⟩
      clear X7 D7 B7 T7 h8 g8 e8 gg8 T8 D8 B8 
      go_roundw
      case rel => exact ⟨k + 1, by omega, by go_num, E8.out⟩
      case measure => simp [intOf]; omega
    · have hlt' : ¬ (k : Int) < 4 := by omega
      obtain rfl : k = 4 := by omega
      have X := C1.out wr B
      have x0 := X 0
      have x1 := X 1
      have x2 := X 2
      have x3 := X 3
      have x4 := X 4
      have x5 := X 5
      have x6 := X 6
      simp at x0 x1 x2 x3 x4 x5 x6
      clear X
      have TL := litCA (VA.out wr B) (PA.out G2 D.low) D.at_.lt 35
      have bA := belA wr (.cells (cellsA ⟨kd, cd, cn, cm, cy, .slice ba cb.length bc, .slice ka ck.length kc, cb, ck⟩) 35)
      have T3 := T.below bA
      have D3 := D.below bA
      have B3 := B.step12 bA B.size
      clear T D B bA VA PA
      go_wp2_with fail
      refine (adone_any D3.at_ TL).mono ?_
      rintro _ v4 ⟨rfl, G4, A4, g4⟩
      have T4 := T3.grew g4
      have D4 : ArB v4 u1.heap.size ab G4 (stepA a ⟨kd, cd, cn, cm, cy, .slice ba cb.length bc, .slice ka ck.length kc, cb, ck⟩) := D3.grew A4 g4
      have B4 := B3.trans (D3.bel g4)
      have HK2 : Hid (∀ i : Nat, (i : Int) ≠ cd → (stepA a ⟨kd, cd, cn, cm, cy, .slice ba cb.length bc, .slice ka ck.length kc, cb, ck⟩).D.getD i default = a.D.getD i default) := fun i hi => HK.out a i hi
      have l4' : Hid ((stepA a ⟨kd, cd, cn, cm, cy, .slice ba cb.length bc, .slice ka ck.length kc, cb, ck⟩).D.length = 4) := by show _ = _; rw [stepA_len]; exact l4.out
      obtain ⟨a', ha'⟩ : ∃ a', a' = stepA a ⟨kd, cd, cn, cm, cy, .slice ba cb.length bc, .slice ka ck.length kc, cb, ck⟩ := ⟨_, rfl⟩
      rw [← ha'] at D4 HK2 l4'
      clear ha' HK T3 D3 B3 A4 g4 TL x0 x1 x2 x3 x4 x5 x6
      obtain ⟨gl, kl, el, _⟩ := T4.at (i := 0) (by rw [lsF_len]; decide)
      obtain ⟨gw, kw, ew, _⟩ := T4.swap.at (i := 0) (by rw [wsF_len]; decide)
      rw [lsF_len] at el
      rw [wsF_len] at ew
      subst el ew
      have START : Hid (Two v4 u1.heap.size G4 (.slice (some ⟨gl, 0, none⟩) 4 kl) (.slice (some ⟨gw, 0, none⟩) 4 kw) vs us (lsF a 4) (wsF a 4) ∧ ArB v4 u1.heap.size ab G4 a' ∧ Below u1.heap.size u1 v4) := ⟨T4, D4, B4⟩
      clear T4 D4 B4
      go_wp2
      go_loopw [11] (fun i wr => ∃ k : Nat, k ≤ 4 ∧ i = .int .i64 (k : Int) ∧ Two wr u1.heap.size G4 (.slice (some ⟨gl, 0, none⟩) 4 kl) (.slice (some ⟨gw, 0, none⟩) 4 kw) vs us (lsF a 4) (wsF a 4) ∧ ArB wr u1.heap.size ab G4 a' ∧ Below u1.heap.size u1 wr) (fun i _ => 4 - (intOf i).toNat)
      case atStart => exact ⟨0, Nat.zero_le _, rfl, START.out⟩
      case round =>
        clear START
        obtain ⟨k, hk, rfl, T, D, B⟩ := hrel
        by_cases hlt : k < 4
        · have hlt' : (k : Int) < 4 := by omega
          have g1 : IntKind.i64.wrap ((k : Int) + 1) = ((k + 1 : Nat) : Int) := by rw [IntKind.wrap_i64]; omega
          have hkl : k < a'.D.length := by rw [l4'.out]; exact hlt
          have hfl := held_few D.at_.ok hkl (a'.D.getD k default).last
          have hfw := held_few D.at_.ok hkl (a'.D.getD k default).wait
          obtain ⟨p1, hp1⟩ : ∃ p1, Hid (decide (heldL (a'.D.getD k default).last (a'.D.getD k default).s = (lsF a 4).getD k []) = p1) := ⟨_, rfl⟩
          obtain ⟨p2, hp2⟩ : ∃ p2, Hid (decide (heldL (a'.D.getD k default).wait (a'.D.getD k default).s = (wsF a 4).getD k []) = p2) := ⟨_, rfl⟩
          have HPQ : Hid ((k : Int) ≠ cd → p1 = true ∧ p2 = true) := fun hne => by
            rw [← hp1.out, ← hp2.out, HK2.out k hne, lsF_at a hlt, wsF_at a hlt]
            exact ⟨decide_eq_true rfl, decide_eq_true rfl⟩
          obtain ⟨xe, hxe⟩ : ∃ xe, Hid (xe = vs.getD k undef) := ⟨_, rfl⟩
          obtain ⟨ye, hye⟩ : ∃ ye, Hid (ye = us.getD k undef) := ⟨_, rfl⟩
          have CL : Hid (∀ W, Two W u1.heap.size G4 (.slice (some ⟨gl, 0, none⟩) 4 kl) (.slice (some ⟨gw, 0, none⟩) 4 kw) vs us (lsF a 4) (wsF a 4) → W.cell? ⟨gl, k, none⟩ = some xe ∧ W.cell? ⟨gw, k, none⟩ = some ye ∧ RdH W xe ((lsF a 4).getD k []) ∧ RdH W ye ((wsF a 4).getD k [])) := fun W h => by
            obtain ⟨g1, c1, e1, h1⟩ := h.at (i := k) (by rw [lsF_len]; exact hlt)
            obtain ⟨g2, c2, e2, h2⟩ := h.swap.at (i := k) (by rw [wsF_len]; exact hlt)
            simp at e1 e2
            rw [e1.1, e2.1, hxe.out, hye.out]
            exact ⟨h1, h2, (h.ev k (by rw [lsF_len]; exact hlt)).rd, (h.eu k (by rw [wsF_len]; exact hlt)).rd⟩
          have bD : Below wr.heap.size wr wr.drew := (Below.refl _ _).drew
          have T3 := T.below bD
          have D3 := D.below bD
          have B3 := B.step12 bD B.size
          obtain ⟨s3, _, _, _⟩ := CL.out _ T
          obtain ⟨s3D, _, _, _⟩ := CL.out _ T3
          go_wp2_with fail
          go_region_held3 (fun wx => wx.cell? ⟨gl, k, none⟩ = some xe) (first | exact s3 | exact s3D | exact s5 | exact s4) (first
            | (go_at_call 21; go_loud (refine (alasts_at D3.at_ hkl).mono ?_); rintro _ v5 ⟨x5, rfl, O5, C5⟩; have T5 := T3.below C5; have D5 := D3.below C5; have B5 := B3.step12 C5 B3.size; have Q5 := CL.out _ T5; have s4 := Q5.1; have r5 := OwnH.rdA O5 hfl)
            | (go_at_call 24; go_loud (refine (same12_is r5 Q5.2.2.1 hp1.out).mono ?_); rintro _ v6 ⟨rfl, nq6, hq6⟩; have C6 : Below v5.heap.size v5 v6 := (by rw [hq6]; exact (Below.refl _ _).drewN _); clear hq6; have T6 := T5.below C6; have D6 := D5.below C6; have B6 := B5.step12 C6 B5.size; have s5 := (CL.out _ T6).1))
          clear T D B bD T3 D3 B3 s3 s3D O5 C5 T5 D5 B5 Q5 s4 r5 C6 s5
          have bD : Below v6.heap.size v6 v6.drew := (Below.refl _ _).drew
          have T7 := T6.below bD
          have D7 := D6.below bD
          have B7 := B6.step12 bD B6.size
          obtain ⟨_, s7, _, _⟩ := CL.out _ T6
          obtain ⟨_, s7D, _, _⟩ := CL.out _ T7
          go_wp2_with fail
          go_region_held3 (fun wx => wx.cell? ⟨gw, k, none⟩ = some ye) (first | exact s7 | exact s7D | exact s9 | exact s8) (first
            | (go_at_call 20; (refine (awaits_at D7.at_ hkl).mono ?_); rintro _ v8 ⟨x8, rfl, O8, C8⟩; have T8 := T7.below C8; have D8 := D7.below C8; have B8 := B7.step12 C8 B7.size; have Q8 := CL.out _ T8; have s8 := Q8.2.1; have r8 := OwnH.rdA O8 hfw)
            | (go_at_call 24; (refine (same12_is r8 Q8.2.2.2 hp2.out).mono ?_); rintro _ v9 ⟨rfl, nq9, hq9⟩; have C9 : Below v8.heap.size v8 v9 := (by rw [hq9]; exact (Below.refl _ _).drewN _); clear hq9; have T9 := T8.below C9; have D9 := D8.below C9; have B9 := B8.step12 C9 B8.size; have s9 := (CL.out _ T9).2.1))
          clear T6 D6 B6 bD T7 D7 B7 s7 s7D O8 C8 T8 D8 B8 Q8 s8 r8 C9 s9
          have x1 := C1.out v9 B9 1
          simp at x1
          have E9 : Hid (Two v9 u1.heap.size G4 (.slice (some ⟨gl, 0, none⟩) 4 kl) (.slice (some ⟨gw, 0, none⟩) 4 kw) vs us (lsF a 4) (wsF a 4) ∧ ArB v9 u1.heap.size ab G4 a' ∧ Below u1.heap.size u1 v9) := ⟨T9, D9, B9⟩
          clear T9 D9 B9 CL
          by_cases hc : (k : Int) = cd
          · have zc : ((k : Int) == cd) = true := beq_iff_eq.2 hc
            cases p1 <;> cases p2
            all_goals
              go_wp2
              go_roundw
              case rel => exact ⟨k + 1, by omega, by go_num, E9.out⟩
              case measure => simp [intOf]; omega
          · have zc : ((k : Int) == cd) = false := beq_eq_false_iff_ne.2 hc
            obtain ⟨rfl, rfl⟩ := HPQ.out hc
            go_wp2
            go_roundw
            case rel => exact ⟨k + 1, by omega, by go_num, E9.out⟩
            case measure => simp [intOf]; omega
        · have hlt' : ¬ (k : Int) < 4 := by omega
          have FB : Hid (Below w.heap.size w wr) := b.out.trans (B.mono N1)
          clear T D B
          go_wp2
          go_ret
          exact ⟨rfl, FB.out⟩

/-! ### THE ROW's STEP: WRITTEN OUT: LEAVE IT -/
set_option maxRecDepth 100000 in
set_option maxHeartbeats 2000000 in
theorem lifted (os : Os) (started : os.Started) (H : Type) (enc : TypeId × Value → H) :
    ReturnsInHanded {} Try.checked os 6 .any (Rows.arrayApartSpec.pre6 enc Try.prog Try.f6 Rows.arrayApartRow.domain false) (Rows.arrayApartSpec.post enc Try.prog Try.f6 false true false false) := by
  refine returnsInHanded_of_change (C := Try.checked) own started (by kernel_rfl) Try.func6
    (ChangeSpec.witness6 (enc := enc) (C := Try.checked) false ⟨#[], #[.slice none 0 0, .agg #[.int .i64 0, .int .i64 0, .int .i64 0, .int .i64 0, .int .u8 0, .slice none 0 0, .slice none 0 0]], []⟩ 8 (by kernel_rfl) (by kernel_rfl) (by kernel_rfl) (by kernel_rfl)) ?_
  intro W base args ds gs before hval0 hW hcnd _
  have hval : ∀ (j : Nat) t v, Try.f6.params[j]? = some t → args[j]? = some v → Value.okWide Try.prog W .any base t v := hval0
  have hW' := hW
  obtain ⟨p, q, hA0, hV, rfl, hfz, hnd⟩ := hW
  have hA : DataW.TrodAll enc Try.prog W 0 (fun _ => true) true Try.f6.params.toList args.toList ds p := hA0
  rw [Try.params6] at hA hval
  obtain ⟨v0, vs0, d0, ds0, p0, q0, hargs, rfl, rfl, h0, r0⟩ := trodAll_cons hA
  obtain ⟨v1, vs1, d1, ds1, p1, q1, rfl, rfl, rfl, h1, r1⟩ := trodAll_cons r0
  obtain ⟨rfl, rfl, rfl⟩ := trodAll_nil r1
  obtain rfl : args = #[v0, v1] := by cases args; simp_all
  obtain ⟨rfl, rfl⟩ := trodVars_none hV
  obtain ⟨a0, len0, cap0, rfl⟩ := okWide_slice Try.underlying23 (hval 0 23 v0 rfl rfl)
  have k0 := h0
  have lt0 : ∀ x ∈ p0, x.block < W.heap.size := by obtain ⟨m, hm⟩ := k0; exact DataW.trod_lt m _ _ _ hm
  obtain ⟨z0, w0⟩ : ∃ zs, RdA W (.slice a0 len0 cap0) zs := by
    obtain ⟨fuel, hf⟩ := h0
    obtain ⟨a9, l9, c9, L9, hcs, _, hR⟩ := open_acalls (sb := 5) (ss := 56) (si := 3) Try.underlying23 Try.underlying35 (by kernel_rfl) rfl rfl rfl rfl rfl rfl rfl (by kernel_rfl) (by kernel_rfl) (by kernel_rfl) (by kernel_rfl) (by kernel_rfl) (by kernel_rfl) (by kernel_rfl) (by kernel_rfl) (by kernel_rfl) (by kernel_rfl) (by kernel_rfl) (by kernel_rfl) (by kernel_rfl) (by kernel_rfl) (by kernel_rfl) (by kernel_rfl) (by kernel_rfl) (by kernel_rfl) (by kernel_rfl) (by kernel_rfl) hf
    simp [Value.cells] at hcs
    obtain ⟨rfl, rfl, rfl⟩ := hcs
    exact ⟨L9, hR⟩
  have k1 := h1
  have lt1 : ∀ x ∈ p1, x.block < W.heap.size := by obtain ⟨m, hm⟩ := k1; exact DataW.trod_lt m _ _ _ hm
  obtain ⟨c1, rfl, w1⟩ := open_acall (sb := 5) (ss := 56) (si := 3) Try.underlying35 (by kernel_rfl) rfl rfl rfl rfl rfl rfl rfl (by kernel_rfl) (by kernel_rfl) (by kernel_rfl) (by kernel_rfl) (by kernel_rfl) (by kernel_rfl) (by kernel_rfl) (by kernel_rfl) (by kernel_rfl) (by kernel_rfl) (by kernel_rfl) (by kernel_rfl) (by kernel_rfl) (by kernel_rfl) (by kernel_rfl) (by kernel_rfl) (by kernel_rfl) (by kernel_rfl) (by kernel_rfl) (by kernel_rfl) (hval 1 35 v1 rfl rfl) h1
  clear hA0 hval0
  refine (walk a0 len0 cap0 z0 c1 W w0 w1).mono fun e W' ⟨he, bel⟩ => ?_
  subst he
  exact ⟨_, rfl, _, _, _, [], _, [], hW', trodAll_mk1 (shut_bool Try.underlying4 _), (trodAll_cons_mk (Below.trod laidOut (by kernel_rfl) (of_decide_eq_true (by kernel_rfl)) k0 bel lt0) (trodAll_cons_mk (Below.trod laidOut (by kernel_rfl) (of_decide_eq_true (by kernel_rfl)) k1 bel lt1) trodAll_mk0)), rfl, bel.frame _, fun h => by cases h⟩

theorem over : Rows.arrayApartRow.holds Try.pinned (OpenSpec.ofChange Rows.arrayApartSpec) :=
  OpenClaim.holds_of_wide 6 Try.f6 rfl rfl rfl rfl rfl rfl rfl ⟨rfl, rfl, rfl, rfl, rfl⟩ rfl rfl rfl rfl rfl (by kernel_rfl) Try.func6 (by kernel_rfl)
    (of_decide_eq_true (by kernel_rfl)) (by unfold Func.isWrapper; first | (rw [if_pos (by decide +kernel)]; kernel_rfl) | (rw [if_neg (by decide +kernel)]; exact ⟨rfl, rfl⟩))
    (fun os started H enc _ => lifted os started H enc)

/-- ████ THE STATEMENT ████ -/
theorem proved : Rows.ArrayApartSaid := over
end Go.Proofs.Ytpijncnpicgjeaa.arrayApart
namespace Go.Proofs.Ytpijncnpicgjeaa
theorem arrayApart_holds : Rows.ArrayApartSaid := arrayApart.proved
#print axioms arrayApart_holds
end Go.Proofs.Ytpijncnpicgjeaa
