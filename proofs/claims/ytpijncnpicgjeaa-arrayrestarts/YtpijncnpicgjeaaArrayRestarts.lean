/- PROVED: for every script of calls and every list keep of lists of numbers the call ArrayRestarts(script, keep) returns true, and its arguments read behind it as before; no conditions. -/
import Derived.Test.YtpijncnpicgjeaaRows
import Derived.Test.YtpijncnpicgjeaaTome2
import Derived.Test.YtpijncnpicgjeaaTome10
import Derived.Test.YtpijncnpicgjeaaTome12
import Derived.WalkKit
import Derived.ProofKit
import Derived.OpenShut
import Derived.ShutString
import Derived.ChangeOld
import Derived.Below
namespace Go.Proofs.Ytpijncnpicgjeaa.arrayRestarts
open Go.ChangeShapes Go.WideShapes Go.ChangeAt Go.RowKit
open Go.ChangeMaps (open_string shut_string)
set_option linter.unusedVariables false

theorem own : ownKnob Try.prog.godebug = none := by kernel_rfl
theorem laidOut : laidOutB Try.prog = true := by kernel_rfl

/-- WHAT THE WALK IS TOLD OF A SLICE OF INTEGERS THAT CAME IN: it is nil; or it leads to a row of 'cap' cells, the numbers 'zs' (the first 'len' are its elements, the rest its spare room), each fitting its kind. -/
def IsRow (k : IntKind) (w : World) (a : Option Addr) (len cap : Nat) (zs : List Int) : Prop :=
  (a = none ∧ len = 0 ∧ cap = 0 ∧ zs = []) ∨
  ∃ x, a = some x ∧ len ≤ cap ∧ cap ≤ maxLen ∧ zs.length = cap ∧ (∀ i, i < zs.length → w.cell? (x.add i) = some (.int k (zs.getD i 0))) ∧ ∀ n ∈ zs, (Lit.int k n).wf = true

open Gf
set_option linter.unusedSimpArgs false
set_option maxRecDepth 100000 in
set_option maxHeartbeats 4000000 in
theorem walk (a0 : Option Addr) (len0 cap0 : Nat) (z0 : List CallA) (a1 : Option Addr) (len1 cap1 : Nat) (z1 : List VI) (w : World) (w0 : RdA w (.slice a0 len0 cap0) z0) (w1 : RdII w (.slice a1 len1 cap1) z1) :
    Calls Try.prog 8 #[.slice a0 len0 cap0, .slice a1 len1 cap1] w fun e w' => e = .returned (.bool true) ∧ Below w.heap.size w w' := by
  obtain rfl := w0.lenEq
  obtain rfl := w1.lenEq
  go_enter Try.func8, Try.ntmps8
  go_wp2_with fail
  refine awake_any.mono ?_
  rintro e u1 ⟨rfl, b0⟩
  have b : Hid _ := b0
  have N1 := b0.size
  have RA : Hid (∀ V G, Below u1.heap.size u1 V → (∀ g, G g → u1.heap.size ≤ g) → ToldA V G (.slice a0 z0.length cap0) z0) := fun V G hV hG => ToldA.old (w0.below b0) hG hV
  have RK : Hid (∀ V G, Below u1.heap.size u1 V → (∀ g, G g → u1.heap.size ≤ g) → ToldII V G (.slice a1 z1.length cap1) z1) := fun V G hV hG => ToldII.old (w1.below b0) hG hV
  clear w0 w1 b0
  go_wp2_with fail
  refine (anew_is (n := 4) (s := 8) (m := 4) (k := 8) rfl (by decide) (by decide) (by decide) (by decide) rfl).mono ?_
  rintro _ v0 ⟨ab, G0, rfl, A0, H0, B0⟩
  have D0 : ArB v0 u1.heap.size ab G0 (newA 4 8) := ⟨A0, H0, B0.size⟩
  clear A0 H0
  have SM : Calls Try.prog 12 #[.agg #[.int .i64 0, .int .i64 0, .int .i64 0, .int .i64 0, .int .u8 0, .slice none 0 0, .slice a1 z1.length cap1]] v0 fun e w' => e = .returned (.bool (decide (smallA ⟨0, 0, 0, 0, 0, .slice none 0 0, .slice a1 z1.length cap1, [], z1⟩))) ∧ Below v0.heap.size v0 w' :=
    asmall_any (c := ⟨0, 0, 0, 0, 0, .slice none 0 0, .slice a1 z1.length cap1, [], z1⟩) ⟨(by show (Lit.int .i64 0).wf = true; decide), (by show (Lit.int .i64 0).wf = true; decide), (by show (Lit.int .i64 0).wf = true; decide), (by show (Lit.int .i64 0).wf = true; decide), Rd.nilA, (RK.out v0 G0 B0 D0.low).rd⟩
  go_wp2_with fail
  refine SM.mono ?_
  rintro _ v1 ⟨rfl, S1⟩
  have D1 := D0.below S1
  have B1 := B0.step12 S1 B0.size
  clear SM D0 B0 S1
  by_cases hs : smallA ⟨0, 0, 0, 0, 0, .slice none 0 0, .slice a1 z1.length cap1, [], z1⟩
  rotate_left
  · rw [decide_eq_false hs]
    have FB1 : Hid (Below w.heap.size w v1) := b.out.trans (B1.mono N1)
    clear D1 B1
    go_wp2
    go_ret
    exact ⟨rfl, FB1.out⟩
  rw [decide_eq_true hs]
  have hs3 : Hid (∀ r ∈ z1, r.2.length ≤ 1000000) := fun r hr => Nat.le_trans (hs.2.2 r hr) (by decide)
  clear hs
  go_wp2_with fail
  refine (adone_any D1.at_ (RA.out v1 G0 B1 D1.low)).mono ?_
  rintro _ p2 ⟨rfl, G2, A2, g2⟩
  have E2 := D1.grew A2 g2
  have F2 := B1.trans (D1.bel g2)
  clear A2 g2 D1 B1 RA
  have l4 : Hid ((runA (newA 4 8) (z0.take 50)).D.length = 4) := by show _ = _; rw [runA_len]; simp [newA]
  obtain ⟨a, ha⟩ : ∃ a, a = runA (newA 4 8) (z0.take 50) := ⟨_, rfl⟩
  rw [← ha] at E2 l4
  clear ha
  go_wp2_with fail
  refine (abirths_is E2.at_ l4.out).mono ?_
  rintro _ p3 ⟨gn, rfl, R3, hg3, C3⟩
  have N3 := ToldR.own E2.at_ R3 hg3
  have E3 := E2.below C3
  have F3 := F2.step12 C3 F2.size
  clear E2 F2 R3 hg3 C3
  go_wp2_with fail
  refine (alive_is E3.at_ l4.out).mono ?_
  rintro _ v2 ⟨gv, rfl, R4, hg4, C4⟩
  have M2 := (ToldR.own E3.at_ R4 hg4).none
  have K2 := (N3.below C4).none
  have D2 := E3.below C4
  have B2 := F3.step12 C4 F3.size
  clear E3 F3 R4 hg4 C4 N3
  have START : Hid (∃ vs us, Two v2 u1.heap.size G2 (.slice none 0 0) (.slice none 0 0) vs us (lsF a 0) (wsF a 0) ∧ ArB v2 u1.heap.size ab G2 a ∧ Below u1.heap.size u1 v2 ∧ ToldR v2 (Hot2 G2 (.slice none 0 0) (.slice none 0 0)) gn 3 4 (fun i => .int .i64 (a.B.getD i 0)) ∧ ToldR v2 (Hot2 G2 (.slice none 0 0) (.slice none 0 0)) gv 4 4 (fun i => .bool (!(a.D.getD i default).dead))) := ⟨[], [], Two.nil _ _ _, D2, B2, K2, M2⟩
  obtain ⟨i0, hi, hz0, hz1, hz2⟩ := info_parts info_helds13
  clear D2 B2 K2 M2
  go_wp2
  go_loopw [10, 11, 12] (fun lv wv i wr => ∃ k : Nat, k ≤ 4 ∧ i = .int .i64 (k : Int) ∧ ∃ vs us, Two wr u1.heap.size G2 lv wv vs us (lsF a k) (wsF a k) ∧ ArB wr u1.heap.size ab G2 a ∧ Below u1.heap.size u1 wr ∧ ToldR wr (Hot2 G2 lv wv) gn 3 4 (fun i => .int .i64 (a.B.getD i 0)) ∧ ToldR wr (Hot2 G2 lv wv) gv 4 4 (fun i => .bool (!(a.D.getD i default).dead))) (fun _ _ i _ => 4 - (intOf i).toNat)
  case atStart => exact ⟨0, Nat.zero_le _, rfl, START.out⟩
  case round =>
    clear START
    obtain ⟨k, hk, rfl, vs, us, T, D, B, K, M⟩ := hrel
    by_cases hlt : k < 4
    · have hlt' : (k : Int) < 4 := by omega
      have g1 : IntKind.i64.wrap ((k : Int) + 1) = ((k + 1 : Nat) : Int) := by rw [IntKind.wrap_i64]; omega
      have hkl : k < a.D.length := by rw [l4.out]; exact hlt
      have hfl := held_few D.at_.ok hkl (a.D.getD k default).last
      have hfw := held_few D.at_.ok hkl (a.D.getD k default).wait
      have vl : vs.length = k := by rw [T.lv, lsF_len]
      have ul : us.length = k := by rw [T.lu, wsF_len]
      go_wp2_with fail
      refine (alasts_at D.at_ hkl).mono ?_
      rintro _ w3 ⟨xl, rfl, O3, C3⟩
      have X3 := ToldH.ownG (T.lt D.at_.lt) O3 hfl
      have T3 := T.below C3
      have D3 := D.below C3
      have B3 := B.step12 C3 B.size
      have K3 := K.below C3
      have M3 := M.below C3
      obtain ⟨ml, hml⟩ : ∃ ml, Hid (ml = (heldL (a.D.getD k default).last (a.D.getD k default).s).length) := ⟨_, rfl⟩
      obtain ⟨al, cl, rfl⟩ : ∃ al cl, xl = .slice al ml cl := by rw [hml.out]; exact X3.form
      clear T D B O3 C3 K M
      have bA := belA w3 (.cells #[.slice al ml cl] 44)
      have X4 := X3.below bA
      have D4 := D3.below bA
      have B4 := B3.step12 bA B3.size
      have T4 := T3.below bA
      have K4 := K3.below bA
      have M4 := M3.below bA
      clear X3 D3 B3 T3 bA K3 M3
      go_wp2_with (at_builtin; go_loud (refine wpList_append_v _ rfl (.tmp 46) (.tmp 50) 49 rfl u1.heap.size 44 i0 (.slice none 0 0) 24 Try.underlying49 hi hz0 hz1 hz2 rfl (by decide) u10 vs.length vs rfl T4.rv w3.heap.size 1 (.slice al ml cl) rfl (World.cell?_alloc_new _ _ _ 0) rfl (by omega) D4.size ?_); intro lv' w4 h4 g4 e4)
      have T5 := T4.push D4.at_.lt X4 h4 g4 e4
      have D5 := D4.grown T4.nv g4
      have B5 := T4.bel B4 D4.size g4
      have gg5 := T4.gg g4 e4
      have K5 := K4.grew gg5
      have M5 := M4.grew gg5
      rw [lsF_succ] at T5
      clear X4 D4 B4 T4 h4 g4 e4 gg5 K4 M4
      refine (awaits_at D5.at_ hkl).mono ?_
      rintro _ w6 ⟨xw, rfl, O6, C6⟩
      have X6 := ToldH.ownG (T5.lt D5.at_.lt) O6 hfw
      have T6 := T5.below C6
      have D6 := D5.below C6
      have B6 := B5.step12 C6 B5.size
      have K6 := K5.below C6
      have M6 := M5.below C6
      obtain ⟨mw, hmw⟩ : ∃ mw, Hid (mw = (heldL (a.D.getD k default).wait (a.D.getD k default).s).length) := ⟨_, rfl⟩
      obtain ⟨aw, cw, rfl⟩ : ∃ aw cw, xw = .slice aw mw cw := by rw [hmw.out]; exact X6.form
      clear T5 D5 B5 O6 C6 K5 M5
      have bA := belA w6 (.cells #[.slice aw mw cw] 44)
      have X7 := X6.below bA
      have D7 := D6.below bA
      have B7 := B6.step12 bA B6.size
      have T7 := (T6.below bA).swap
      rw [← hot_swap] at X7
      have K7 := K6.below bA
      rw [← hot_swap] at K7
      have M7 := M6.below bA
      rw [← hot_swap] at M7
      clear X6 D6 B6 T6 bA K6 M6
      go_wp2_with (at_builtin; go_loud (refine wpList_append_v _ rfl (.tmp 52) (.tmp 56) 49 rfl u1.heap.size 44 i0 (.slice none 0 0) 24 Try.underlying49 hi hz0 hz1 hz2 rfl (by decide) u11 us.length us rfl T7.rv w6.heap.size 1 (.slice aw mw cw) rfl (World.cell?_alloc_new _ _ _ 0) rfl (by omega) D7.size ?_); intro uv' w8 h8 g8 e8)
      have T8 := (T7.push D7.at_.lt X7 h8 g8 e8).swap
      have D8 := D7.grown T7.nv g8
      have B8 := T7.bel B7 D7.size g8
      have gg8 := T7.gg g8 e8
      have K8 := K7.grew gg8
      rw [hot_swap] at K8
      have M8 := M7.grew gg8
      rw [hot_swap] at M8
      rw [wsF_succ] at T8
      have E8 : Hid (∃ vs us, Two w8 u1.heap.size G2 lv' uv' vs us (lsF a (k + 1)) (wsF a (k + 1)) ∧ ArB w8 u1.heap.size ab G2 a ∧ Below u1.heap.size u1 w8 ∧ ToldR w8 (Hot2 G2 lv' uv') gn 3 4 (fun i => .int .i64 (a.B.getD i 0)) ∧ ToldR w8 (Hot2 G2 lv' uv') gv 4 4 (fun i => .bool (!(a.D.getD i default).dead))) := ⟨_, _, T8, D8, B8, K8, M8⟩
      clear X7 D7 B7 T7 h8 g8 e8 gg8 T8 D8 B8 K7 K8 M7 M8
      go_roundw
      case rel => exact ⟨k + 1, by omega, by go_num, E8.out⟩
      case measure => simp [intOf]; omega
    · have hlt' : ¬ (k : Int) < 4 := by omega
      obtain rfl : k = 4 := by omega
      go_wp2_with fail
      refine (arestart_any D.at_ (RK.out wr G2 B D.low) hs3.out).mono ?_
      rintro _ v4 ⟨rfl, G4, A4, g4⟩
      have T4 := T.grew g4
      have K4 := K.grew (hot_grew _ _ g4)
      have M4 := M.grew (hot_grew _ _ g4)
      have D4 : ArB v4 u1.heap.size ab G4 (reAS a (z1.map (·.2))) := D.grew A4 g4
      have B4 := B.trans (D.bel g4)
      have l4' : Hid ((reAS a (z1.map (·.2))).D.length = 4) := by show _ = _; simp [reAS]; exact l4.out
      have HD : Hid (∀ i, i < 4 → (reAS a (z1.map (·.2))).D.getD i default = crS (a.D.getD i default) ((z1.map (·.2)).getD i [])) := fun i hi => re_at (by rw [l4.out]; exact hi)
      have HO : Hid ((reAS a (z1.map (·.2))).off = false ∧ (reAS a (z1.map (·.2))).left = -1) := ⟨rfl, rfl⟩
      have HB : Hid ((reAS a (z1.map (·.2))).B = a.B) := rfl
      obtain ⟨a', ha'⟩ : ∃ a', a' = reAS a (z1.map (·.2)) := ⟨_, rfl⟩
      rw [← ha'] at D4 l4' HD HO HB
      have okA : Hid a.Ok := D.at_.ok
      clear ha' T D B K M A4 g4 RK hs3
      go_wp2_with fail
      refine (abirths_is D4.at_ l4'.out).mono ?_
      rintro _ v5 ⟨g5, rfl, R5, _, C5⟩
      have T5 := T4.below C5
      have K5 := K4.below C5
      have M5 := M4.below C5
      have D5 := D4.below C5
      have B5 := B4.step12 C5 B4.size
      clear T4 K4 M4 D4 B4 C5
      have KI := @aints_eq v5 g5 gn 4 4 4 (fun i => a.B.getD i 0) (fun i hi => by rw [R5.cell hi, HB.out]) (fun i hi => K5.row.cell hi) (by decide)
      go_wp2_with fail
      refine KI.mono ?_
      rintro _ v6 ⟨rfl, n6, hq6⟩
      have C6 : Below v5.heap.size v5 v6 := by rw [hq6]; exact (Below.refl _ _).drewN _
      have T6 := T5.below C6
      have M6 := M5.below C6
      have D6 := D5.below C6
      have B6 := B5.step12 C6 B5.size
      clear T5 K5 M5 D5 B5 C6 hq6 KI R5
      go_wp2_with fail
      refine (alive_is D6.at_ l4'.out).mono ?_
      rintro _ v7 ⟨g7, rfl, R7, _, C7⟩
      have T7 := T6.below C7
      have M7 := M6.below C7
      have D7 := D6.below C7
      have B7 := B6.step12 C7 B6.size
      clear T6 M6 D6 B6 C7
      have KB := @abools_eq v7 g7 gv 4 4 4 (fun i => !(a.D.getD i default).dead) (fun i hi => by rw [R7.cell hi, HD.out i hi]; rfl) (fun i hi => M7.row.cell hi) (by decide)
      go_wp2_with fail
      refine KB.mono ?_
      rintro _ v8 ⟨rfl, n8, hq8⟩
      have C8 : Below v7.heap.size v7 v8 := by rw [hq8]; exact (Below.refl _ _).drewN _
      have T8 := T7.below C8
      have D8 := D7.below C8
      have B8 := B7.step12 C8 B7.size
      clear T7 M7 D7 B7 C8 hq8 KB R7
      go_wp2_with fail
      refine (adown_is D8.at_ HO.out.1).mono ?_
      rintro _ uq ⟨rfl, hq⟩
      rw [hq]
      clear hq uq
      obtain ⟨gl, kl, el, _⟩ := T8.at (i := 0) (by rw [lsF_len]; decide)
      obtain ⟨gw, kw, ew, _⟩ := T8.swap.at (i := 0) (by rw [wsF_len]; decide)
      rw [lsF_len] at el
      rw [wsF_len] at ew
      subst el ew
      have START : Hid (Two v8 u1.heap.size G4 (.slice (some ⟨gl, 0, none⟩) 4 kl) (.slice (some ⟨gw, 0, none⟩) 4 kw) vs us (lsF a 4) (wsF a 4) ∧ ArB v8 u1.heap.size ab G4 a' ∧ Below u1.heap.size u1 v8) := ⟨T8, D8, B8⟩
      clear T8 D8 B8
      go_wp2
      go_loopw [15] (fun i wr => ∃ k : Nat, k ≤ 4 ∧ i = .int .i64 (k : Int) ∧ Two wr u1.heap.size G4 (.slice (some ⟨gl, 0, none⟩) 4 kl) (.slice (some ⟨gw, 0, none⟩) 4 kw) vs us (lsF a 4) (wsF a 4) ∧ ArB wr u1.heap.size ab G4 a' ∧ Below u1.heap.size u1 wr) (fun i _ => 4 - (intOf i).toNat)
      case atStart => exact ⟨0, Nat.zero_le _, rfl, START.out⟩
      case round =>
        clear START
        obtain ⟨k, hk, rfl, T, D, B⟩ := hrel
        by_cases hlt : k < 4
        · have hlt' : (k : Int) < 4 := by omega
          have g1 : IntKind.i64.wrap ((k : Int) + 1) = ((k + 1 : Nat) : Int) := by rw [IntKind.wrap_i64]; omega
          have hkl : k < a'.D.length := by rw [l4'.out]; exact hlt
          have hfl := held_few D.at_.ok hkl (a'.D.getD k default).last
          have hfw := held_few D.at_.ok hkl (a'.D.getD k default).wait
          obtain ⟨p1, hp1⟩ : ∃ p1, Hid (decide (heldL (a'.D.getD k default).last (a'.D.getD k default).s = (lsF a 4).getD k []) = p1) := ⟨_, rfl⟩
          have HW : Hid (heldL (a'.D.getD k default).wait (a'.D.getD k default).s = []) := by show _ = _; rw [HD.out k hlt]; exact heldL_none _
          have HPQ : Hid (((wsF a 4).getD k []).length = 0 → p1 = true) := fun h0 => by
            rw [← hp1.out]
            refine decide_eq_true ?_
            rw [HD.out k hlt, lsF_at a hlt]
            rw [wsF_at a hlt] at h0
            exact crS_same (okA.out.each _ (by
              rw [show a.D.getD k default = a.D[k]'(by rw [l4.out]; exact hlt) by simp [List.getD, show k < a.D.length by rw [l4.out]; exact hlt]]
              exact List.getElem_mem _)) _ (List.length_eq_zero_iff.1 h0)
          obtain ⟨xe, hxe⟩ : ∃ xe, Hid (xe = vs.getD k undef) := ⟨_, rfl⟩
          obtain ⟨m, hm⟩ : ∃ m, Hid (m = ((wsF a 4).getD k []).length) := ⟨_, rfl⟩
          obtain ⟨ya, yc, hye⟩ : ∃ ya yc, Hid (us.getD k undef = .slice ya m yc) := by
            rw [hm.out]
            exact (T.eu k (by rw [wsF_len]; exact hlt)).form
          have CL : Hid (∀ W, Two W u1.heap.size G4 (.slice (some ⟨gl, 0, none⟩) 4 kl) (.slice (some ⟨gw, 0, none⟩) 4 kw) vs us (lsF a 4) (wsF a 4) → W.cell? ⟨gl, k, none⟩ = some xe ∧ W.cell? ⟨gw, k, none⟩ = some (.slice ya m yc) ∧ RdH W xe ((lsF a 4).getD k [])) := fun W h => by
            obtain ⟨g1, c1, e1, h1⟩ := h.at (i := k) (by rw [lsF_len]; exact hlt)
            obtain ⟨g2, c2, e2, h2⟩ := h.swap.at (i := k) (by rw [wsF_len]; exact hlt)
            simp at e1 e2
            rw [hye.out] at h2
            rw [e1.1, e2.1, hxe.out]
            exact ⟨h1, h2, (h.ev k (by rw [lsF_len]; exact hlt)).rd⟩
          have bD : Below wr.heap.size wr wr.drew := (Below.refl _ _).drew
          have T3 := T.below bD
          have D3 := D.below bD
          have B3 := B.step12 bD B.size
          obtain ⟨s3, _, _⟩ := CL.out _ T
          obtain ⟨s3D, _, _⟩ := CL.out _ T3
          go_wp2_with fail
          go_region_held3 (fun wx => wx.cell? ⟨gl, k, none⟩ = some xe) (first | exact s3 | exact s3D | exact s5 | exact s4) (first
            | (go_at_call 21; go_loud (refine (alasts_at D3.at_ hkl).mono ?_); rintro _ v5 ⟨x5, rfl, O5, C5⟩; have T5 := T3.below C5; have D5 := D3.below C5; have B5 := B3.step12 C5 B3.size; have Q5 := CL.out _ T5; have s4 := Q5.1; have r5 := OwnH.rdA O5 hfl)
            | (go_at_call 24; go_loud (refine (same12_is r5 Q5.2.2 hp1.out).mono ?_); rintro _ v6 ⟨rfl, nq6, hq6⟩; have C6 : Below v5.heap.size v5 v6 := (by rw [hq6]; exact (Below.refl _ _).drewN _); clear hq6; have T6 := T5.below C6; have D6 := D5.below C6; have B6 := B5.step12 C6 B5.size; have s5 := (CL.out _ T6).1))
          clear T D B bD T3 D3 B3 s3 s3D O5 C5 T5 D5 B5 Q5 s4 r5 C6 s5
          go_wp2_with fail
          refine (awaits_at D6.at_ hkl).mono ?_
          rintro _ v8 ⟨x8, rfl, O8, C8⟩
          have T8 := T6.below C8
          have D8 := D6.below C8
          have B8 := B6.step12 C8 B6.size
          obtain ⟨wa, wc, rfl⟩ := O8.none HW.out
          have s8 := (CL.out _ T8).2.1
          have E9 : Hid (Two v8 u1.heap.size G4 (.slice (some ⟨gl, 0, none⟩) 4 kl) (.slice (some ⟨gw, 0, none⟩) 4 kw) vs us (lsF a 4) (wsF a 4) ∧ ArB v8 u1.heap.size ab G4 a' ∧ Below u1.heap.size u1 v8) := ⟨T8, D8, B8⟩
          clear T6 D6 B6 T8 D8 B8 O8 C8 CL
          by_cases hm0 : m = 0
          · have hp := HPQ.out (by rw [← hm.out]; exact hm0)
            subst hp
            subst hm0
            go_wp2
            go_roundw
            case rel => exact ⟨k + 1, by omega, by go_num, E9.out⟩
            case measure => simp [intOf]; omega
          · have hm1 : ((m : Int) == 0) = false := beq_eq_false_iff_ne.2 (by omega)
            cases p1
            all_goals
              go_wp2
              go_roundw
              case rel => exact ⟨k + 1, by omega, by go_num, E9.out⟩
              case measure => simp [intOf]; omega
        · have hlt' : ¬ (k : Int) < 4 := by omega
          have START : Hid (∃ G c, ArB wr u1.heap.size ab G c ∧ c.off = false ∧ c.left = -1 ∧ Below u1.heap.size u1 wr) := ⟨G4, a', D, HO.out.1, HO.out.2, B⟩
          clear T D B
          go_wp2
          go_loopw [17] (fun i wr => ∃ k : Nat, k ≤ 20 ∧ i = .int .i64 (k : Int) ∧ ∃ G c, ArB wr u1.heap.size ab G c ∧ c.off = false ∧ c.left = -1 ∧ Below u1.heap.size u1 wr) (fun i _ => 20 - (intOf i).toNat)
          case atStart => exact ⟨0, Nat.zero_le _, rfl, START.out⟩
          case round =>
            clear START
            obtain ⟨n, hn, rfl, G, c, D, ho, hl, B⟩ := hrel
            by_cases hnt : n < 20
            · have hnt' : (n : Int) < 20 := by omega
              have g2 : IntKind.i64.wrap ((n : Int) + 1) = ((n + 1 : Nat) : Int) := by rw [IntKind.wrap_i64]; omega
              have wf4 : (Lit.int .i64 ((n : Int) % 4)).wf = true := by simp [Lit.wf, IntKind.min, IntKind.max, IntKind.signed, IntKind.bits]; omega
              have wf8 : (Lit.int .i64 ((n : Int) % 8)).wf = true := by simp [Lit.wf, IntKind.min, IntKind.max, IntKind.signed, IntKind.bits]; omega
              have Da := fun o => D.below (belA wr o)
              have Ba := fun o => B.step12 (belA wr o) B.size
              obtain ⟨x, hx⟩ : ∃ x, Hid (wrAX c ((n : Int) % 4) ((n : Int) % 8) [1] = x) := ⟨_, rfl⟩
              have hne : ¬ x = 130 := by rw [← hx.out]; exact wrAX_up ho _ _ _
              have zx : (x == 130) = false := beq_eq_false_iff_ne.2 hne
              have hup : Hid _ := wr_up ho hl ((n : Int) % 4) ((n : Int) % 8) [1]
              clear ho hl
              go_wp2_with fail
              refine (awrite_is (Da _).at_ wf4 wf8 (rd_lit [1] rfl rfl (by decide)) hx.out rfl).mono ?_
              rintro _ w3 ⟨rfl, G3, A3, g3⟩
              have E3 : Hid (∃ G c, ArB w3 u1.heap.size ab G c ∧ c.off = false ∧ c.left = -1 ∧ Below u1.heap.size u1 w3) := ⟨G3, _, (Da _).grew A3 g3, hup.out.1, hup.out.2, (Ba _).trans ((Da _).bel g3)⟩
              clear Da Ba A3 g3 D B hup
              go_wp2
              go_roundw
              case rel => exact ⟨n + 1, by omega, by go_num, E3.out⟩
              case measure => simp [intOf]; omega
            · have hnt' : ¬ (n : Int) < 20 := by omega
              have FB : Hid (Below w.heap.size w wr) := b.out.trans (B.mono N1)
              clear D B
              go_wp2
              go_ret
              exact ⟨rfl, FB.out⟩

/-! ### THE ROW's STEP: WRITTEN OUT: LEAVE IT -/
set_option maxRecDepth 100000 in
theorem lifted (os : Os) (started : os.Started) (H : Type) (enc : TypeId × Value → H) :
    ReturnsInHanded {} Try.checked os 8 .any (Rows.arrayRestartsSpec.pre6 enc Try.prog Try.f8 Rows.arrayRestartsRow.domain false) (Rows.arrayRestartsSpec.post enc Try.prog Try.f8 false true false false) := by
  refine returnsInHanded_of_change (C := Try.checked) own started (by kernel_rfl) Try.func8
    (ChangeSpec.witness6 (enc := enc) (C := Try.checked) false ⟨#[], #[.slice none 0 0, .slice none 0 0], []⟩ 8 (by kernel_rfl) (by kernel_rfl) (by kernel_rfl) (by kernel_rfl)) ?_
  intro W base args ds gs before hval0 hW hcnd _
  have hval : ∀ (j : Nat) t v, Try.f8.params[j]? = some t → args[j]? = some v → Value.okWide Try.prog W .any base t v := hval0
  have hW' := hW
  obtain ⟨p, q, hA0, hV, rfl, hfz, hnd⟩ := hW
  have hA : DataW.TrodAll enc Try.prog W 0 (fun _ => true) true Try.f8.params.toList args.toList ds p := hA0
  rw [Try.params8] at hA hval
  obtain ⟨v0, vs0, d0, ds0, p0, q0, hargs, rfl, rfl, h0, r0⟩ := trodAll_cons hA
  obtain ⟨v1, vs1, d1, ds1, p1, q1, rfl, rfl, rfl, h1, r1⟩ := trodAll_cons r0
  obtain ⟨rfl, rfl, rfl⟩ := trodAll_nil r1
  obtain rfl : args = #[v0, v1] := by cases args; simp_all
  obtain ⟨rfl, rfl⟩ := trodVars_none hV
  obtain ⟨a0, len0, cap0, rfl⟩ := okWide_slice Try.underlying23 (hval 0 23 v0 rfl rfl)
  have k0 := h0
  have lt0 : ∀ x ∈ p0, x.block < W.heap.size := by obtain ⟨m, hm⟩ := k0; exact DataW.trod_lt m _ _ _ hm
  obtain ⟨z0, w0⟩ : ∃ zs, RdA W (.slice a0 len0 cap0) zs := by
    obtain ⟨fuel, hf⟩ := h0
    obtain ⟨a9, l9, c9, L9, hcs, _, hR⟩ := open_acalls (sb := 5) (ss := 56) (si := 3) Try.underlying23 Try.underlying35 (by kernel_rfl) rfl rfl rfl rfl rfl rfl rfl (by kernel_rfl) (by kernel_rfl) (by kernel_rfl) (by kernel_rfl) (by kernel_rfl) (by kernel_rfl) (by kernel_rfl) (by kernel_rfl) (by kernel_rfl) (by kernel_rfl) (by kernel_rfl) (by kernel_rfl) (by kernel_rfl) (by kernel_rfl) (by kernel_rfl) (by kernel_rfl) (by kernel_rfl) (by kernel_rfl) (by kernel_rfl) (by kernel_rfl) hf
    simp [Value.cells] at hcs
    obtain ⟨rfl, rfl, rfl⟩ := hcs
    exact ⟨L9, hR⟩
  obtain ⟨a1, len1, cap1, rfl⟩ := okWide_slice Try.underlying33 (hval 1 33 v1 rfl rfl)
  have k1 := h1
  have lt1 : ∀ x ∈ p1, x.block < W.heap.size := by obtain ⟨m, hm⟩ := k1; exact DataW.trod_lt m _ _ _ hm
  obtain ⟨z1, w1⟩ : ∃ zs, RdII W (.slice a1 len1 cap1) zs := by
    obtain ⟨fuel, hf⟩ := h1
    obtain ⟨a9, l9, c9, L9, hcs, _, hR⟩ := open_rows Try.underlying33 Try.underlying56 Try.underlying3 (by kernel_rfl) (by kernel_rfl) hf
    simp [Value.cells] at hcs
    obtain ⟨rfl, rfl, rfl⟩ := hcs
    exact ⟨L9, hR⟩
  clear hA0 hval0
  refine (walk a0 len0 cap0 z0 a1 len1 cap1 z1 W w0 w1).mono fun e W' ⟨he, bel⟩ => ?_
  subst he
  exact ⟨_, rfl, _, _, _, [], _, [], hW', trodAll_mk1 (shut_bool Try.underlying4 _), (trodAll_cons_mk (Below.trod laidOut (by kernel_rfl) (of_decide_eq_true (by kernel_rfl)) k0 bel lt0) (trodAll_cons_mk (Below.trod laidOut (by kernel_rfl) (of_decide_eq_true (by kernel_rfl)) k1 bel lt1) trodAll_mk0)), rfl, bel.frame _, fun h => by cases h⟩

theorem over : Rows.arrayRestartsRow.holds Try.pinned (OpenSpec.ofChange Rows.arrayRestartsSpec) :=
  OpenClaim.holds_of_wide 8 Try.f8 rfl rfl rfl rfl rfl rfl rfl ⟨rfl, rfl, rfl, rfl, rfl⟩ rfl rfl rfl rfl rfl (by kernel_rfl) Try.func8 (by kernel_rfl)
    (of_decide_eq_true (by kernel_rfl)) (by unfold Func.isWrapper; first | (rw [if_pos (by decide +kernel)]; kernel_rfl) | (rw [if_neg (by decide +kernel)]; exact ⟨rfl, rfl⟩))
    (fun os started H enc _ => lifted os started H enc)

/-- ████ THE STATEMENT ████ -/
theorem proved : Rows.ArrayRestartsSaid := over
end Go.Proofs.Ytpijncnpicgjeaa.arrayRestarts
namespace Go.Proofs.Ytpijncnpicgjeaa
theorem arrayRestarts_holds : Rows.ArrayRestartsSaid := arrayRestarts.proved
#print axioms arrayRestarts_holds
end Go.Proofs.Ytpijncnpicgjeaa
