/- PROVED: for all numbers disks and sectors and every script of calls the call ArrayPlays(disks, sectors, script) returns true, and its arguments read behind it as before; no conditions. -/
import Derived.Test.YtpijncnpicgjeaaRows
import Derived.Test.YtpijncnpicgjeaaTome2
import Derived.Test.YtpijncnpicgjeaaTome11
import Derived.WalkKit
import Derived.ProofKit
import Derived.OpenShut
import Derived.ShutString
import Derived.ChangeOld
import Derived.Below
namespace Go.Proofs.Ytpijncnpicgjeaa.arrayPlays
open Go.ChangeShapes Go.WideShapes Go.ChangeAt Go.RowKit
open Go.ChangeMaps (open_string shut_string)
set_option linter.unusedVariables false

theorem own : ownKnob Try.prog.godebug = none := by kernel_rfl
theorem laidOut : laidOutB Try.prog = true := by kernel_rfl

/-- WHAT THE WALK IS TOLD OF A SLICE OF INTEGERS THAT CAME IN: it is nil; or it leads to a row of 'cap' cells, the numbers 'zs' (the first 'len' are its elements, the rest its spare room), each fitting its kind. -/
def IsRow (k : IntKind) (w : World) (a : Option Addr) (len cap : Nat) (zs : List Int) : Prop :=
  (a = none ∧ len = 0 ∧ cap = 0 ∧ zs = []) ∨
  ∃ x, a = some x ∧ len ≤ cap ∧ cap ≤ maxLen ∧ zs.length = cap ∧ (∀ i, i < zs.length → w.cell? (x.add i) = some (.int k (zs.getD i 0))) ∧ ∀ n ∈ zs, (Lit.int k n).wf = true

open Gf
set_option linter.unusedSimpArgs false
set_option maxRecDepth 100000 in
set_option maxHeartbeats 4000000 in
theorem walk (a0 : Int) (a1 : Int) (a2 : Option Addr) (len2 cap2 : Nat) (z2 : List CallA) (w : World) (w0 : (Lit.int .i64 a0).wf = true) (w1 : (Lit.int .i64 a1).wf = true) (w2 : RdA w (.slice a2 len2 cap2) z2) :
    Calls Try.prog 4 #[.int .i64 a0, .int .i64 a1, .slice a2 len2 cap2] w fun e w' => e = .returned (.bool true) ∧ Below w.heap.size w w' := by
  obtain rfl := w2.lenEq
  by_cases hn : 1 ≤ a0 ∧ a0 ≤ 32
  rotate_left
  · by_cases q1 : a0 > 8
    · have q2 : ¬ a0 ≤ 32 := by omega
      go_enter Try.func4, Try.ntmps4
      go_wp2_with fail
      refine awake_any.mono ?_
      rintro e u1 ⟨rfl, b⟩
      go_wp2_with fail
      refine (anew_bad hn).mono ?_
      rintro _ uq ⟨rfl, hq⟩
      rw [hq]
      clear hq uq
      go_wp2_with fail
      refine (rnewA_bad hn).mono ?_
      rintro _ uq ⟨rfl, hq⟩
      rw [hq]
      clear hq uq
      go_wp2
      go_ret
      exact ⟨rfl, b⟩
    · go_enter Try.func4, Try.ntmps4
      go_wp2_with fail
      refine awake_any.mono ?_
      rintro e u1 ⟨rfl, b⟩
      go_wp2_with fail
      refine (anew_bad hn).mono ?_
      rintro _ uq ⟨rfl, hq⟩
      rw [hq]
      clear hq uq
      go_wp2_with fail
      refine (rnewA_bad hn).mono ?_
      rintro _ uq ⟨rfl, hq⟩
      rw [hq]
      clear hq uq
      go_wp2
      go_ret
      exact ⟨rfl, b⟩
  obtain ⟨hn1, hn2⟩ := hn
  by_cases q1 : a0 > 8
  · have q2 : a0 ≤ 32 := hn2
    obtain ⟨m, hm, m1, m2⟩ : ∃ m : Nat, Hid ((m : Int) = 8) ∧ 1 ≤ m ∧ m ≤ 32 := ⟨8, rfl, by decide, by decide⟩
    go_enter Try.func4, Try.ntmps4
    go_wp2_with fail
    refine awake_any.mono ?_
    rintro e u1 ⟨rfl, b⟩
    replace w2 := w2.below b
    have N1 := b.size
    go_wp2_with fail
    rw [← hm.out]
    by_cases hs : 1 ≤ a1 ∧ a1 ≤ 4096
    rotate_left
    · refine (anew_no m1 m2 hs).mono ?_
      rintro _ v1 ⟨rfl, C1⟩
      go_wp2_with fail
      refine (rnewA_no m1 m2 hs).mono ?_
      rintro _ v2 ⟨rfl, C2⟩
      have FB : Hid (Below w.heap.size w v2) := (b.step12 C1 N1).step12 C2 (Nat.le_trans N1 C1.size)
      clear C1 C2
      go_wp2
      go_ret
      exact ⟨rfl, FB.out⟩
    obtain ⟨s1, s2⟩ := hs
    refine (anew_any m1 m2 s1 s2).mono ?_
    rintro _ v1 ⟨ab, G1, rfl, A1, H1, B1⟩
    go_wp2_with fail
    refine (rnewA_any m1 m2 s1 s2 (GA := G1) A1.lt).mono ?_
    rintro _ v2 ⟨rb, HR, rfl, R2, H2, C2⟩
    have START : Hid (∃ G, BothA u1 v2 ab rb G HR (runA (newA m a1.toNat) (z2.take 0))) := ⟨G1, ⟨A1.below C2, H1, Nat.le_trans B1.size C2.size⟩, R2, fun k hk => Nat.le_trans B1.size (H2 k hk), B1.step12 C2 B1.size⟩
    have b' : Hid _ := b
    clear A1 H1 B1 R2 H2 C2 b hm
    obtain ⟨n0, hn0⟩ : ∃ n0, n0 = newA m a1.toNat := ⟨_, rfl⟩
    rw [← hn0] at START
    clear hn0
    go_wp2
    go_loopw [12] (fun i wr => ∃ k : Nat, k ≤ z2.length ∧ k ≤ 50 ∧ i = .int .i64 (k : Int) ∧ ∃ G, BothA u1 wr ab rb G HR (runA n0 (z2.take k))) (fun i _ => 50 - (intOf i).toNat)
    case atStart => exact ⟨0, Nat.zero_le _, Nat.zero_le _, rfl, START.out⟩
    case round =>
      obtain ⟨k, hk1, hk2, rfl, G, hI⟩ := hrel
      clear START
      by_cases hlt : k < z2.length ∧ k < 50
      · obtain ⟨hl1, hl2⟩ := hlt
        have p1 : (k : Int) < (z2.length : Int) := by omega
        have p2 : (k : Int) < 50 := by omega
        have g1 : IntKind.i64.wrap ((k : Int) + 1) = ((k + 1 : Nat) : Int) := by rw [IntKind.wrap_i64]; omega
        obtain ⟨bb, off, rfl, hb, hc⟩ := w2.at hl1
        have HS : Hid (runA n0 (z2.take (k + 1)) = stepA (runA n0 (z2.take k)) (z2.getD k default)) := runA_take hl1
        obtain ⟨c, hcc⟩ : ∃ c, c = z2.getD k default := ⟨_, rfl⟩
        rw [← hcc] at hc HS
        clear hcc
        obtain ⟨d, hd⟩ : ∃ d, d = runA n0 (z2.take k) := ⟨_, rfl⟩
        rw [← hd] at hI HS
        clear hd
        have hcw := hc.below hb hI.B
        have hv := hcw.toV
        obtain ⟨kd, cd, cn, cm, cy, cvb, cvk, cb, ck⟩ := c
        obtain ⟨c0, c1, c2, c3, c4, c5, c6, wk, wd, wn, wm, _, _⟩ := hcw
        have pb : Rd u1 cvb cb := hc.rb
        have pk : RdII u1 cvk ck := hc.rk
        simp only at c0 c1 c2 c3 c4 c5 c6 wk wd wn wm
        clear hc
        obtain ⟨ba, bc, rfl⟩ := pb.form
        obtain ⟨ka, kc, rfl⟩ := pk.form
        have SM : Calls Try.prog 12 #[.agg #[.int .i64 kd, .int .i64 cd, .int .i64 cn, .int .i64 cm, .int .u8 ((cy.toNat : Nat) : Int), .slice ba cb.length bc, .slice ka ck.length kc]] wr fun e w' => e = .returned (.bool (decide (smallA ⟨kd, cd, cn, cm, cy, .slice ba cb.length bc, .slice ka ck.length kc, cb, ck⟩))) ∧ Below wr.heap.size wr w' := asmall_any hv
        clear hv
        by_cases hs : smallA ⟨kd, cd, cn, cm, cy, .slice ba cb.length bc, .slice ka ck.length kc, cb, ck⟩
        · have HP : Hid (runA n0 (z2.take (k + 1)) = playA d ⟨kd, cd, cn, cm, cy, .slice ba cb.length bc, .slice ka ck.length kc, cb, ck⟩) := by
            show _ = _
            rw [HS.out]
            exact if_pos hs
          rw [decide_eq_true hs] at SM
          have hs3 : Hid (∀ r ∈ ck, r.2.length ≤ 1000000) := fun r hr => Nat.le_trans (hs.2.2 r hr) (by decide)
          clear hs
          go_wp2_with fail
          refine SM.mono ?_
          rintro _ v3 ⟨rfl, C3⟩
          have I3 := hI.below C3
          have lb : bb < wr.heap.size := Nat.lt_of_lt_of_le hb hI.B.size
          have y0 := (C3.cell (p := ⟨bb, off + k * 7, none⟩) lb).trans c0
          have y1 := (C3.cell (p := ⟨bb, off + k * 7 + 1, none⟩) lb).trans c1
          have y2 := (C3.cell (p := ⟨bb, off + k * 7 + 2, none⟩) lb).trans c2
          have y3 := (C3.cell (p := ⟨bb, off + k * 7 + 3, none⟩) lb).trans c3
          have y4 := (C3.cell (p := ⟨bb, off + k * 7 + 4, none⟩) lb).trans c4
          have y5 := (C3.cell (p := ⟨bb, off + k * 7 + 5, none⟩) lb).trans c5
          have y6 := (C3.cell (p := ⟨bb, off + k * 7 + 6, none⟩) lb).trans c6
          clear c0 c1 c2 c3 c4 c5 c6 C3 hI HS SM lb
          go_wp2_with fail
          refine (didA_any I3 pb pk wd wn wm hs3.out).mono ?_
          rintro _ v4 ⟨rfl, G4, I4⟩
          rw [← HP.out] at I4
          clear I3 y0 y1 y2 y3 y4 y5 y6 HP pb pk hs3
          go_wp2_with fail
          refine (showsA_any I4).mono ?_
          rintro _ v5 ⟨rfl, I5⟩
          have E5 : Hid (∃ G, BothA u1 v5 ab rb G HR (runA n0 (z2.take (k + 1)))) := ⟨G4, I5⟩
          clear I4 I5
          go_wp2
          go_roundw
          case rel => exact ⟨k + 1, by omega, by omega, by go_num, E5.out⟩
          case measure => simp [intOf]; omega
        · have HP : Hid (runA n0 (z2.take (k + 1)) = d) := by
            show _ = _
            rw [HS.out]
            exact if_neg hs
          rw [decide_eq_false hs] at SM
          clear hs
          go_wp2_with fail
          refine SM.mono ?_
          rintro _ v3 ⟨rfl, C3⟩
          have E5 : Hid (∃ G, BothA u1 v3 ab rb G HR (runA n0 (z2.take (k + 1)))) := ⟨G, by rw [HP.out]; exact hI.below C3⟩
          clear c0 c1 c2 c3 c4 c5 c6 C3 hI HS SM HP pb pk
          go_wp2
          go_roundw
          case rel => exact ⟨k + 1, by omega, by omega, by go_num, E5.out⟩
          case measure => simp [intOf]; omega
      · have FB : Hid (Below w.heap.size w wr) := b'.out.trans (hI.B.mono N1)
        clear hI
        by_cases hl1 : k < z2.length
        · have p1 : (k : Int) < (z2.length : Int) := by omega
          have p2 : ¬ (k : Int) < 50 := by omega
          go_wp2
          go_ret
          exact ⟨rfl, FB.out⟩
        · have p1 : ¬ (k : Int) < (z2.length : Int) := by omega
          go_wp2
          go_ret
          exact ⟨rfl, FB.out⟩
  · obtain ⟨m, hm, m1, m2⟩ : ∃ m : Nat, Hid ((m : Int) = a0) ∧ 1 ≤ m ∧ m ≤ 32 := ⟨a0.toNat, by show ((a0.toNat : Nat) : Int) = a0; omega, by omega, by omega⟩
    go_enter Try.func4, Try.ntmps4
    go_wp2_with fail
    refine awake_any.mono ?_
    rintro e u1 ⟨rfl, b⟩
    replace w2 := w2.below b
    have N1 := b.size
    go_wp2_with fail
    rw [← hm.out]
    by_cases hs : 1 ≤ a1 ∧ a1 ≤ 4096
    rotate_left
    · refine (anew_no m1 m2 hs).mono ?_
      rintro _ v1 ⟨rfl, C1⟩
      go_wp2_with fail
      refine (rnewA_no m1 m2 hs).mono ?_
      rintro _ v2 ⟨rfl, C2⟩
      have FB : Hid (Below w.heap.size w v2) := (b.step12 C1 N1).step12 C2 (Nat.le_trans N1 C1.size)
      clear C1 C2
      go_wp2
      go_ret
      exact ⟨rfl, FB.out⟩
    obtain ⟨s1, s2⟩ := hs
    refine (anew_any m1 m2 s1 s2).mono ?_
    rintro _ v1 ⟨ab, G1, rfl, A1, H1, B1⟩
    go_wp2_with fail
    refine (rnewA_any m1 m2 s1 s2 (GA := G1) A1.lt).mono ?_
    rintro _ v2 ⟨rb, HR, rfl, R2, H2, C2⟩
    have START : Hid (∃ G, BothA u1 v2 ab rb G HR (runA (newA m a1.toNat) (z2.take 0))) := ⟨G1, ⟨A1.below C2, H1, Nat.le_trans B1.size C2.size⟩, R2, fun k hk => Nat.le_trans B1.size (H2 k hk), B1.step12 C2 B1.size⟩
    have b' : Hid _ := b
    clear A1 H1 B1 R2 H2 C2 b hm
    obtain ⟨n0, hn0⟩ : ∃ n0, n0 = newA m a1.toNat := ⟨_, rfl⟩
    rw [← hn0] at START
    clear hn0
    go_wp2
    go_loopw [12] (fun i wr => ∃ k : Nat, k ≤ z2.length ∧ k ≤ 50 ∧ i = .int .i64 (k : Int) ∧ ∃ G, BothA u1 wr ab rb G HR (runA n0 (z2.take k))) (fun i _ => 50 - (intOf i).toNat)
    case atStart => exact ⟨0, Nat.zero_le _, Nat.zero_le _, rfl, START.out⟩
    case round =>
      obtain ⟨k, hk1, hk2, rfl, G, hI⟩ := hrel
      clear START
      by_cases hlt : k < z2.length ∧ k < 50
      · obtain ⟨hl1, hl2⟩ := hlt
        have p1 : (k : Int) < (z2.length : Int) := by omega
        have p2 : (k : Int) < 50 := by omega
        have g1 : IntKind.i64.wrap ((k : Int) + 1) = ((k + 1 : Nat) : Int) := by rw [IntKind.wrap_i64]; omega
        obtain ⟨bb, off, rfl, hb, hc⟩ := w2.at hl1
        have HS : Hid (runA n0 (z2.take (k + 1)) = stepA (runA n0 (z2.take k)) (z2.getD k default)) := runA_take hl1
        obtain ⟨c, hcc⟩ : ∃ c, c = z2.getD k default := ⟨_, rfl⟩
        rw [← hcc] at hc HS
        clear hcc
        obtain ⟨d, hd⟩ : ∃ d, d = runA n0 (z2.take k) := ⟨_, rfl⟩
        rw [← hd] at hI HS
        clear hd
        have hcw := hc.below hb hI.B
        have hv := hcw.toV
        obtain ⟨kd, cd, cn, cm, cy, cvb, cvk, cb, ck⟩ := c
        obtain ⟨c0, c1, c2, c3, c4, c5, c6, wk, wd, wn, wm, _, _⟩ := hcw
        have pb : Rd u1 cvb cb := hc.rb
        have pk : RdII u1 cvk ck := hc.rk
        simp only at c0 c1 c2 c3 c4 c5 c6 wk wd wn wm
        clear hc
        obtain ⟨ba, bc, rfl⟩ := pb.form
        obtain ⟨ka, kc, rfl⟩ := pk.form
        have SM : Calls Try.prog 12 #[.agg #[.int .i64 kd, .int .i64 cd, .int .i64 cn, .int .i64 cm, .int .u8 ((cy.toNat : Nat) : Int), .slice ba cb.length bc, .slice ka ck.length kc]] wr fun e w' => e = .returned (.bool (decide (smallA ⟨kd, cd, cn, cm, cy, .slice ba cb.length bc, .slice ka ck.length kc, cb, ck⟩))) ∧ Below wr.heap.size wr w' := asmall_any hv
        clear hv
        by_cases hs : smallA ⟨kd, cd, cn, cm, cy, .slice ba cb.length bc, .slice ka ck.length kc, cb, ck⟩
        · have HP : Hid (runA n0 (z2.take (k + 1)) = playA d ⟨kd, cd, cn, cm, cy, .slice ba cb.length bc, .slice ka ck.length kc, cb, ck⟩) := by
            show _ = _
            rw [HS.out]
            exact if_pos hs
          rw [decide_eq_true hs] at SM
          have hs3 : Hid (∀ r ∈ ck, r.2.length ≤ 1000000) := fun r hr => Nat.le_trans (hs.2.2 r hr) (by decide)
          clear hs
          go_wp2_with fail
          refine SM.mono ?_
          rintro _ v3 ⟨rfl, C3⟩
          have I3 := hI.below C3
          have lb : bb < wr.heap.size := Nat.lt_of_lt_of_le hb hI.B.size
          have y0 := (C3.cell (p := ⟨bb, off + k * 7, none⟩) lb).trans c0
          have y1 := (C3.cell (p := ⟨bb, off + k * 7 + 1, none⟩) lb).trans c1
          have y2 := (C3.cell (p := ⟨bb, off + k * 7 + 2, none⟩) lb).trans c2
          have y3 := (C3.cell (p := ⟨bb, off + k * 7 + 3, none⟩) lb).trans c3
          have y4 := (C3.cell (p := ⟨bb, off + k * 7 + 4, none⟩) lb).trans c4
          have y5 := (C3.cell (p := ⟨bb, off + k * 7 + 5, none⟩) lb).trans c5
          have y6 := (C3.cell (p := ⟨bb, off + k * 7 + 6, none⟩) lb).trans c6
          clear c0 c1 c2 c3 c4 c5 c6 C3 hI HS SM lb
          go_wp2_with fail
          refine (didA_any I3 pb pk wd wn wm hs3.out).mono ?_
          rintro _ v4 ⟨rfl, G4, I4⟩
          rw [← HP.out] at I4
          clear I3 y0 y1 y2 y3 y4 y5 y6 HP pb pk hs3
          go_wp2_with fail
          refine (showsA_any I4).mono ?_
          rintro _ v5 ⟨rfl, I5⟩
          have E5 : Hid (∃ G, BothA u1 v5 ab rb G HR (runA n0 (z2.take (k + 1)))) := ⟨G4, I5⟩
          clear I4 I5
          go_wp2
          go_roundw
          case rel => exact ⟨k + 1, by omega, by omega, by go_num, E5.out⟩
          case measure => simp [intOf]; omega
        · have HP : Hid (runA n0 (z2.take (k + 1)) = d) := by
            show _ = _
            rw [HS.out]
            exact if_neg hs
          rw [decide_eq_false hs] at SM
          clear hs
          go_wp2_with fail
          refine SM.mono ?_
          rintro _ v3 ⟨rfl, C3⟩
          have E5 : Hid (∃ G, BothA u1 v3 ab rb G HR (runA n0 (z2.take (k + 1)))) := ⟨G, by rw [HP.out]; exact hI.below C3⟩
          clear c0 c1 c2 c3 c4 c5 c6 C3 hI HS SM HP pb pk
          go_wp2
          go_roundw
          case rel => exact ⟨k + 1, by omega, by omega, by go_num, E5.out⟩
          case measure => simp [intOf]; omega
      · have FB : Hid (Below w.heap.size w wr) := b'.out.trans (hI.B.mono N1)
        clear hI
        by_cases hl1 : k < z2.length
        · have p1 : (k : Int) < (z2.length : Int) := by omega
          have p2 : ¬ (k : Int) < 50 := by omega
          go_wp2
          go_ret
          exact ⟨rfl, FB.out⟩
        · have p1 : ¬ (k : Int) < (z2.length : Int) := by omega
          go_wp2
          go_ret
          exact ⟨rfl, FB.out⟩

/-! ### THE ROW's STEP: WRITTEN OUT: LEAVE IT -/
set_option maxRecDepth 100000 in
theorem lifted (os : Os) (started : os.Started) (H : Type) (enc : TypeId × Value → H) :
    ReturnsInHanded {} Try.checked os 4 .any (Rows.arrayPlaysSpec.pre6 enc Try.prog Try.f4 Rows.arrayPlaysRow.domain false) (Rows.arrayPlaysSpec.post enc Try.prog Try.f4 false true false false) := by
  refine returnsInHanded_of_change (C := Try.checked) own started (by kernel_rfl) Try.func4
    (ChangeSpec.witness6 (enc := enc) (C := Try.checked) false ⟨#[], #[.int .i64 0, .int .i64 0, .slice none 0 0], []⟩ 8 (by kernel_rfl) (by kernel_rfl) (by kernel_rfl) (by kernel_rfl)) ?_
  intro W base args ds gs before hval0 hW hcnd _
  have hval : ∀ (j : Nat) t v, Try.f4.params[j]? = some t → args[j]? = some v → Value.okWide Try.prog W .any base t v := hval0
  have hW' := hW
  obtain ⟨p, q, hA0, hV, rfl, hfz, hnd⟩ := hW
  have hA : DataW.TrodAll enc Try.prog W 0 (fun _ => true) true Try.f4.params.toList args.toList ds p := hA0
  rw [Try.params4] at hA hval
  obtain ⟨v0, vs0, d0, ds0, p0, q0, hargs, rfl, rfl, h0, r0⟩ := trodAll_cons hA
  obtain ⟨v1, vs1, d1, ds1, p1, q1, rfl, rfl, rfl, h1, r1⟩ := trodAll_cons r0
  obtain ⟨v2, vs2, d2, ds2, p2, q2, rfl, rfl, rfl, h2, r2⟩ := trodAll_cons r1
  obtain ⟨rfl, rfl, rfl⟩ := trodAll_nil r2
  obtain rfl : args = #[v0, v1, v2] := by cases args; simp_all
  obtain ⟨rfl, rfl⟩ := trodVars_none hV
  obtain ⟨a0, rfl, rfl, rfl, w0⟩ := open_int Try.underlying3 (hval 0 3 v0 rfl rfl) h0
  obtain ⟨a1, rfl, rfl, rfl, w1⟩ := open_int Try.underlying3 (hval 1 3 v1 rfl rfl) h1
  obtain ⟨a2, len2, cap2, rfl⟩ := okWide_slice Try.underlying23 (hval 2 23 v2 rfl rfl)
  have k2 := h2
  have lt2 : ∀ x ∈ p2, x.block < W.heap.size := by obtain ⟨m, hm⟩ := k2; exact DataW.trod_lt m _ _ _ hm
  obtain ⟨z2, w2⟩ : ∃ zs, RdA W (.slice a2 len2 cap2) zs := by
    obtain ⟨fuel, hf⟩ := h2
    obtain ⟨a9, l9, c9, L9, hcs, _, hR⟩ := open_acalls (sb := 5) (ss := 56) (si := 3) Try.underlying23 Try.underlying35 (by kernel_rfl) rfl rfl rfl rfl rfl rfl rfl (by kernel_rfl) (by kernel_rfl) (by kernel_rfl) (by kernel_rfl) (by kernel_rfl) (by kernel_rfl) (by kernel_rfl) (by kernel_rfl) (by kernel_rfl) (by kernel_rfl) (by kernel_rfl) (by kernel_rfl) (by kernel_rfl) (by kernel_rfl) (by kernel_rfl) (by kernel_rfl) (by kernel_rfl) (by kernel_rfl) (by kernel_rfl) (by kernel_rfl) hf
    simp [Value.cells] at hcs
    obtain ⟨rfl, rfl, rfl⟩ := hcs
    exact ⟨L9, hR⟩
  clear hA0 hval0
  refine (walk a0 a1 a2 len2 cap2 z2 W w0 w1 w2).mono fun e W' ⟨he, bel⟩ => ?_
  subst he
  exact ⟨_, rfl, _, _, _, [], _, [], hW', trodAll_mk1 (shut_bool Try.underlying4 _), (trodAll_cons_mk (shut_int Try.underlying3 w0) (trodAll_cons_mk (shut_int Try.underlying3 w1) (trodAll_cons_mk (Below.trod laidOut (by kernel_rfl) (of_decide_eq_true (by kernel_rfl)) k2 bel lt2) trodAll_mk0))), rfl, bel.frame _, fun h => by cases h⟩

theorem over : Rows.arrayPlaysRow.holds Try.pinned (OpenSpec.ofChange Rows.arrayPlaysSpec) :=
  OpenClaim.holds_of_wide 4 Try.f4 rfl rfl rfl rfl rfl rfl rfl ⟨rfl, rfl, rfl, rfl, rfl⟩ rfl rfl rfl rfl rfl (by kernel_rfl) Try.func4 (by kernel_rfl)
    (of_decide_eq_true (by kernel_rfl)) (by unfold Func.isWrapper; first | (rw [if_pos (by decide +kernel)]; kernel_rfl) | (rw [if_neg (by decide +kernel)]; exact ⟨rfl, rfl⟩))
    (fun os started H enc _ => lifted os started H enc)

/-- ████ THE STATEMENT ████ -/
theorem proved : Rows.ArrayPlaysSaid := over
end Go.Proofs.Ytpijncnpicgjeaa.arrayPlays
namespace Go.Proofs.Ytpijncnpicgjeaa
theorem arrayPlays_holds : Rows.ArrayPlaysSaid := arrayPlays.proved
#print axioms arrayPlays_holds
end Go.Proofs.Ytpijncnpicgjeaa
