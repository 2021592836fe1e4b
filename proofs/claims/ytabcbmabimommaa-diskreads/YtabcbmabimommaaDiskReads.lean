/- PROVED: for all numbers sectors, addr and other, every script of calls and every list b of bytes the call DiskReads(sectors, script, addr, b, other) returns true, and its arguments read behind it as before; no conditions. -/
import Derived.Test.YtabcbmabimommaaRows
import Derived.Test.YtabcbmabimommaaTome5
import Derived.WalkKit
import Derived.ProofKit
import Derived.OpenShut
import Derived.ShutString
import Derived.ChangeOld
import Derived.Below
namespace Go.Proofs.Ytabcbmabimommaa.diskReads
open Go.ChangeShapes Go.WideShapes Go.ChangeAt Go.RowKit
open Go.ChangeMaps (open_string shut_string)
set_option linter.unusedVariables false

theorem own : ownKnob Try.prog.godebug = none := by kernel_rfl
theorem laidOut : laidOutB Try.prog = true := by kernel_rfl

/-- WHAT THE WALK IS TOLD OF A SLICE OF INTEGERS THAT CAME IN: it is nil; or it leads to a row of 'cap' cells, the numbers 'zs' (the first 'len' are its elements, the rest its spare room), each fitting its kind. -/
def IsRow (k : IntKind) (w : World) (a : Option Addr) (len cap : Nat) (zs : List Int) : Prop :=
  (a = none ∧ len = 0 ∧ cap = 0 ∧ zs = []) ∨
  ∃ x, a = some x ∧ len ≤ cap ∧ cap ≤ maxLen ∧ zs.length = cap ∧ (∀ i, i < zs.length → w.cell? (x.add i) = some (.int k (zs.getD i 0))) ∧ ∀ n ∈ zs, (Lit.int k n).wf = true

open Gf
set_option linter.unusedSimpArgs false
set_option maxRecDepth 100000 in
set_option maxHeartbeats 4000000 in
theorem walk (a0 : Int) (a1 : Option Addr) (len1 cap1 : Nat) (z1 : List CallR) (a2 : Int) (a3 : Option Addr) (len3 cap3 : Nat) (z3 : List Int) (a4 : Int) (w : World) (w0 : (Lit.int .i64 a0).wf = true) (w1 : RdC w (.slice a1 len1 cap1) z1) (w2 : (Lit.int .i64 a2).wf = true) (w3 : IsRow .u8 w a3 len3 cap3 z3) (w4 : (Lit.int .i64 a4).wf = true) :
    Calls Try.prog 7 #[.int .i64 a0, .slice a1 len1 cap1, .int .i64 a2, .slice a3 len3 cap3, .int .i64 a4] w fun e w' => e = .returned (.bool true) ∧ Below w.heap.size w w' := by
  obtain rfl := w1.lenEq
  obtain ⟨P, rfl, R3⟩ := rd_row w3
  by_cases hn : 1 ≤ a0 ∧ a0 ≤ 4096
  · obtain ⟨h1, h2⟩ := hn
    by_cases hk : P.length ≤ 4200
    · have hk' : ¬ (P.length : Int) > 4200 := by omega
      go_enter Try.func7, Try.ntmps7
      go_wp2_with fail
      refine awake_any.mono ?_
      rintro e u1 ⟨rfl, b⟩
      replace w1 := w1.below b
      replace R3 := R3.below b
      have N1 := b.size
      go_wp2_with fail
      refine (done_any h1 h2 w1).mono ?_
      rintro _ v0 ⟨db, G0, rfl, A0, H0, B0⟩
      have D0 : DkB v0 u1.heap.size db G0 (runS (newD a0.toNat) (z1.take 60)) := ⟨A0, H0, B0.size⟩
      obtain ⟨d, hd⟩ : ∃ d, d = runS (newD a0.toNat) (z1.take 60) := ⟨_, rfl⟩
      have hs : Hid (d.s = a0.toNat) := by show d.s = _; rw [hd, runS_s]; rfl
      rw [← hd] at D0
      have ok : Hid d.Ok := D0.at_.ok
      clear A0 H0 hd
      rcases wr_cases d a2 P with ⟨eX, ef, eb⟩ | ⟨eX, edd⟩ | ⟨eX, edd⟩
      · have eP := wr_rd ef eb
        by_cases ho : a4 = a2
        · subst ho
          have q0 : (a4 == a4) = true := by simp
          go_wp2_with fail
          refine (dread_is D0.at_ w4 rfl rfl).mono ?_
          rintro _ v1 ⟨xwas, rfl, O1, C1⟩
          have Twas_1 := Told.own D0.at_ O1
          obtain ⟨awas, cwas, rfl⟩ := owns_slice O1
          have D1 := D0.below C1
          have B1 := B0.step12 C1 B0.size
          clear D0 B0  O1 C1
          go_wp2_with fail
          refine (dwrite_is D1.at_ w2 (R3.below B1) eX rfl).mono ?_
          rintro _ v2 ⟨rfl, G2, A2, g2⟩
          have D2 : DkB v2 u1.heap.size db G2 (wrS d a4 P) := D1.grew A2 g2
          have Twas_2 := Twas_1.grew g2
          have B2 := B1.trans (D1.bel g2)
          clear D1 B1 Twas_1 A2 g2
          go_wp2_with fail
          refine (dread_is D2.at_ w4 ((wr_fa d a4 P a4).trans ef) eP).mono ?_
          rintro _ v3 ⟨xnow, rfl, O3, C3⟩
          have Tnow_3 := Told.own D2.at_ O3
          obtain ⟨anow, cnow, rfl⟩ := owns_slice O3
          have D3 := D2.below C3
          have Twas_3 := Twas_2.below C3
          have B3 := B2.step12 C3 B2.size
          clear D2 B2 Twas_2 O3 C3
          go_wp2_with fail
          refine (dread_is D3.at_ w2 ((wr_fa d a4 P a4).trans ef) eP).mono ?_
          rintro _ v4 ⟨xx, rfl, O4, C4⟩
          have Tx_4 := Told.own D3.at_ O4
          obtain ⟨ax, cx, rfl⟩ := owns_slice O4
          have D4 := D3.below C4
          have Twas_4 := Twas_3.below C4
          have Tnow_4 := Tnow_3.below C4
          have B4 := B3.step12 C4 B3.size
          clear D3 B3 Twas_3 Tnow_3 O4 C4
          go_wp2_with fail
          refine (same_is Tx_4.rd (R3.below B4) (sameB_self P)).mono ?_
          rintro _ v5 ⟨rfl, nq5, hq5⟩
          have C5 : Below v4.heap.size v4 v5 := by rw [hq5]; exact (Below.refl _ _).drewN _
          have D5 := D4.below C5
          have Twas_5 := Twas_4.below C5
          have Tnow_5 := Tnow_4.below C5
          have Tx_5 := Tx_4.below C5
          have B5 := B4.step12 C5 B4.size
          clear D4 B4 Twas_4 Tnow_4 Tx_4 hq5 C5
          go_wp2_with fail
          refine (same_any Twas_5.rd Tnow_5.rd).mono ?_
          rintro _ v6 ⟨rfl, nq6, hq6⟩
          have C6 : Below v5.heap.size v5 v6 := by rw [hq6]; exact (Below.refl _ _).drewN _
          have D6 := D5.below C6
          have Twas_6 := Twas_5.below C6
          have Tnow_6 := Tnow_5.below C6
          have Tx_6 := Tx_5.below C6
          have B6 := B5.step12 C6 B5.size
          clear D5 B5 Twas_5 Tnow_5 Tx_5 hq6 C6
          have FB : Hid (Below w.heap.size w v6) := b.trans (B6.mono N1)
          clear D6 B6 Twas_6 Tnow_6 Tx_6
          clear eX ef eb eP R3 w1 ok hs w0 w2
          go_wp2
          go_ret
          exact ⟨rfl, FB.out⟩
        have q0 : (a4 == a2) = false := by simp [ho]
        have eO := wr_other P ho (d := d)
        go_wp2_with fail
        refine (dread_is D0.at_ w4 rfl rfl).mono ?_
        rintro _ v1 ⟨xwas, rfl, O1, C1⟩
        have Twas_1 := Told.own D0.at_ O1
        obtain ⟨awas, cwas, rfl⟩ := owns_slice O1
        have D1 := D0.below C1
        have B1 := B0.step12 C1 B0.size
        clear D0 B0  O1 C1
        go_wp2_with fail
        refine (dwrite_is D1.at_ w2 (R3.below B1) eX rfl).mono ?_
        rintro _ v2 ⟨rfl, G2, A2, g2⟩
        have D2 : DkB v2 u1.heap.size db G2 (wrS d a2 P) := D1.grew A2 g2
        have Twas_2 := Twas_1.grew g2
        have B2 := B1.trans (D1.bel g2)
        clear D1 B1 Twas_1 A2 g2
        go_wp2_with fail
        refine (dread_is D2.at_ w4 (wr_fa d a2 P a4) eO).mono ?_
        rintro _ v3 ⟨xnow, rfl, O3, C3⟩
        have Tnow_3 := Told.own D2.at_ O3
        obtain ⟨anow, cnow, rfl⟩ := owns_slice O3
        have D3 := D2.below C3
        have Twas_3 := Twas_2.below C3
        have B3 := B2.step12 C3 B2.size
        clear D2 B2 Twas_2 O3 C3
        go_wp2_with fail
        refine (dread_is D3.at_ w2 ((wr_fa d a2 P a2).trans ef) eP).mono ?_
        rintro _ v4 ⟨xx, rfl, O4, C4⟩
        have Tx_4 := Told.own D3.at_ O4
        obtain ⟨ax, cx, rfl⟩ := owns_slice O4
        have D4 := D3.below C4
        have Twas_4 := Twas_3.below C4
        have Tnow_4 := Tnow_3.below C4
        have B4 := B3.step12 C4 B3.size
        clear D3 B3 Twas_3 Tnow_3 O4 C4
        go_wp2_with fail
        refine (same_is Tx_4.rd (R3.below B4) (sameB_self P)).mono ?_
        rintro _ v5 ⟨rfl, nq5, hq5⟩
        have C5 : Below v4.heap.size v4 v5 := by rw [hq5]; exact (Below.refl _ _).drewN _
        have D5 := D4.below C5
        have Twas_5 := Twas_4.below C5
        have Tnow_5 := Tnow_4.below C5
        have Tx_5 := Tx_4.below C5
        have B5 := B4.step12 C5 B4.size
        clear D4 B4 Twas_4 Tnow_4 Tx_4 hq5 C5
        go_wp2_with fail
        refine (same_is Twas_5.rd Tnow_5.rd (sameB_self _)).mono ?_
        rintro _ v6 ⟨rfl, nq6, hq6⟩
        have C6 : Below v5.heap.size v5 v6 := by rw [hq6]; exact (Below.refl _ _).drewN _
        have D6 := D5.below C6
        have Twas_6 := Twas_5.below C6
        have Tnow_6 := Tnow_5.below C6
        have Tx_6 := Tx_5.below C6
        have B6 := B5.step12 C6 B5.size
        clear D5 B5 Twas_5 Tnow_5 Tx_5 hq6 C6
        have FB : Hid (Below w.heap.size w v6) := b.trans (B6.mono N1)
        clear D6 B6 Twas_6 Tnow_6 Tx_6
        have q1 : (faX d a4 == faX d a4) = true := by simp
        clear eX ef eb eP eO R3 w1 ok hs w0 w2
        go_wp2
        go_ret
        exact ⟨rfl, FB.out⟩
      · have eN := wr_no (d := d) (a := a2) (b := P) (by rw [eX]; decide)
        go_wp2_with fail
        refine (dread_is D0.at_ w4 rfl rfl).mono ?_
        rintro _ v1 ⟨xwas, rfl, O1, C1⟩
        have Twas_1 := Told.own D0.at_ O1
        obtain ⟨awas, cwas, rfl⟩ := owns_slice O1
        have D1 := D0.below C1
        have B1 := B0.step12 C1 B0.size
        clear D0 B0  O1 C1
        go_wp2_with fail
        refine (dwrite_is D1.at_ w2 (R3.below B1) eX eN).mono ?_
        rintro _ v2 ⟨rfl, G2, A2, g2⟩
        have D2 : DkB v2 u1.heap.size db G2 (d) := D1.grew A2 g2
        have Twas_2 := Twas_1.grew g2
        have B2 := B1.trans (D1.bel g2)
        clear D1 B1 Twas_1 A2 g2
        go_wp2_with fail
        refine (dread_is D2.at_ w4 rfl rfl).mono ?_
        rintro _ v3 ⟨xnow, rfl, O3, C3⟩
        have Tnow_3 := Told.own D2.at_ O3
        obtain ⟨anow, cnow, rfl⟩ := owns_slice O3
        have D3 := D2.below C3
        have Twas_3 := Twas_2.below C3
        have B3 := B2.step12 C3 B2.size
        clear D2 B2 Twas_2 O3 C3
        go_wp2_with fail
        refine (dread_is D3.at_ w2 rfl rfl).mono ?_
        rintro _ v4 ⟨xx, rfl, O4, C4⟩
        have Tx_4 := Told.own D3.at_ O4
        obtain ⟨ax, cx, rfl⟩ := owns_slice O4
        have D4 := D3.below C4
        have Twas_4 := Twas_3.below C4
        have Tnow_4 := Tnow_3.below C4
        have B4 := B3.step12 C4 B3.size
        clear D3 B3 Twas_3 Tnow_3 O4 C4
        go_wp2_with fail
        refine (same_is Twas_4.rd Tnow_4.rd (sameB_self _)).mono ?_
        rintro _ v5 ⟨rfl, nq5, hq5⟩
        have C5 : Below v4.heap.size v4 v5 := by rw [hq5]; exact (Below.refl _ _).drewN _
        have D5 := D4.below C5
        have Twas_5 := Twas_4.below C5
        have Tnow_5 := Tnow_4.below C5
        have Tx_5 := Tx_4.below C5
        have B5 := B4.step12 C5 B4.size
        clear D4 B4 Twas_4 Tnow_4 Tx_4 hq5 C5
        have KD := @ddead_any v5 db _ D5.at_.dead
        rw [edd] at KD
        go_wp2_with fail
        refine KD.mono ?_
        rintro _ uq ⟨rfl, hq⟩
        rw [hq]
        clear hq uq KD
        have FB : Hid (Below w.heap.size w v5) := b.trans (B5.mono N1)
        clear D5 B5 Twas_5 Tnow_5 Tx_5
        have q1 : (faX d a4 == faX d a4) = true := by simp
        clear eX eN edd R3 w1 ok hs w0 w2
        go_wp2
        go_ret
        exact ⟨rfl, FB.out⟩
      · rcases eX with eX | eX
        · have eN := wr_no (d := d) (a := a2) (b := P) (by rw [eX]; decide)
          go_wp2_with fail
          refine (dread_is D0.at_ w4 rfl rfl).mono ?_
          rintro _ v1 ⟨xwas, rfl, O1, C1⟩
          have Twas_1 := Told.own D0.at_ O1
          obtain ⟨awas, cwas, rfl⟩ := owns_slice O1
          have D1 := D0.below C1
          have B1 := B0.step12 C1 B0.size
          clear D0 B0  O1 C1
          go_wp2_with fail
          refine (dwrite_is D1.at_ w2 (R3.below B1) eX eN).mono ?_
          rintro _ v2 ⟨rfl, G2, A2, g2⟩
          have D2 : DkB v2 u1.heap.size db G2 (d) := D1.grew A2 g2
          have Twas_2 := Twas_1.grew g2
          have B2 := B1.trans (D1.bel g2)
          clear D1 B1 Twas_1 A2 g2
          go_wp2_with fail
          refine (dread_is D2.at_ w4 rfl rfl).mono ?_
          rintro _ v3 ⟨xnow, rfl, O3, C3⟩
          have Tnow_3 := Told.own D2.at_ O3
          obtain ⟨anow, cnow, rfl⟩ := owns_slice O3
          have D3 := D2.below C3
          have Twas_3 := Twas_2.below C3
          have B3 := B2.step12 C3 B2.size
          clear D2 B2 Twas_2 O3 C3
          go_wp2_with fail
          refine (dread_is D3.at_ w2 rfl rfl).mono ?_
          rintro _ v4 ⟨xx, rfl, O4, C4⟩
          have Tx_4 := Told.own D3.at_ O4
          obtain ⟨ax, cx, rfl⟩ := owns_slice O4
          have D4 := D3.below C4
          have Twas_4 := Twas_3.below C4
          have Tnow_4 := Tnow_3.below C4
          have B4 := B3.step12 C4 B3.size
          clear D3 B3 Twas_3 Tnow_3 O4 C4
          go_wp2_with fail
          refine (same_is Twas_4.rd Tnow_4.rd (sameB_self _)).mono ?_
          rintro _ v5 ⟨rfl, nq5, hq5⟩
          have C5 : Below v4.heap.size v4 v5 := by rw [hq5]; exact (Below.refl _ _).drewN _
          have D5 := D4.below C5
          have Twas_5 := Twas_4.below C5
          have Tnow_5 := Tnow_4.below C5
          have Tx_5 := Tx_4.below C5
          have B5 := B4.step12 C5 B4.size
          clear D4 B4 Twas_4 Tnow_4 Tx_4 hq5 C5
          have KD := @ddead_any v5 db _ D5.at_.dead
          rw [edd] at KD
          go_wp2_with fail
          refine KD.mono ?_
          rintro _ uq ⟨rfl, hq⟩
          rw [hq]
          clear hq uq KD
          have FB : Hid (Below w.heap.size w v5) := b.trans (B5.mono N1)
          clear D5 B5 Twas_5 Tnow_5 Tx_5
          have q1 : (faX d a4 == faX d a4) = true := by simp
          clear eX eN edd R3 w1 ok hs w0 w2
          go_wp2
          go_ret
          exact ⟨rfl, FB.out⟩
        · have eN := wr_no (d := d) (a := a2) (b := P) (by rw [eX]; decide)
          go_wp2_with fail
          refine (dread_is D0.at_ w4 rfl rfl).mono ?_
          rintro _ v1 ⟨xwas, rfl, O1, C1⟩
          have Twas_1 := Told.own D0.at_ O1
          obtain ⟨awas, cwas, rfl⟩ := owns_slice O1
          have D1 := D0.below C1
          have B1 := B0.step12 C1 B0.size
          clear D0 B0  O1 C1
          go_wp2_with fail
          refine (dwrite_is D1.at_ w2 (R3.below B1) eX eN).mono ?_
          rintro _ v2 ⟨rfl, G2, A2, g2⟩
          have D2 : DkB v2 u1.heap.size db G2 (d) := D1.grew A2 g2
          have Twas_2 := Twas_1.grew g2
          have B2 := B1.trans (D1.bel g2)
          clear D1 B1 Twas_1 A2 g2
          go_wp2_with fail
          refine (dread_is D2.at_ w4 rfl rfl).mono ?_
          rintro _ v3 ⟨xnow, rfl, O3, C3⟩
          have Tnow_3 := Told.own D2.at_ O3
          obtain ⟨anow, cnow, rfl⟩ := owns_slice O3
          have D3 := D2.below C3
          have Twas_3 := Twas_2.below C3
          have B3 := B2.step12 C3 B2.size
          clear D2 B2 Twas_2 O3 C3
          go_wp2_with fail
          refine (dread_is D3.at_ w2 rfl rfl).mono ?_
          rintro _ v4 ⟨xx, rfl, O4, C4⟩
          have Tx_4 := Told.own D3.at_ O4
          obtain ⟨ax, cx, rfl⟩ := owns_slice O4
          have D4 := D3.below C4
          have Twas_4 := Twas_3.below C4
          have Tnow_4 := Tnow_3.below C4
          have B4 := B3.step12 C4 B3.size
          clear D3 B3 Twas_3 Tnow_3 O4 C4
          go_wp2_with fail
          refine (same_is Twas_4.rd Tnow_4.rd (sameB_self _)).mono ?_
          rintro _ v5 ⟨rfl, nq5, hq5⟩
          have C5 : Below v4.heap.size v4 v5 := by rw [hq5]; exact (Below.refl _ _).drewN _
          have D5 := D4.below C5
          have Twas_5 := Twas_4.below C5
          have Tnow_5 := Tnow_4.below C5
          have Tx_5 := Tx_4.below C5
          have B5 := B4.step12 C5 B4.size
          clear D4 B4 Twas_4 Tnow_4 Tx_4 hq5 C5
          have KD := @ddead_any v5 db _ D5.at_.dead
          rw [edd] at KD
          go_wp2_with fail
          refine KD.mono ?_
          rintro _ uq ⟨rfl, hq⟩
          rw [hq]
          clear hq uq KD
          have FB : Hid (Below w.heap.size w v5) := b.trans (B5.mono N1)
          clear D5 B5 Twas_5 Tnow_5 Tx_5
          have q1 : (faX d a4 == faX d a4) = true := by simp
          clear eX eN edd R3 w1 ok hs w0 w2
          go_wp2
          go_ret
          exact ⟨rfl, FB.out⟩
    · have hk' : (P.length : Int) > 4200 := by omega
      go_enter Try.func7, Try.ntmps7
      go_wp2_with fail
      refine awake_any.mono ?_
      rintro e u1 ⟨rfl, b⟩
      replace w1 := w1.below b
      replace R3 := R3.below b
      have N1 := b.size
      go_wp2_with fail
      refine (done_any h1 h2 w1).mono ?_
      rintro _ v0 ⟨db, G0, rfl, A0, H0, B0⟩
      have D0 : DkB v0 u1.heap.size db G0 (runS (newD a0.toNat) (z1.take 60)) := ⟨A0, H0, B0.size⟩
      obtain ⟨d, hd⟩ : ∃ d, d = runS (newD a0.toNat) (z1.take 60) := ⟨_, rfl⟩
      have hs : Hid (d.s = a0.toNat) := by show d.s = _; rw [hd, runS_s]; rfl
      rw [← hd] at D0
      have ok : Hid d.Ok := D0.at_.ok
      clear A0 H0 hd
      have FB : Hid (Below w.heap.size w v0) := b.trans (B0.mono N1)
      clear D0 B0 
      go_wp2
      go_ret
      exact ⟨rfl, FB.out⟩
  · clear R3 w3
    go_enter Try.func7, Try.ntmps7
    go_wp2_with fail
    refine awake_any.mono ?_
    rintro e u1 ⟨rfl, b⟩
    replace w1 := w1.below b
    have N1 := b.size
    go_wp2_with fail
    refine (done_no hn w1).mono ?_
    rintro _ uq ⟨rfl, hq⟩
    rw [hq]
    clear hq uq
    have FB : Hid (Below w.heap.size w u1) := b
    go_wp2
    go_ret
    exact ⟨rfl, FB.out⟩

/-! ### THE ROW's STEP: WRITTEN OUT: LEAVE IT -/
set_option maxRecDepth 100000 in
theorem lifted (os : Os) (started : os.Started) (H : Type) (enc : TypeId × Value → H) :
    ReturnsInHanded {} Try.checked os 7 .any (Rows.diskReadsSpec.pre6 enc Try.prog Try.f7 Rows.diskReadsRow.domain false) (Rows.diskReadsSpec.post enc Try.prog Try.f7 false true false false) := by
  refine returnsInHanded_of_change (C := Try.checked) own started (by kernel_rfl) Try.func7
    (ChangeSpec.witness6 (enc := enc) (C := Try.checked) false ⟨#[], #[.int .i64 0, .slice none 0 0, .int .i64 0, .slice none 0 0, .int .i64 0], []⟩ 8 (by kernel_rfl) (by kernel_rfl) (by kernel_rfl) (by kernel_rfl)) ?_
  intro W base args ds gs before hval0 hW hcnd _
  have hval : ∀ (j : Nat) t v, Try.f7.params[j]? = some t → args[j]? = some v → Value.okWide Try.prog W .any base t v := hval0
  have hW' := hW
  obtain ⟨p, q, hA0, hV, rfl, hfz, hnd⟩ := hW
  have hA : DataW.TrodAll enc Try.prog W 0 (fun _ => true) true Try.f7.params.toList args.toList ds p := hA0
  rw [Try.params7] at hA hval
  obtain ⟨v0, vs0, d0, ds0, p0, q0, hargs, rfl, rfl, h0, r0⟩ := trodAll_cons hA
  obtain ⟨v1, vs1, d1, ds1, p1, q1, rfl, rfl, rfl, h1, r1⟩ := trodAll_cons r0
  obtain ⟨v2, vs2, d2, ds2, p2, q2, rfl, rfl, rfl, h2, r2⟩ := trodAll_cons r1
  obtain ⟨v3, vs3, d3, ds3, p3, q3, rfl, rfl, rfl, h3, r3⟩ := trodAll_cons r2
  obtain ⟨v4, vs4, d4, ds4, p4, q4, rfl, rfl, rfl, h4, r4⟩ := trodAll_cons r3
  obtain ⟨rfl, rfl, rfl⟩ := trodAll_nil r4
  obtain rfl : args = #[v0, v1, v2, v3, v4] := by cases args; simp_all
  obtain ⟨rfl, rfl⟩ := trodVars_none hV
  obtain ⟨a0, rfl, rfl, rfl, w0⟩ := open_int Try.underlying3 (hval 0 3 v0 rfl rfl) h0
  obtain ⟨a1, len1, cap1, rfl⟩ := okWide_slice Try.underlying23 (hval 1 23 v1 rfl rfl)
  have k1 := h1
  have lt1 : ∀ x ∈ p1, x.block < W.heap.size := by obtain ⟨m, hm⟩ := k1; exact DataW.trod_lt m _ _ _ hm
  obtain ⟨z1, w1⟩ : ∃ zs, RdC W (.slice a1 len1 cap1) zs := by
    obtain ⟨fuel, hf⟩ := h1
    obtain ⟨a9, l9, c9, L9, hcs, _, hR⟩ := open_calls (sb := 5) (si := 3) Try.underlying23 Try.underlying35 (by kernel_rfl) rfl rfl rfl rfl rfl rfl (by kernel_rfl) (by kernel_rfl) (by kernel_rfl) (by kernel_rfl) (by kernel_rfl) (by kernel_rfl) (by kernel_rfl) (by kernel_rfl) (by kernel_rfl) (by kernel_rfl) (by kernel_rfl) (by kernel_rfl) (by kernel_rfl) (by kernel_rfl) (by kernel_rfl) (by kernel_rfl) hf
    simp [Value.cells] at hcs
    obtain ⟨rfl, rfl, rfl⟩ := hcs
    exact ⟨L9, hR⟩
  obtain ⟨a2, rfl, rfl, rfl, w2⟩ := open_int Try.underlying3 (hval 2 3 v2 rfl rfl) h2
  obtain ⟨a3, len3, cap3, rfl⟩ := okWide_slice Try.underlying32 (hval 3 32 v3 rfl rfl)
  have k3 := h3
  have lt3 : ∀ x ∈ p3, x.block < W.heap.size := by obtain ⟨m, hm⟩ := k3; exact DataW.trod_lt m _ _ _ hm
  obtain ⟨z3, w3⟩ : ∃ zs, IsRow .u8 W a3 len3 cap3 zs := by
    obtain ⟨fuel, hf⟩ := h3
    rcases open_ints Try.underlying32 Try.underlying5 (by kernel_rfl) hf with ⟨hcs, _⟩ | ⟨x, l, c, zs, hcs, _, hl, hm, hz, _, hcell, hwz⟩
    · simp [Value.cells] at hcs
      obtain ⟨rfl, rfl, rfl⟩ := hcs
      exact ⟨[], .inl ⟨rfl, rfl, rfl, rfl⟩⟩
    · simp [Value.cells] at hcs
      obtain ⟨rfl, rfl, rfl⟩ := hcs
      exact ⟨zs, .inr ⟨_, rfl, hl, hm, by simpa using hz, hcell, hwz⟩⟩
  obtain ⟨a4, rfl, rfl, rfl, w4⟩ := open_int Try.underlying3 (hval 4 3 v4 rfl rfl) h4
  clear hA0 hval0
  refine (walk a0 a1 len1 cap1 z1 a2 a3 len3 cap3 z3 a4 W w0 w1 w2 w3 w4).mono fun e W' ⟨he, bel⟩ => ?_
  subst he
  exact ⟨_, rfl, _, _, _, [], _, [], hW', trodAll_mk1 (shut_bool Try.underlying4 _), (trodAll_cons_mk (shut_int Try.underlying3 w0) (trodAll_cons_mk (Below.trod laidOut (by kernel_rfl) (of_decide_eq_true (by kernel_rfl)) k1 bel lt1) (trodAll_cons_mk (shut_int Try.underlying3 w2) (trodAll_cons_mk (Below.trod laidOut (by kernel_rfl) (of_decide_eq_true (by kernel_rfl)) k3 bel lt3) (trodAll_cons_mk (shut_int Try.underlying3 w4) trodAll_mk0))))), rfl, bel.frame _, fun h => by cases h⟩

theorem over : Rows.diskReadsRow.holds Try.pinned (OpenSpec.ofChange Rows.diskReadsSpec) :=
  OpenClaim.holds_of_wide 7 Try.f7 rfl rfl rfl rfl rfl rfl rfl ⟨rfl, rfl, rfl, rfl, rfl⟩ rfl rfl rfl rfl rfl (by kernel_rfl) Try.func7 (by kernel_rfl)
    (of_decide_eq_true (by kernel_rfl)) (by unfold Func.isWrapper; first | (rw [if_pos (by decide +kernel)]; kernel_rfl) | (rw [if_neg (by decide +kernel)]; exact ⟨rfl, rfl⟩))
    (fun os started H enc _ => lifted os started H enc)

/-- ████ THE STATEMENT ████ -/
theorem proved : Rows.DiskReadsSaid := over
end Go.Proofs.Ytabcbmabimommaa.diskReads
namespace Go.Proofs.Ytabcbmabimommaa
theorem diskReads_holds : Rows.DiskReadsSaid := diskReads.proved
#print axioms diskReads_holds
end Go.Proofs.Ytabcbmabimommaa
