/- PROVED: for all numbers sectors and addr, every script of calls and every list b of bytes the call DiskDies(sectors, script, addr, b) returns true, and its arguments read behind it as before; no conditions. -/
import Derived.Test.YtabcbmabimommabRows
import Derived.Test.YtabcbmabimommabTome5
import Derived.WalkKit
import Derived.ProofKit
import Derived.OpenShut
import Derived.ShutString
import Derived.ChangeOld
import Derived.Below
namespace Go.Proofs.Ytabcbmabimommab.diskDies
open Go.ChangeShapes Go.WideShapes Go.ChangeAt Go.RowKit
open Go.ChangeMaps (open_string shut_string)
set_option linter.unusedVariables false

theorem own : ownKnob Try.prog.godebug = none := by kernel_rfl
theorem laidOut : laidOutB Try.prog = true := by kernel_rfl

/-- WHAT THE WALK IS TOLD OF A SLICE OF INTEGERS THAT CAME IN: it is nil; or it leads to a row of 'cap' cells, the numbers 'zs' (the first 'len' are its elements, the rest its spare room), each fitting its kind. -/
def IsRow (k : IntKind) (w : World) (a : Option Addr) (len cap : Nat) (zs : List Int) : Prop :=
  (a = none ∧ len = 0 ∧ cap = 0 ∧ zs = []) ∨
  ∃ x, a = some x ∧ len ≤ cap ∧ cap ≤ maxLen ∧ zs.length = cap ∧ (∀ i, i < zs.length → w.cell? (x.add i) = some (.int k (zs.getD i 0))) ∧ ∀ n ∈ zs, (Lit.int k n).wf = true

open Gf
set_option linter.unusedSimpArgs false
set_option maxRecDepth 100000 in
set_option maxHeartbeats 4000000 in
theorem walk (a0 : Int) (a1 : Option Addr) (len1 cap1 : Nat) (z1 : List CallR) (a2 : Int) (a3 : Option Addr) (len3 cap3 : Nat) (z3 : List Int) (w : World) (w0 : (Lit.int .i64 a0).wf = true) (w1 : RdC w (.slice a1 len1 cap1) z1) (w2 : (Lit.int .i64 a2).wf = true) (w3 : IsRow .u8 w a3 len3 cap3 z3) :
    Calls Try.prog 4 #[.int .i64 a0, .slice a1 len1 cap1, .int .i64 a2, .slice a3 len3 cap3] w fun e w' => e = .returned (.bool true) ∧ Below w.heap.size w w' := by
  obtain rfl := w1.lenEq
  obtain ⟨P, rfl, R3⟩ := rd_row w3
  by_cases hn : 1 ≤ a0 ∧ a0 ≤ 4096
  · obtain ⟨h1, h2⟩ := hn
    by_cases hk : 1 ≤ P.length ∧ P.length ≤ 4200 ∧ 0 ≤ a2 ∧ a2 < a0
    · obtain ⟨k1, k2, k3, k4⟩ := hk
      have zz1 : ¬ (P.length : Int) > 4200 := by omega
      have zz2 : ((P.length : Int) == 0) = false := beq_eq_false_iff_ne.2 (by omega)
      have zz3 : ¬ a2 < 0 := by omega
      have zz4 : ¬ a2 ≥ a0 := by omega
      by_cases hb : P.length ≤ 4108
      · have eb : OkB P := ⟨k1, hb⟩
        have zz5 : decide ((P.length : Int) ≤ 4108) = true := decide_eq_true (by omega)
        go_enter Try.func4, Try.ntmps4
        go_wp2_with fail
        refine awake_any.mono ?_
        rintro e u1 ⟨rfl, b⟩
        replace w1 := w1.below b
        replace R3 := R3.below b
        have N1 := b.size
        go_wp2_with fail
        refine (done_any h1 h2 w1).mono ?_
        rintro _ v0 ⟨db, G0, rfl, A0, H0, B0⟩
        have D0 : DkB v0 u1.heap.size db G0 (runS (newD a0.toNat) (z1.take 60)) := ⟨A0, H0, B0.size⟩
        obtain ⟨d, hd⟩ : ∃ d, d = runS (newD a0.toNat) (z1.take 60) := ⟨_, rfl⟩
        have hs : Hid (d.s = a0.toNat) := by show d.s = _; rw [hd, runS_s]; rfl
        rw [← hd] at D0
        have ok : Hid d.Ok := D0.at_.ok
        clear A0 H0 hd
        have ia : 0 ≤ a2 ∧ a2 < (d.s : Int) := by rw [hs.out]; omega
        have eI : wrX (reS (faS d)) a2 P = 0 := by rw [re_wr ia]; exact if_pos eb
        go_wp2_with fail
        refine (dfail_any D0.at_).mono ?_
        rintro _ v1 ⟨rfl, G1, A1, g1⟩
        have D1 : DkB v1 u1.heap.size db G1 (faS d) := D0.grew A1 g1
        have B1 := B0.trans (D0.bel g1)
        clear D0 B0  A1 g1
        go_wp2_with fail
        have D1a := fun o => D1.below (belA v1 o)
        have B1a := fun o => B1.step12 (belA v1 o) B1.size
        refine (dcrash_is (D1a _).at_ (rdI_lit2 [a2] rfl rfl rfl (by simp)) (by intro z hz; simp at hz; subst hz; exact w2) (D1.apartNew 1 1) (by simp) (fa_cr d [a2])).mono ?_
        rintro _ v2 ⟨rfl, G2, A2, g2⟩
        have D2 : DkB v2 u1.heap.size db G2 (faS d) := (D1a _).grew A2 g2
        have B2 := (B1a _).trans ((D1a _).bel g2)
        clear D1 B1 D1a B1a A2 g2
        go_wp2_with fail
        refine (dread_is D2.at_ w2 (fa_read d a2) (fa_rd d a2)).mono ?_
        rintro _ v3 ⟨xx, rfl, O3, C3⟩
        have Tx_3 := Told.own D2.at_ O3
        obtain ⟨ax, cx, rfl⟩ := owns_slice O3
        have D3 := D2.below C3
        have B3 := B2.step12 C3 B2.size
        clear D2 B2  O3 C3
        go_wp2_with fail
        refine (dwrite_is D3.at_ w2 (R3.below B3) (fa_wr d a2 P) (fa_wrS d a2 P)).mono ?_
        rintro _ v4 ⟨rfl, G4, A4, g4⟩
        have D4 : DkB v4 u1.heap.size db G4 (faS d) := D3.grew A4 g4
        have Tx_4 := Tx_3.grew g4
        have B4 := B3.trans (D3.bel g4)
        clear D3 B3 Tx_3 A4 g4
        go_wp2_with fail
        refine (dflush_is D4.at_ (fa_fl d) (fa_flS d)).mono ?_
        rintro _ v5 ⟨rfl, G5, A5, g5⟩
        have D5 : DkB v5 u1.heap.size db G5 (faS d) := D4.grew A5 g5
        have Tx_5 := Tx_4.grew g5
        have B5 := B4.trans (D4.bel g5)
        clear D4 B4 Tx_4 A5 g5
        have KD := @ddead_any v5 db true D5.at_.dead
        go_wp2_with fail
        refine KD.mono ?_
        rintro _ uq ⟨rfl, hq⟩
        rw [hq]
        clear hq uq KD
        go_wp2_with fail
        refine (drepl_any D5.at_).mono ?_
        rintro _ v6 ⟨rfl, G6, A6, g6⟩
        have D6 : DkB v6 u1.heap.size db G6 (reS (faS d)) := D5.grew A6 g6
        have Tx_6 := Tx_5.grew g6
        have B6 := B5.trans (D5.bel g6)
        clear D5 B5 Tx_5 A6 g6
        go_wp2_with fail
        refine (dread_is D6.at_ w2 (re_read ia) (re_rd ia)).mono ?_
        rintro _ v7 ⟨xy, rfl, O7, C7⟩
        have Ty_7 := Told.own D6.at_ O7
        obtain ⟨ay, cy, rfl⟩ := owns_slice O7
        have D7 := D6.below C7
        have Tx_7 := Tx_6.below C7
        have B7 := B6.step12 C7 B6.size
        clear D6 B6 Tx_6 O7 C7
        go_wp2_with fail
        refine (dwrite_is D7.at_ w2 (R3.below B7) eI rfl).mono ?_
        rintro _ v8 ⟨rfl, G8, A8, g8⟩
        have D8 : DkB v8 u1.heap.size db G8 (wrS (reS (faS d)) a2 P) := D7.grew A8 g8
        have Tx_8 := Tx_7.grew g8
        have Ty_8 := Ty_7.grew g8
        have B8 := B7.trans (D7.bel g8)
        clear D7 B7 Tx_7 Ty_7 A8 g8
        go_wp2_with fail
        refine (dlasts_any D8.at_).mono ?_
        rintro _ v9 ⟨xl, rfl, O9, C9⟩
        rw [re_last, heldL_none] at O9
        obtain ⟨al, cl, rfl⟩ := O9.none rfl
        have D9 := D8.below C9
        have Tx_9 := Tx_8.below C9
        have Ty_9 := Ty_8.below C9
        have B9 := B8.step12 C9 B8.size
        clear D8 B8 Tx_8 Ty_8 O9 C9
        have KD := @ddead_any v9 db _ D9.at_.dead
        rw [re_dead] at KD
        go_wp2_with fail
        refine KD.mono ?_
        rintro _ uq ⟨rfl, hq⟩
        rw [hq]
        clear hq uq KD
        have FB : Hid (Below w.heap.size w v9) := b.trans (B9.mono N1)
        clear D9 B9 Tx_9 Ty_9
        clear R3 w1 ok hs eI eb ia
        go_wp2
        go_ret
        exact ⟨rfl, FB.out⟩
      · have eb : ¬ OkB P := fun h => hb h.2
        have zz5 : decide ((P.length : Int) ≤ 4108) = false := decide_eq_false (by omega)
        go_enter Try.func4, Try.ntmps4
        go_wp2_with fail
        refine awake_any.mono ?_
        rintro e u1 ⟨rfl, b⟩
        replace w1 := w1.below b
        replace R3 := R3.below b
        have N1 := b.size
        go_wp2_with fail
        refine (done_any h1 h2 w1).mono ?_
        rintro _ v0 ⟨db, G0, rfl, A0, H0, B0⟩
        have D0 : DkB v0 u1.heap.size db G0 (runS (newD a0.toNat) (z1.take 60)) := ⟨A0, H0, B0.size⟩
        obtain ⟨d, hd⟩ : ∃ d, d = runS (newD a0.toNat) (z1.take 60) := ⟨_, rfl⟩
        have hs : Hid (d.s = a0.toNat) := by show d.s = _; rw [hd, runS_s]; rfl
        rw [← hd] at D0
        have ok : Hid d.Ok := D0.at_.ok
        clear A0 H0 hd
        have ia : 0 ≤ a2 ∧ a2 < (d.s : Int) := by rw [hs.out]; omega
        have eI : wrX (reS (faS d)) a2 P = 1 := by rw [re_wr ia]; exact if_neg eb
        go_wp2_with fail
        refine (dfail_any D0.at_).mono ?_
        rintro _ v1 ⟨rfl, G1, A1, g1⟩
        have D1 : DkB v1 u1.heap.size db G1 (faS d) := D0.grew A1 g1
        have B1 := B0.trans (D0.bel g1)
        clear D0 B0  A1 g1
        go_wp2_with fail
        have D1a := fun o => D1.below (belA v1 o)
        have B1a := fun o => B1.step12 (belA v1 o) B1.size
        refine (dcrash_is (D1a _).at_ (rdI_lit2 [a2] rfl rfl rfl (by simp)) (by intro z hz; simp at hz; subst hz; exact w2) (D1.apartNew 1 1) (by simp) (fa_cr d [a2])).mono ?_
        rintro _ v2 ⟨rfl, G2, A2, g2⟩
        have D2 : DkB v2 u1.heap.size db G2 (faS d) := (D1a _).grew A2 g2
        have B2 := (B1a _).trans ((D1a _).bel g2)
        clear D1 B1 D1a B1a A2 g2
        go_wp2_with fail
        refine (dread_is D2.at_ w2 (fa_read d a2) (fa_rd d a2)).mono ?_
        rintro _ v3 ⟨xx, rfl, O3, C3⟩
        have Tx_3 := Told.own D2.at_ O3
        obtain ⟨ax, cx, rfl⟩ := owns_slice O3
        have D3 := D2.below C3
        have B3 := B2.step12 C3 B2.size
        clear D2 B2  O3 C3
        go_wp2_with fail
        refine (dwrite_is D3.at_ w2 (R3.below B3) (fa_wr d a2 P) (fa_wrS d a2 P)).mono ?_
        rintro _ v4 ⟨rfl, G4, A4, g4⟩
        have D4 : DkB v4 u1.heap.size db G4 (faS d) := D3.grew A4 g4
        have Tx_4 := Tx_3.grew g4
        have B4 := B3.trans (D3.bel g4)
        clear D3 B3 Tx_3 A4 g4
        go_wp2_with fail
        refine (dflush_is D4.at_ (fa_fl d) (fa_flS d)).mono ?_
        rintro _ v5 ⟨rfl, G5, A5, g5⟩
        have D5 : DkB v5 u1.heap.size db G5 (faS d) := D4.grew A5 g5
        have Tx_5 := Tx_4.grew g5
        have B5 := B4.trans (D4.bel g5)
        clear D4 B4 Tx_4 A5 g5
        have KD := @ddead_any v5 db true D5.at_.dead
        go_wp2_with fail
        refine KD.mono ?_
        rintro _ uq ⟨rfl, hq⟩
        rw [hq]
        clear hq uq KD
        go_wp2_with fail
        refine (drepl_any D5.at_).mono ?_
        rintro _ v6 ⟨rfl, G6, A6, g6⟩
        have D6 : DkB v6 u1.heap.size db G6 (reS (faS d)) := D5.grew A6 g6
        have Tx_6 := Tx_5.grew g6
        have B6 := B5.trans (D5.bel g6)
        clear D5 B5 Tx_5 A6 g6
        go_wp2_with fail
        refine (dread_is D6.at_ w2 (re_read ia) (re_rd ia)).mono ?_
        rintro _ v7 ⟨xy, rfl, O7, C7⟩
        have Ty_7 := Told.own D6.at_ O7
        obtain ⟨ay, cy, rfl⟩ := owns_slice O7
        have D7 := D6.below C7
        have Tx_7 := Tx_6.below C7
        have B7 := B6.step12 C7 B6.size
        clear D6 B6 Tx_6 O7 C7
        go_wp2_with fail
        refine (dwrite_is D7.at_ w2 (R3.below B7) eI rfl).mono ?_
        rintro _ v8 ⟨rfl, G8, A8, g8⟩
        have D8 : DkB v8 u1.heap.size db G8 (wrS (reS (faS d)) a2 P) := D7.grew A8 g8
        have Tx_8 := Tx_7.grew g8
        have Ty_8 := Ty_7.grew g8
        have B8 := B7.trans (D7.bel g8)
        clear D7 B7 Tx_7 Ty_7 A8 g8
        go_wp2_with fail
        refine (dlasts_any D8.at_).mono ?_
        rintro _ v9 ⟨xl, rfl, O9, C9⟩
        rw [re_last, heldL_none] at O9
        obtain ⟨al, cl, rfl⟩ := O9.none rfl
        have D9 := D8.below C9
        have Tx_9 := Tx_8.below C9
        have Ty_9 := Ty_8.below C9
        have B9 := B8.step12 C9 B8.size
        clear D8 B8 Tx_8 Ty_8 O9 C9
        have KD := @ddead_any v9 db _ D9.at_.dead
        rw [re_dead] at KD
        go_wp2_with fail
        refine KD.mono ?_
        rintro _ uq ⟨rfl, hq⟩
        rw [hq]
        clear hq uq KD
        have FB : Hid (Below w.heap.size w v9) := b.trans (B9.mono N1)
        clear D9 B9 Tx_9 Ty_9
        clear R3 w1 ok hs eI eb ia
        go_wp2
        go_ret
        exact ⟨rfl, FB.out⟩
    · by_cases y1 : P.length ≤ 4200
      · have zz1 : ¬ (P.length : Int) > 4200 := by omega
        by_cases y2 : P.length = 0
        · have zz2 : ((P.length : Int) == 0) = true := by rw [y2]; rfl
          go_enter Try.func4, Try.ntmps4
          go_wp2_with fail
          refine awake_any.mono ?_
          rintro e u1 ⟨rfl, b⟩
          replace w1 := w1.below b
          replace R3 := R3.below b
          have N1 := b.size
          go_wp2_with fail
          refine (done_any h1 h2 w1).mono ?_
          rintro _ v0 ⟨db, G0, rfl, A0, H0, B0⟩
          have D0 : DkB v0 u1.heap.size db G0 (runS (newD a0.toNat) (z1.take 60)) := ⟨A0, H0, B0.size⟩
          obtain ⟨d, hd⟩ : ∃ d, d = runS (newD a0.toNat) (z1.take 60) := ⟨_, rfl⟩
          have hs : Hid (d.s = a0.toNat) := by show d.s = _; rw [hd, runS_s]; rfl
          rw [← hd] at D0
          have ok : Hid d.Ok := D0.at_.ok
          clear A0 H0 hd
          have FB : Hid (Below w.heap.size w v0) := b.trans (B0.mono N1)
          clear D0 B0 
          clear R3 w1 ok hs
          go_wp2
          go_ret
          exact ⟨rfl, FB.out⟩
        · have zz2 : ((P.length : Int) == 0) = false := beq_eq_false_iff_ne.2 (by omega)
          by_cases y3 : a2 < 0
          · have zz3 := y3
            go_enter Try.func4, Try.ntmps4
            go_wp2_with fail
            refine awake_any.mono ?_
            rintro e u1 ⟨rfl, b⟩
            replace w1 := w1.below b
            replace R3 := R3.below b
            have N1 := b.size
            go_wp2_with fail
            refine (done_any h1 h2 w1).mono ?_
            rintro _ v0 ⟨db, G0, rfl, A0, H0, B0⟩
            have D0 : DkB v0 u1.heap.size db G0 (runS (newD a0.toNat) (z1.take 60)) := ⟨A0, H0, B0.size⟩
            obtain ⟨d, hd⟩ : ∃ d, d = runS (newD a0.toNat) (z1.take 60) := ⟨_, rfl⟩
            have hs : Hid (d.s = a0.toNat) := by show d.s = _; rw [hd, runS_s]; rfl
            rw [← hd] at D0
            have ok : Hid d.Ok := D0.at_.ok
            clear A0 H0 hd
            have FB : Hid (Below w.heap.size w v0) := b.trans (B0.mono N1)
            clear D0 B0 
            clear R3 w1 ok hs
            go_wp2
            go_ret
            exact ⟨rfl, FB.out⟩
          · have zz4 : a2 ≥ a0 := by omega
            go_enter Try.func4, Try.ntmps4
            go_wp2_with fail
            refine awake_any.mono ?_
            rintro e u1 ⟨rfl, b⟩
            replace w1 := w1.below b
            replace R3 := R3.below b
            have N1 := b.size
            go_wp2_with fail
            refine (done_any h1 h2 w1).mono ?_
            rintro _ v0 ⟨db, G0, rfl, A0, H0, B0⟩
            have D0 : DkB v0 u1.heap.size db G0 (runS (newD a0.toNat) (z1.take 60)) := ⟨A0, H0, B0.size⟩
            obtain ⟨d, hd⟩ : ∃ d, d = runS (newD a0.toNat) (z1.take 60) := ⟨_, rfl⟩
            have hs : Hid (d.s = a0.toNat) := by show d.s = _; rw [hd, runS_s]; rfl
            rw [← hd] at D0
            have ok : Hid d.Ok := D0.at_.ok
            clear A0 H0 hd
            have FB : Hid (Below w.heap.size w v0) := b.trans (B0.mono N1)
            clear D0 B0 
            clear R3 w1 ok hs
            go_wp2
            go_ret
            exact ⟨rfl, FB.out⟩
      · have zz1 : (P.length : Int) > 4200 := by omega
        go_enter Try.func4, Try.ntmps4
        go_wp2_with fail
        refine awake_any.mono ?_
        rintro e u1 ⟨rfl, b⟩
        replace w1 := w1.below b
        replace R3 := R3.below b
        have N1 := b.size
        go_wp2_with fail
        refine (done_any h1 h2 w1).mono ?_
        rintro _ v0 ⟨db, G0, rfl, A0, H0, B0⟩
        have D0 : DkB v0 u1.heap.size db G0 (runS (newD a0.toNat) (z1.take 60)) := ⟨A0, H0, B0.size⟩
        obtain ⟨d, hd⟩ : ∃ d, d = runS (newD a0.toNat) (z1.take 60) := ⟨_, rfl⟩
        have hs : Hid (d.s = a0.toNat) := by show d.s = _; rw [hd, runS_s]; rfl
        rw [← hd] at D0
        have ok : Hid d.Ok := D0.at_.ok
        clear A0 H0 hd
        have FB : Hid (Below w.heap.size w v0) := b.trans (B0.mono N1)
        clear D0 B0 
        clear R3 w1 ok hs
        go_wp2
        go_ret
        exact ⟨rfl, FB.out⟩
  · clear R3 w3
    go_enter Try.func4, Try.ntmps4
    go_wp2_with fail
    refine awake_any.mono ?_
    rintro e u1 ⟨rfl, b⟩
    replace w1 := w1.below b
    have N1 := b.size
    go_wp2_with fail
    refine (done_no hn w1).mono ?_
    rintro _ uq ⟨rfl, hq⟩
    rw [hq]
    clear hq uq
    have FB : Hid (Below w.heap.size w u1) := b
    go_wp2
    go_ret
    exact ⟨rfl, FB.out⟩

/-! ### THE ROW's STEP: WRITTEN OUT: LEAVE IT -/
set_option maxRecDepth 100000 in
theorem lifted (os : Os) (started : os.Started) (H : Type) (enc : TypeId × Value → H) :
    ReturnsInHanded {} Try.checked os 4 .any (Rows.diskDiesSpec.pre6 enc Try.prog Try.f4 Rows.diskDiesRow.domain false) (Rows.diskDiesSpec.post enc Try.prog Try.f4 false true false false) := by
  refine returnsInHanded_of_change (C := Try.checked) own started (by kernel_rfl) Try.func4
    (ChangeSpec.witness6 (enc := enc) (C := Try.checked) false ⟨#[], #[.int .i64 0, .slice none 0 0, .int .i64 0, .slice none 0 0], []⟩ 8 (by kernel_rfl) (by kernel_rfl) (by kernel_rfl) (by kernel_rfl)) ?_
  intro W base args ds gs before hval0 hW hcnd _
  have hval : ∀ (j : Nat) t v, Try.f4.params[j]? = some t → args[j]? = some v → Value.okWide Try.prog W .any base t v := hval0
  have hW' := hW
  obtain ⟨p, q, hA0, hV, rfl, hfz, hnd⟩ := hW
  have hA : DataW.TrodAll enc Try.prog W 0 (fun _ => true) true Try.f4.params.toList args.toList ds p := hA0
  rw [Try.params4] at hA hval
  obtain ⟨v0, vs0, d0, ds0, p0, q0, hargs, rfl, rfl, h0, r0⟩ := trodAll_cons hA
  obtain ⟨v1, vs1, d1, ds1, p1, q1, rfl, rfl, rfl, h1, r1⟩ := trodAll_cons r0
  obtain ⟨v2, vs2, d2, ds2, p2, q2, rfl, rfl, rfl, h2, r2⟩ := trodAll_cons r1
  obtain ⟨v3, vs3, d3, ds3, p3, q3, rfl, rfl, rfl, h3, r3⟩ := trodAll_cons r2
  obtain ⟨rfl, rfl, rfl⟩ := trodAll_nil r3
  obtain rfl : args = #[v0, v1, v2, v3] := by cases args; simp_all
  obtain ⟨rfl, rfl⟩ := trodVars_none hV
  obtain ⟨a0, rfl, rfl, rfl, w0⟩ := open_int Try.underlying3 (hval 0 3 v0 rfl rfl) h0
  obtain ⟨a1, len1, cap1, rfl⟩ := okWide_slice Try.underlying35 (hval 1 35 v1 rfl rfl)
  have k1 := h1
  have lt1 : ∀ x ∈ p1, x.block < W.heap.size := by obtain ⟨m, hm⟩ := k1; exact DataW.trod_lt m _ _ _ hm
  obtain ⟨z1, w1⟩ : ∃ zs, RdC W (.slice a1 len1 cap1) zs := by
    obtain ⟨fuel, hf⟩ := h1
    obtain ⟨a9, l9, c9, L9, hcs, _, hR⟩ := open_calls (sb := 5) (si := 3) Try.underlying35 Try.underlying50 (by kernel_rfl) rfl rfl rfl rfl rfl rfl (by kernel_rfl) (by kernel_rfl) (by kernel_rfl) (by kernel_rfl) (by kernel_rfl) (by kernel_rfl) (by kernel_rfl) (by kernel_rfl) (by kernel_rfl) (by kernel_rfl) (by kernel_rfl) (by kernel_rfl) (by kernel_rfl) (by kernel_rfl) (by kernel_rfl) (by kernel_rfl) hf
    simp [Value.cells] at hcs
    obtain ⟨rfl, rfl, rfl⟩ := hcs
    exact ⟨L9, hR⟩
  obtain ⟨a2, rfl, rfl, rfl, w2⟩ := open_int Try.underlying3 (hval 2 3 v2 rfl rfl) h2
  obtain ⟨a3, len3, cap3, rfl⟩ := okWide_slice Try.underlying22 (hval 3 22 v3 rfl rfl)
  have k3 := h3
  have lt3 : ∀ x ∈ p3, x.block < W.heap.size := by obtain ⟨m, hm⟩ := k3; exact DataW.trod_lt m _ _ _ hm
  obtain ⟨z3, w3⟩ : ∃ zs, IsRow .u8 W a3 len3 cap3 zs := by
    obtain ⟨fuel, hf⟩ := h3
    rcases open_ints Try.underlying22 Try.underlying5 (by kernel_rfl) hf with ⟨hcs, _⟩ | ⟨x, l, c, zs, hcs, _, hl, hm, hz, _, hcell, hwz⟩
    · simp [Value.cells] at hcs
      obtain ⟨rfl, rfl, rfl⟩ := hcs
      exact ⟨[], .inl ⟨rfl, rfl, rfl, rfl⟩⟩
    · simp [Value.cells] at hcs
      obtain ⟨rfl, rfl, rfl⟩ := hcs
      exact ⟨zs, .inr ⟨_, rfl, hl, hm, by simpa using hz, hcell, hwz⟩⟩
  clear hA0 hval0
  refine (walk a0 a1 len1 cap1 z1 a2 a3 len3 cap3 z3 W w0 w1 w2 w3).mono fun e W' ⟨he, bel⟩ => ?_
  subst he
  exact ⟨_, rfl, _, _, _, [], _, [], hW', trodAll_mk1 (shut_bool Try.underlying4 _), (trodAll_cons_mk (shut_int Try.underlying3 w0) (trodAll_cons_mk (Below.trod laidOut (by kernel_rfl) (of_decide_eq_true (by kernel_rfl)) k1 bel lt1) (trodAll_cons_mk (shut_int Try.underlying3 w2) (trodAll_cons_mk (Below.trod laidOut (by kernel_rfl) (of_decide_eq_true (by kernel_rfl)) k3 bel lt3) trodAll_mk0)))), rfl, bel.frame _, fun h => by cases h⟩

theorem over : Rows.diskDiesRow.holds Try.pinned (OpenSpec.ofChange Rows.diskDiesSpec) :=
  OpenClaim.holds_of_wide 4 Try.f4 rfl rfl rfl rfl rfl rfl rfl ⟨rfl, rfl, rfl, rfl, rfl⟩ rfl rfl rfl rfl rfl (by kernel_rfl) Try.func4 (by kernel_rfl)
    (of_decide_eq_true (by kernel_rfl)) (by unfold Func.isWrapper; first | (rw [if_pos (by decide +kernel)]; kernel_rfl) | (rw [if_neg (by decide +kernel)]; exact ⟨rfl, rfl⟩))
    (fun os started H enc _ => lifted os started H enc)

/-- ████ THE STATEMENT ████ -/
theorem proved : Rows.DiskDiesSaid := over
end Go.Proofs.Ytabcbmabimommab.diskDies
namespace Go.Proofs.Ytabcbmabimommab
theorem diskDies_holds : Rows.DiskDiesSaid := diskDies.proved
#print axioms diskDies_holds
end Go.Proofs.Ytabcbmabimommab
