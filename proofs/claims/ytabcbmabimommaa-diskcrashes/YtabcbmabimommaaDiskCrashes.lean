/- PROVED: for every number sectors, every script of calls and every list keep of numbers the call DiskCrashes(sectors, script, keep) returns true, and its arguments read behind it as before; no conditions. -/
import Derived.Test.YtabcbmabimommaaRows
import Derived.Test.YtabcbmabimommaaTome6
import Derived.WalkKit
import Derived.ProofKit
import Derived.OpenShut
import Derived.ShutString
import Derived.ChangeOld
import Derived.Below
namespace Go.Proofs.Ytabcbmabimommaa.diskCrashes
open Go.ChangeShapes Go.WideShapes Go.ChangeAt Go.RowKit
open Go.ChangeMaps (open_string shut_string)
set_option linter.unusedVariables false

theorem own : ownKnob Try.prog.godebug = none := by kernel_rfl
theorem laidOut : laidOutB Try.prog = true := by kernel_rfl

/-- WHAT THE WALK IS TOLD OF A SLICE OF INTEGERS THAT CAME IN: it is nil; or it leads to a row of 'cap' cells, the numbers 'zs' (the first 'len' are its elements, the rest its spare room), each fitting its kind. -/
def IsRow (k : IntKind) (w : World) (a : Option Addr) (len cap : Nat) (zs : List Int) : Prop :=
  (a = none ∧ len = 0 ∧ cap = 0 ∧ zs = []) ∨
  ∃ x, a = some x ∧ len ≤ cap ∧ cap ≤ maxLen ∧ zs.length = cap ∧ (∀ i, i < zs.length → w.cell? (x.add i) = some (.int k (zs.getD i 0))) ∧ ∀ n ∈ zs, (Lit.int k n).wf = true

open Gf
set_option linter.unusedSimpArgs false
set_option maxRecDepth 100000 in
set_option maxHeartbeats 4000000 in
theorem walk (a0 : Int) (a1 : Option Addr) (len1 cap1 : Nat) (z1 : List CallR) (a2 : Option Addr) (len2 cap2 : Nat) (z2 : List Int) (w : World) (w0 : (Lit.int .i64 a0).wf = true) (w1 : RdC w (.slice a1 len1 cap1) z1) (w2 : IsRow .i64 w a2 len2 cap2 z2) :
    Calls Try.prog 6 #[.int .i64 a0, .slice a1 len1 cap1, .slice a2 len2 cap2] w fun e w' => e = .returned (.bool true) ∧ Below w.heap.size w w' := by
  obtain rfl := w1.lenEq
  obtain ⟨K, RK, WK⟩ := rdI_row2 w2
  obtain ⟨_, _, eK⟩ := RK.form
  obtain rfl : len2 = K.length := by simp at eK; exact eK.2.1
  clear eK w2
  by_cases hn : 1 ≤ a0 ∧ a0 ≤ 4096
  · obtain ⟨h1, h2⟩ := hn
    by_cases hk : K.length ≤ 200
    · have hk' : ¬ (K.length : Int) > 200 := by omega
      by_cases h100 : a0 ≤ 100
      · have h100' : ¬ a0 > 100 := by omega
        go_enter Try.func6, Try.ntmps6
        go_wp2_with fail
        refine awake_any.mono ?_
        rintro e u1 ⟨rfl, b⟩
        replace w1 := w1.below b
        replace RK := RK.below b
        have N1 := b.size
        go_wp2_with fail
        refine (done_any h1 h2 w1).mono ?_
        rintro _ v0 ⟨db, G0, rfl, A0, H0, B0⟩
        have D0 : DkB v0 u1.heap.size db G0 (runS (newD a0.toNat) (z1.take 60)) := ⟨A0, H0, B0.size⟩
        obtain ⟨d, hd⟩ : ∃ d, d = runS (newD a0.toNat) (z1.take 60) := ⟨_, rfl⟩
        have hs : Hid (d.s = a0.toNat) := by show d.s = _; rw [hd, runS_s]; rfl
        rw [← hd] at D0
        have ok : Hid d.Ok := D0.at_.ok
        clear A0 H0 hd
        go_wp2_with fail
        refine (dlasts_any D0.at_).mono ?_
        rintro _ v1 ⟨xl, rfl, O1, C1⟩
        have Tl_1 := ToldH.own D0.at_ O1 (Nat.le_trans (heldL_length _ _) (by have := D0.at_.ok.s2; omega))
        have D1 := D0.below C1
        have B1 := B0.step12 C1 B0.size
        clear D0 B0  O1 C1
        go_wp2_with fail
        refine (dwaits_any D1.at_).mono ?_
        rintro _ v2 ⟨xw, rfl, O2, C2⟩
        have Tw_2 := ToldH.own D1.at_ O2 (Nat.le_trans (heldL_length _ _) (by have := D1.at_.ok.s2; omega))
        have D2 := D1.below C2
        have Tl_2 := Tl_1.below C2
        have B2 := B1.step12 C2 B1.size
        clear D1 B1 Tl_1 O2 C2
        go_wp2_with fail
        refine (dcrash_any D2.at_ (RK.below B2) WK (apart_old D2 RK) (by omega)).mono ?_
        rintro _ v3 ⟨rfl, G3, A3, g3⟩
        have D3 : DkB v3 u1.heap.size db G3 (crS d K) := D2.grew A3 g3
        have Tl_3 := Tl_2.grew g3
        have Tw_3 := Tw_2.grew g3
        have B3 := B2.trans (D2.bel g3)
        clear D2 B2 Tl_2 Tw_2 A3 g3
        go_wp2_with fail
        refine (dlasts_any D3.at_).mono ?_
        rintro _ v4 ⟨xn, rfl, O4, C4⟩
        have Tn_4 := ToldH.own D3.at_ O4 (Nat.le_trans (heldL_length _ _) (by have := D3.at_.ok.s2; omega))
        have D4 := D3.below C4
        have Tl_4 := Tl_3.below C4
        have Tw_4 := Tw_3.below C4
        have B4 := B3.step12 C4 B3.size
        clear D3 B3 Tl_3 Tw_3 O4 C4
        have IL : Hid (∀ x, lookL (heldL d.last d.s) x = d.last x) := fun x => lookL_held ok.out.il x
        have IW : Hid (∀ x, lookL (heldL d.wait d.s) x = d.wait x) := fun x => lookL_held ok.out.iw x
        have IN : Hid (∀ x, lookL (heldL (crS d K).last d.s) x = overB (onlyB d.wait K) d.last x) := fun x => lookL_held (crS_ok ok.out K).il x
        have a0n : Hid (a0 = ((a0.toNat : Nat) : Int)) := by show _ = _; omega
        have START : Hid (CrI u1 v4 db G3 d (crS d K) xl xw xn) := ⟨D4, Tl_4, Tw_4, Tn_4, B4⟩
        clear D4 Tl_4 Tw_4 Tn_4 B4 w1 ok hs w0
        go_wp2
        go_loopw [12] (fun i wr => ∃ k : Nat, (k : Int) ≤ a0 ∧ i = .int .i64 (k : Int) ∧ CrI u1 wr db G3 d (crS d K) xl xw xn) (fun i _ => a0.toNat - (intOf i).toNat)
        case atStart => exact ⟨0, by omega, rfl, START.out⟩
        case round =>
          obtain ⟨k, hka, rfl, hI⟩ := hrel
          clear START
          by_cases hlt : (k : Int) < a0
          · have g1 : IntKind.i64.wrap ((k : Int) + 1) = ((k + 1 : Nat) : Int) := by rw [IntKind.wrap_i64]; omega
            obtain ⟨wo, hwo⟩ : ∃ x, x = wr := ⟨wr, rfl⟩
            subst hwo
            have RKr := RK.below hI.B
            have hcell : Hid (∀ j, j < K.length → ∃ bk ok, a2 = some ⟨bk, ok, none⟩ ∧ wo.cell? ⟨bk, ok + j, none⟩ = some (.int .i64 (K.getD j 0))) := by
              intro j hj
              rcases RKr with ⟨_, _, h3, _⟩ | ⟨bk, o, c, h3, h4, _, _, h6⟩
              · rw [h3] at hj; simp at hj
              · simp at h4
                exact ⟨bk, o, h4.1, h6 j hj⟩
            clear RKr
            go_wp2
            go_loopw [13, 14] (fun kp i wx => ∃ j : Nat, j ≤ K.length ∧ i = .int .i64 (j : Int) ∧ kp = .bool (decide ((k : Int) ∈ K.take j)) ∧ Hid (wx = wo)) (fun _ i _ => K.length - (intOf i).toNat)
            case atStart => exact ⟨0, Nat.zero_le _, rfl, by simp, rfl⟩
            case round =>
              obtain ⟨j, hj, rfl, rfl, hwx⟩ := hrel
              by_cases hjl : j < K.length
              · have hjl' : (j : Int) < (K.length : Int) := by omega
                have g2 : IntKind.i64.wrap ((j : Int) + 1) = ((j + 1 : Nat) : Int) := by rw [IntKind.wrap_i64]; omega
                obtain ⟨bk, ok, rfl, cj⟩ := hcell.out j hjl
                rw [← hwx.out] at cj
                have M := mem_take hjl (k : Int)
                have HM : Hid (decide ((k : Int) ∈ K.take (j + 1)) = (decide ((k : Int) ∈ K.take j) || (K.getD j 0 == (k : Int)))) := M
                clear M hI hcell
                cases hm : decide ((k : Int) ∈ K.take j) with
                | true =>
                  rw [hm] at HM
                  go_wp2
                  go_roundw
                  case rel => exact ⟨j + 1, by omega, by go_num, by rw [HM.out]; rfl, hwx⟩
                  case measure => simp [intOf]; omega
                | false =>
                  rw [hm] at HM
                  obtain ⟨z, hz⟩ : ∃ z, z = K.getD j 0 := ⟨_, rfl⟩
                  rw [← hz] at cj HM
                  clear hz
                  cases hq : (z == (k : Int)) with
                  | true =>
                    rw [hq] at HM
                    have hq' := beq_iff_eq.1 hq
                    go_wp2
                    go_roundw
                    case rel => exact ⟨j + 1, by omega, by go_num, by rw [HM.out]; simp [hq'], hwx⟩
                    case measure => simp [intOf]; omega
                  | false =>
                    rw [hq] at HM
                    go_wp2
                    go_roundw
                    case rel => exact ⟨j + 1, by omega, by go_num, by rw [HM.out]; rfl, hwx⟩
                    case measure => simp [intOf]; omega
              · have hjl' : ¬ (j : Int) < (K.length : Int) := by omega
                have hjK : j = K.length := by omega
                rw [hjK, List.take_length, hwx.out]
                rw [hjK] at hjl'
                clear hjK hjl hj hwx hcell
                have il := IL.out (k : Int)
                have iw := IW.out (k : Int)
                have inn := IN.out (k : Int)
                have NX : Hid (∀ W n, W = wo.drewN n → ∃ q : Nat, ((q : Int) ≤ a0 ∧ ((k : Int) + 1 = (q : Int)) ∧ CrI u1 W db G3 d (crS d K) xl xw xn)) := by
                  rintro W n rfl
                  exact ⟨k + 1, by omega, by omega, hI.drewN n⟩
                cases hw : d.wait (k : Int) with
                | some q =>
                  by_cases hm : (k : Int) ∈ K
                  · have dm : decide ((k : Int) ∈ K) = true := decide_eq_true hm
                    have ov : overB (onlyB d.wait K) d.last (k : Int) = some q := by unfold overB onlyB; rw [if_pos hm, hw]
                    rw [hw] at iw
                    rw [ov] at inn
                    rw [dm]
                    obtain ⟨ol, hol⟩ : ∃ o, o = d.last (k : Int) := ⟨_, rfl⟩
                    rw [← hol] at il
                    clear ov dm hm hw hol
                    go_wp2_with fail
                    refine (held_is hI.l.rd il).mono ?_
                    rintro _ wq ⟨va, rfl, Ra, hq⟩
                    rw [hq]
                    clear hq wq
                    obtain ⟨aa, ca, rfl⟩ := Ra.form
                    go_wp2_with fail
                    refine (held_is hI.t.rd iw).mono ?_
                    rintro _ wq ⟨vb, rfl, Rb, hq⟩
                    rw [hq]
                    clear hq wq
                    obtain ⟨ab, cb, rfl⟩ := Rb.form
                    go_wp2_with fail
                    refine (held_is hI.n.rd inn).mono ?_
                    rintro _ wq ⟨vc, rfl, Rc, hq⟩
                    rw [hq]
                    clear hq wq
                    obtain ⟨ac, cc, rfl⟩ := Rc.form
                    go_wp2_with fail
                    refine (same_is Rc Rb (sameB_self _)).mono ?_
                    rintro _ wq ⟨rfl, nq, hq⟩
                    have E3 := NX.out _ _ hq
                    have E4 : Hid (∃ q : Nat, ((q : Int) ≤ a0 ∧ ((k : Int) + 1 = (q : Int)) ∧ CrI u1 wq db G3 d (crS d K) xl xw xn)) := E3
                    clear E3 NX hI Ra Rb Rc il iw inn IL IW IN hq RK WK
                    go_wp2
                    go_roundw
                    case rel => exact (by obtain ⟨q, e1, e2, e3⟩ := E4.out; exact ⟨q, e1, by rw [← e2], e3⟩)
                    case measure => simp [intOf]; omega
                  · have dm : decide ((k : Int) ∈ K) = false := decide_eq_false hm
                    have ov : overB (onlyB d.wait K) d.last (k : Int) = d.last (k : Int) := by unfold overB onlyB; rw [if_neg hm]
                    rw [hw] at iw
                    rw [ov] at inn
                    rw [dm]
                    clear ov dm hm hw
                    cases hl : d.last (k : Int) with
                    | some p =>
                      rw [hl] at il inn
                      go_wp2_with fail
                      refine (held_is hI.l.rd il).mono ?_
                      rintro _ wq ⟨va, rfl, Ra, hq⟩
                      rw [hq]
                      clear hq wq
                      obtain ⟨aa, ca, rfl⟩ := Ra.form
                      go_wp2_with fail
                      refine (held_is hI.t.rd iw).mono ?_
                      rintro _ wq ⟨vb, rfl, Rb, hq⟩
                      rw [hq]
                      clear hq wq
                      obtain ⟨ab, cb, rfl⟩ := Rb.form
                      go_wp2_with fail
                      refine (held_is hI.n.rd inn).mono ?_
                      rintro _ wq ⟨vc, rfl, Rc, hq⟩
                      rw [hq]
                      clear hq wq
                      obtain ⟨ac, cc, rfl⟩ := Rc.form
                      go_wp2_with fail
                      refine (same_is Rc Ra (sameB_self _)).mono ?_
                      rintro _ wq ⟨rfl, nq, hq⟩
                      have E3 := NX.out _ _ hq
                      have E4 : Hid (∃ q : Nat, ((q : Int) ≤ a0 ∧ ((k : Int) + 1 = (q : Int)) ∧ CrI u1 wq db G3 d (crS d K) xl xw xn)) := E3
                      clear E3 NX hI Ra Rb Rc il iw inn IL IW IN hq RK WK
                      go_wp2
                      go_roundw
                      case rel => exact (by obtain ⟨q, e1, e2, e3⟩ := E4.out; exact ⟨q, e1, by rw [← e2], e3⟩)
                      case measure => simp [intOf]; omega
                    | none =>
                      rw [hl] at il inn
                      go_wp2_with fail
                      refine (held_is hI.l.rd il).mono ?_
                      rintro _ wq ⟨va, rfl, Ra, hq⟩
                      rw [hq]
                      clear hq wq
                      obtain ⟨aa, ca, rfl⟩ := Ra.form
                      go_wp2_with fail
                      refine (held_is hI.t.rd iw).mono ?_
                      rintro _ wq ⟨vb, rfl, Rb, hq⟩
                      rw [hq]
                      clear hq wq
                      obtain ⟨ab, cb, rfl⟩ := Rb.form
                      go_wp2_with fail
                      refine (held_is hI.n.rd inn).mono ?_
                      rintro _ wq ⟨vc, rfl, Rc, hq⟩
                      rw [hq]
                      clear hq wq
                      obtain ⟨ac, cc, rfl⟩ := Rc.form
                      go_wp2_with fail
                      refine (same_is Rc Ra (sameB_self _)).mono ?_
                      rintro _ wq ⟨rfl, nq, hq⟩
                      have E3 := NX.out _ _ hq
                      have E4 : Hid (∃ q : Nat, ((q : Int) ≤ a0 ∧ ((k : Int) + 1 = (q : Int)) ∧ CrI u1 wq db G3 d (crS d K) xl xw xn)) := E3
                      clear E3 NX hI Ra Rb Rc il iw inn IL IW IN hq RK WK
                      go_wp2
                      go_roundw
                      case rel => exact (by obtain ⟨q, e1, e2, e3⟩ := E4.out; exact ⟨q, e1, by rw [← e2], e3⟩)
                      case measure => simp [intOf]; omega
                | none =>
                  have ov : overB (onlyB d.wait K) d.last (k : Int) = d.last (k : Int) := by unfold overB onlyB; rw [hw]; simp
                  rw [hw] at iw
                  rw [ov] at inn
                  obtain ⟨km, hkm⟩ : ∃ m, m = decide ((k : Int) ∈ K) := ⟨_, rfl⟩
                  rw [← hkm]
                  clear ov hw hkm
                  cases hl : d.last (k : Int) with
                  | some p =>
                    rw [hl] at il inn
                    go_wp2_with fail
                    refine (held_is hI.l.rd il).mono ?_
                    rintro _ wq ⟨va, rfl, Ra, hq⟩
                    rw [hq]
                    clear hq wq
                    obtain ⟨aa, ca, rfl⟩ := Ra.form
                    go_wp2_with fail
                    refine (held_is hI.t.rd iw).mono ?_
                    rintro _ wq ⟨vb, rfl, Rb, hq⟩
                    rw [hq]
                    clear hq wq
                    obtain ⟨ab, cb, rfl⟩ := Rb.form
                    go_wp2_with fail
                    refine (held_is hI.n.rd inn).mono ?_
                    rintro _ wq ⟨vc, rfl, Rc, hq⟩
                    rw [hq]
                    clear hq wq
                    obtain ⟨ac, cc, rfl⟩ := Rc.form
                    go_wp2_with fail
                    refine (same_is Rc Ra (sameB_self _)).mono ?_
                    rintro _ wq ⟨rfl, nq, hq⟩
                    have E3 := NX.out _ _ hq
                    have E4 : Hid (∃ q : Nat, ((q : Int) ≤ a0 ∧ ((k : Int) + 1 = (q : Int)) ∧ CrI u1 wq db G3 d (crS d K) xl xw xn)) := E3
                    clear E3 NX hI Ra Rb Rc il iw inn IL IW IN hq RK WK
                    go_wp2
                    go_roundw
                    case rel => exact (by obtain ⟨q, e1, e2, e3⟩ := E4.out; exact ⟨q, e1, by rw [← e2], e3⟩)
                    case measure => simp [intOf]; omega
                  | none =>
                    rw [hl] at il inn
                    go_wp2_with fail
                    refine (held_is hI.l.rd il).mono ?_
                    rintro _ wq ⟨va, rfl, Ra, hq⟩
                    rw [hq]
                    clear hq wq
                    obtain ⟨aa, ca, rfl⟩ := Ra.form
                    go_wp2_with fail
                    refine (held_is hI.t.rd iw).mono ?_
                    rintro _ wq ⟨vb, rfl, Rb, hq⟩
                    rw [hq]
                    clear hq wq
                    obtain ⟨ab, cb, rfl⟩ := Rb.form
                    go_wp2_with fail
                    refine (held_is hI.n.rd inn).mono ?_
                    rintro _ wq ⟨vc, rfl, Rc, hq⟩
                    rw [hq]
                    clear hq wq
                    obtain ⟨ac, cc, rfl⟩ := Rc.form
                    go_wp2_with fail
                    refine (same_is Rc Ra (sameB_self _)).mono ?_
                    rintro _ wq ⟨rfl, nq, hq⟩
                    have E3 := NX.out _ _ hq
                    have E4 : Hid (∃ q : Nat, ((q : Int) ≤ a0 ∧ ((k : Int) + 1 = (q : Int)) ∧ CrI u1 wq db G3 d (crS d K) xl xw xn)) := E3
                    clear E3 NX hI Ra Rb Rc il iw inn IL IW IN hq RK WK
                    go_wp2
                    go_roundw
                    case rel => exact (by obtain ⟨q, e1, e2, e3⟩ := E4.out; exact ⟨q, e1, by rw [← e2], e3⟩)
                    case measure => simp [intOf]; omega
          · have hge : ¬ (k : Int) < a0 := hlt
            go_wp2_with fail
            refine (dwaits_any hI.D.at_).mono ?_
            rintro _ v9 ⟨x9, rfl, O9, C9⟩
            rw [show (crS d K).wait = noneI from rfl, heldL_none] at O9
            obtain ⟨a9, c9, rfl⟩ := O9.none rfl
            have FB : Hid (Below w.heap.size w v9) := b.trans ((hI.B.step12 C9 hI.B.size).mono N1)
            clear O9 C9 hI RK WK IL IW IN
            go_wp2
            go_ret
            exact ⟨rfl, FB.out⟩
      · have h100' : a0 > 100 := by omega
        go_enter Try.func6, Try.ntmps6
        go_wp2_with fail
        refine awake_any.mono ?_
        rintro e u1 ⟨rfl, b⟩
        replace w1 := w1.below b
        replace RK := RK.below b
        have N1 := b.size
        go_wp2_with fail
        refine (done_any h1 h2 w1).mono ?_
        rintro _ v0 ⟨db, G0, rfl, A0, H0, B0⟩
        have D0 : DkB v0 u1.heap.size db G0 (runS (newD a0.toNat) (z1.take 60)) := ⟨A0, H0, B0.size⟩
        obtain ⟨d, hd⟩ : ∃ d, d = runS (newD a0.toNat) (z1.take 60) := ⟨_, rfl⟩
        have hs : Hid (d.s = a0.toNat) := by show d.s = _; rw [hd, runS_s]; rfl
        rw [← hd] at D0
        have ok : Hid d.Ok := D0.at_.ok
        clear A0 H0 hd
        have FB : Hid (Below w.heap.size w v0) := b.trans (B0.mono N1)
        clear D0 B0 
        go_wp2
        go_ret
        exact ⟨rfl, FB.out⟩
    · have hk' : (K.length : Int) > 200 := by omega
      go_enter Try.func6, Try.ntmps6
      go_wp2_with fail
      refine awake_any.mono ?_
      rintro e u1 ⟨rfl, b⟩
      replace w1 := w1.below b
      replace RK := RK.below b
      have N1 := b.size
      go_wp2_with fail
      refine (done_any h1 h2 w1).mono ?_
      rintro _ v0 ⟨db, G0, rfl, A0, H0, B0⟩
      have D0 : DkB v0 u1.heap.size db G0 (runS (newD a0.toNat) (z1.take 60)) := ⟨A0, H0, B0.size⟩
      obtain ⟨d, hd⟩ : ∃ d, d = runS (newD a0.toNat) (z1.take 60) := ⟨_, rfl⟩
      have hs : Hid (d.s = a0.toNat) := by show d.s = _; rw [hd, runS_s]; rfl
      rw [← hd] at D0
      have ok : Hid d.Ok := D0.at_.ok
      clear A0 H0 hd
      have FB : Hid (Below w.heap.size w v0) := b.trans (B0.mono N1)
      clear D0 B0 
      go_wp2
      go_ret
      exact ⟨rfl, FB.out⟩
  · clear RK WK
    go_enter Try.func6, Try.ntmps6
    go_wp2_with fail
    refine awake_any.mono ?_
    rintro e u1 ⟨rfl, b⟩
    replace w1 := w1.below b
    have N1 := b.size
    go_wp2_with fail
    refine (done_no hn w1).mono ?_
    rintro _ uq ⟨rfl, hq⟩
    rw [hq]
    clear hq uq
    have FB : Hid (Below w.heap.size w u1) := b
    go_wp2
    go_ret
    exact ⟨rfl, FB.out⟩

/-! ### THE ROW's STEP: WRITTEN OUT: LEAVE IT -/
set_option maxRecDepth 100000 in
theorem lifted (os : Os) (started : os.Started) (H : Type) (enc : TypeId × Value → H) :
    ReturnsInHanded {} Try.checked os 6 .any (Rows.diskCrashesSpec.pre6 enc Try.prog Try.f6 Rows.diskCrashesRow.domain false) (Rows.diskCrashesSpec.post enc Try.prog Try.f6 false true false false) := by
  refine returnsInHanded_of_change (C := Try.checked) own started (by kernel_rfl) Try.func6
    (ChangeSpec.witness6 (enc := enc) (C := Try.checked) false ⟨#[], #[.int .i64 0, .slice none 0 0, .slice none 0 0], []⟩ 8 (by kernel_rfl) (by kernel_rfl) (by kernel_rfl) (by kernel_rfl)) ?_
  intro W base args ds gs before hval0 hW hcnd _
  have hval : ∀ (j : Nat) t v, Try.f6.params[j]? = some t → args[j]? = some v → Value.okWide Try.prog W .any base t v := hval0
  have hW' := hW
  obtain ⟨p, q, hA0, hV, rfl, hfz, hnd⟩ := hW
  have hA : DataW.TrodAll enc Try.prog W 0 (fun _ => true) true Try.f6.params.toList args.toList ds p := hA0
  rw [Try.params6] at hA hval
  obtain ⟨v0, vs0, d0, ds0, p0, q0, hargs, rfl, rfl, h0, r0⟩ := trodAll_cons hA
  obtain ⟨v1, vs1, d1, ds1, p1, q1, rfl, rfl, rfl, h1, r1⟩ := trodAll_cons r0
  obtain ⟨v2, vs2, d2, ds2, p2, q2, rfl, rfl, rfl, h2, r2⟩ := trodAll_cons r1
  obtain ⟨rfl, rfl, rfl⟩ := trodAll_nil r2
  obtain rfl : args = #[v0, v1, v2] := by cases args; simp_all
  obtain ⟨rfl, rfl⟩ := trodVars_none hV
  obtain ⟨a0, rfl, rfl, rfl, w0⟩ := open_int Try.underlying3 (hval 0 3 v0 rfl rfl) h0
  obtain ⟨a1, len1, cap1, rfl⟩ := okWide_slice Try.underlying23 (hval 1 23 v1 rfl rfl)
  have k1 := h1
  have lt1 : ∀ x ∈ p1, x.block < W.heap.size := by obtain ⟨m, hm⟩ := k1; exact DataW.trod_lt m _ _ _ hm
  obtain ⟨z1, w1⟩ : ∃ zs, RdC W (.slice a1 len1 cap1) zs := by
    obtain ⟨fuel, hf⟩ := h1
    obtain ⟨a9, l9, c9, L9, hcs, _, hR⟩ := open_calls (sb := 5) (si := 3) Try.underlying23 Try.underlying35 (by kernel_rfl) rfl rfl rfl rfl rfl rfl (by kernel_rfl) (by kernel_rfl) (by kernel_rfl) (by kernel_rfl) (by kernel_rfl) (by kernel_rfl) (by kernel_rfl) (by kernel_rfl) (by kernel_rfl) (by kernel_rfl) (by kernel_rfl) (by kernel_rfl) (by kernel_rfl) (by kernel_rfl) (by kernel_rfl) (by kernel_rfl) hf
    simp [Value.cells] at hcs
    obtain ⟨rfl, rfl, rfl⟩ := hcs
    exact ⟨L9, hR⟩
  obtain ⟨a2, len2, cap2, rfl⟩ := okWide_slice Try.underlying33 (hval 2 33 v2 rfl rfl)
  have k2 := h2
  have lt2 : ∀ x ∈ p2, x.block < W.heap.size := by obtain ⟨m, hm⟩ := k2; exact DataW.trod_lt m _ _ _ hm
  obtain ⟨z2, w2⟩ : ∃ zs, IsRow .i64 W a2 len2 cap2 zs := by
    obtain ⟨fuel, hf⟩ := h2
    rcases open_ints Try.underlying33 Try.underlying3 (by kernel_rfl) hf with ⟨hcs, _⟩ | ⟨x, l, c, zs, hcs, _, hl, hm, hz, _, hcell, hwz⟩
    · simp [Value.cells] at hcs
      obtain ⟨rfl, rfl, rfl⟩ := hcs
      exact ⟨[], .inl ⟨rfl, rfl, rfl, rfl⟩⟩
    · simp [Value.cells] at hcs
      obtain ⟨rfl, rfl, rfl⟩ := hcs
      exact ⟨zs, .inr ⟨_, rfl, hl, hm, by simpa using hz, hcell, hwz⟩⟩
  clear hA0 hval0
  refine (walk a0 a1 len1 cap1 z1 a2 len2 cap2 z2 W w0 w1 w2).mono fun e W' ⟨he, bel⟩ => ?_
  subst he
  exact ⟨_, rfl, _, _, _, [], _, [], hW', trodAll_mk1 (shut_bool Try.underlying4 _), (trodAll_cons_mk (shut_int Try.underlying3 w0) (trodAll_cons_mk (Below.trod laidOut (by kernel_rfl) (of_decide_eq_true (by kernel_rfl)) k1 bel lt1) (trodAll_cons_mk (Below.trod laidOut (by kernel_rfl) (of_decide_eq_true (by kernel_rfl)) k2 bel lt2) trodAll_mk0))), rfl, bel.frame _, fun h => by cases h⟩

theorem over : Rows.diskCrashesRow.holds Try.pinned (OpenSpec.ofChange Rows.diskCrashesSpec) :=
  OpenClaim.holds_of_wide 6 Try.f6 rfl rfl rfl rfl rfl rfl rfl ⟨rfl, rfl, rfl, rfl, rfl⟩ rfl rfl rfl rfl rfl (by kernel_rfl) Try.func6 (by kernel_rfl)
    (of_decide_eq_true (by kernel_rfl)) (by unfold Func.isWrapper; first | (rw [if_pos (by decide +kernel)]; kernel_rfl) | (rw [if_neg (by decide +kernel)]; exact ⟨rfl, rfl⟩))
    (fun os started H enc _ => lifted os started H enc)

/-- ████ THE STATEMENT ████ -/
theorem proved : Rows.DiskCrashesSaid := over
end Go.Proofs.Ytabcbmabimommaa.diskCrashes
namespace Go.Proofs.Ytabcbmabimommaa
theorem diskCrashes_holds : Rows.DiskCrashesSaid := diskCrashes.proved
#print axioms diskCrashes_holds
end Go.Proofs.Ytabcbmabimommaa
