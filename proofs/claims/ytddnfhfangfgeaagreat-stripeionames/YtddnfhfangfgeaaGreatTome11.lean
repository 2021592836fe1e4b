/- TEXTS JOINED: ArCA, ArCB, StCW, SeCD, ArCC, ArCD. -/
import Derived.Test.YtddnfhfangfgeaaGreatTome10
import Derived.Test.YtddnfhfangfgeaaGreatTome9
import Derived.Test.YtddnfhfangfgeaaGreatTome7
import Derived.Deep.RegionHeld3
import Derived.WalkMore
import Derived.Deep.OwnRows
namespace Go.Proofs.YtddnfhfangfgeaaGreat.Gf
set_option linter.unusedVariables false
set_option linter.unusedSimpArgs false
open Go.RowKit
section
variable {w : World} {ab mb : Nat} {db : Nat → Nat} {GD : Nat → Nat → Prop} {GA : Nat → Prop} {a : ArS}
theorem amem_at {n : Nat} (c0 : w.cell? ⟨ab, 0, none⟩ = some (.slice (some ⟨mb, 0, none⟩) n n)) {j : Nat} (hj : j < n) : Calls Tryz.prog 56 #[.pointer (some ⟨ab, 0, none⟩), .int .i64 (j : Int)] w fun e w' => e = .returned (.pointer (some ⟨mb, j * 2, none⟩)) ∧ w' = w := by
  have q1 : ¬ (j : Int) < 0 := by omega
  have q2 : ¬ (j : Int) ≥ (n : Int) := by omega
  have q3 : (j : Int) < (n : Int) := by omega
  go_enter Tryz.func56, Tryz.ntmps56
  go_wp2
  go_ret
  exact ⟨rfl, rfl⟩
theorem amem_no {n : Nat} (c0 : w.cell? ⟨ab, 0, none⟩ = some (.slice (some ⟨mb, 0, none⟩) n n)) {i : Int} (hi : ¬ (0 ≤ i ∧ i < (n : Int))) : Calls Tryz.prog 56 #[.pointer (some ⟨ab, 0, none⟩), .int .i64 i] w fun e w' => e = .returned (.pointer none) ∧ w' = w := by
  by_cases q1 : i < 0
  · go_enter Tryz.func56, Tryz.ntmps56
    go_wp2
    go_ret
    exact ⟨rfl, rfl⟩
  · have q2 : i ≥ (n : Int) := by omega
    go_enter Tryz.func56, Tryz.ntmps56
    go_wp2
    go_ret
    exact ⟨rfl, rfl⟩
theorem aref_any {x : Bool} (c2 : w.cell? ⟨ab, 2, none⟩ = some (.bool x)) : Calls Tryz.prog 115 #[.pointer (some ⟨ab, 0, none⟩)] w fun e w' => e = .returned (.int .i64 (if x = true then 130 else 0)) ∧ w' = w := by
  cases x
  · go_enter Tryz.func115, Tryz.ntmps115
    go_wp2
    go_ret
    exact ⟨rfl, rfl⟩
  · go_enter Tryz.func115, Tryz.ntmps115
    go_wp2
    go_ret
    exact ⟨rfl, rfl⟩
theorem apow_off (c2 : w.cell? ⟨ab, 2, none⟩ = some (.bool true)) {i : Int} : Calls Tryz.prog 108 #[.pointer (some ⟨ab, 0, none⟩), .int .i64 i] w fun e w' => e = .returned (.tuple #[.pointer none, .int .i64 130]) ∧ w' = w := by
  have K := aref_any c2
  simp only [if_true] at K
  go_enter Tryz.func108, Tryz.ntmps108
  go_wp2_with fail
  refine K.mono ?_
  rintro _ wq ⟨rfl, hwq⟩
  rw [hwq]
  clear hwq wq K
  go_wp2
  refine bodyPost_ret (v := .tuple #[.pointer none, .int .i64 130]) (by simp [results, Tryz.results108, go_sem]) rfl ?_
  exact ⟨rfl, rfl⟩
theorem apow_no {n : Nat} (c0 : w.cell? ⟨ab, 0, none⟩ = some (.slice (some ⟨mb, 0, none⟩) n n)) (c2 : w.cell? ⟨ab, 2, none⟩ = some (.bool false)) {i : Int} (hi : ¬ (0 ≤ i ∧ i < (n : Int))) : Calls Tryz.prog 108 #[.pointer (some ⟨ab, 0, none⟩), .int .i64 i] w fun e w' => e = .returned (.tuple #[.pointer none, .int .i64 1]) ∧ w' = w := by
  have K := aref_any c2
  have KM := amem_no c0 hi
  simp only [Bool.false_eq_true, if_false] at K
  go_enter Tryz.func108, Tryz.ntmps108
  go_wp2_with fail
  refine K.mono ?_
  rintro _ wq ⟨rfl, hwq⟩
  rw [hwq]
  clear hwq wq K
  go_wp2_with fail
  refine KM.mono ?_
  rintro _ wq ⟨rfl, hwq⟩
  rw [hwq]
  clear hwq wq KM
  go_wp2
  refine bodyPost_ret (v := .tuple #[.pointer none, .int .i64 1]) (by simp [results, Tryz.results108, go_sem]) rfl ?_
  exact ⟨rfl, rfl⟩
theorem apow_at {n : Nat} (c0 : w.cell? ⟨ab, 0, none⟩ = some (.slice (some ⟨mb, 0, none⟩) n n)) (c2 : w.cell? ⟨ab, 2, none⟩ = some (.bool false)) {j : Nat} (hj : j < n) : Calls Tryz.prog 108 #[.pointer (some ⟨ab, 0, none⟩), .int .i64 (j : Int)] w fun e w' => e = .returned (.tuple #[.pointer (some ⟨mb, j * 2, none⟩), .int .i64 0]) ∧ w' = w := by
  have K := aref_any c2
  have KM := amem_at c0 hj
  simp only [Bool.false_eq_true, if_false] at K
  go_enter Tryz.func108, Tryz.ntmps108
  go_wp2_with fail
  refine K.mono ?_
  rintro _ wq ⟨rfl, hwq⟩
  rw [hwq]
  clear hwq wq K
  go_wp2_with fail
  refine KM.mono ?_
  rintro _ wq ⟨rfl, hwq⟩
  rw [hwq]
  clear hwq wq KM
  go_wp2
  refine bodyPost_ret (v := .tuple #[.pointer (some ⟨mb, j * 2, none⟩), .int .i64 0]) (by simp [results, Tryz.results108, go_sem]) rfl ?_
  exact ⟨rfl, rfl⟩
/-- a write that was done is counted -/
theorem acount_any (h : ArM w ab mb db GD GA a) : Calls Tryz.prog 110 #[.pointer (some ⟨ab, 0, none⟩)] w fun e w' => e = .returned (.tuple #[]) ∧ ArM w' ab mb db GD GA (tickA a) ∧ TurnG GA w w' := by
  have c1 := h.c1
  have c2 := h.c2
  have f1 := h.f1
  have f2 := h.f2
  by_cases hl : 0 < a.left
  · have eL : leC a.left = a.left := if_pos hl
    have wb := bounds_i64 h.wl
    have hwf : (Lit.int .i64 (a.left - 1)).wf = true := by simp [Lit.wf, IntKind.min, IntKind.max, IntKind.signed, IntKind.bits]; omega
    have M1 := (h.setLeft hwf).setOff (decide (a.left - 1 = 0))
    have eL2 : leC (a.left - 1) = a.left - 1 := by unfold leC; split <;> omega
    have eT : tickA a = { { a with left := a.left - 1 } with off := decide (a.left - 1 = 0) } := if_pos hl
    rw [eL2] at M1
    have FIN : Hid (ArM ((w.setCell ⟨ab, 1, none⟩ (.int .i64 (a.left - 1))).setCell ⟨ab, 2, none⟩ (.bool (decide (a.left - 1 = 0)))) ab mb db GD GA (tickA a) ∧ TurnG GA w ((w.setCell ⟨ab, 1, none⟩ (.int .i64 (a.left - 1))).setCell ⟨ab, 2, none⟩ (.bool (decide (a.left - 1 = 0))))) := by
      rw [eT]
      exact ⟨M1, (setCell_turnG h.ga).trans (setCell_turnG h.ga)⟩
    clear M1 eT eL2 hwf
    rw [eL] at c1
    have q0 : ¬ a.left = 0 := by omega
    have q1 : (a.left == 0) = false := beq_eq_false_iff_ne.2 q0
    have g1 : IntKind.i64.wrap (a.left - 1) = a.left - 1 := by rw [IntKind.wrap_i64]; omega
    have q2 : (a.left - 1 == 0) = decide (a.left - 1 = 0) := by by_cases e : a.left - 1 = 0 <;> simp [e]
    clear h wb eL hl
    go_enter Tryz.func110, Tryz.ntmps110
    go_wp2
    go_end0
    exact ⟨rfl, FIN.out⟩
  · have eL : leC a.left = 0 := if_neg hl
    have eT : tickA a = a := if_neg hl
    have FIN : Hid (ArM w ab mb db GD GA (tickA a)) := by rw [eT]; exact h
    rw [eL] at c1
    clear h eT eL
    go_enter Tryz.func110, Tryz.ntmps110
    go_wp2
    refine bodyPost_ret (v := .tuple #[]) (by simp [results, Tryz.results110, go_sem]) rfl ?_
    exact ⟨rfl, FIN.out, TurnG.refl _ _⟩
end
end Go.Proofs.YtddnfhfangfgeaaGreat.Gf

namespace Go.Proofs.YtddnfhfangfgeaaGreat.Gf
set_option linter.unusedVariables false
set_option linter.unusedSimpArgs false
open Go.RowKit
section
variable {w : World} {ab : Nat} {GA : Nat → Prop} {a : ArS}
theorem th_at {a : ArS} {i : Int} (h : thA a i) : ∃ j : Nat, i = (j : Int) ∧ j < a.D.length := ⟨i.toNat, by have := h.1; omega, by have := h.1; have := h.2; omega⟩
theorem wrS_no {d : DkS} {x : Int} {b : List UInt8} (h : ¬ wrX d x b = 0) : wrS d x b = d := by
  unfold wrS
  rw [if_neg]
  rintro ⟨h1, h2⟩
  exact h (by unfold wrX; rw [if_pos h1, if_pos h2])
theorem set_self {α : Type} (l : List α) (j : Nat) (d : α) (h : j < l.length) : l.set j (l.getD j d) = l := by
  rw [show l.getD j d = l[j] by simp [List.getD, h]]
  exact List.set_getElem_self h
theorem setA_same {a : ArS} {j : Nat} (h : j < a.D.length) : ({ a with D := a.D.set j (a.D.getD j default) } : ArS) = a := by rw [set_self _ _ _ h]
theorem stays {a' : ArS} (h : ArAt w ab GA a) (e : a' = a) : ∃ GA', ArAt w ab GA' a' ∧ Grew GA w GA' w := ⟨GA, by rw [e]; exact h, Grew.refl _ _⟩
set_option maxRecDepth 100000 in
theorem awrite_any (h : ArAt w ab GA a) {i ad : Int} (hi : (Lit.int .i64 i).wf = true) (ha : (Lit.int .i64 ad).wf = true) {v : Value} {p : List UInt8} (hp : Rd w v p) :
    Calls Tryz.prog 70 #[.pointer (some ⟨ab, 0, none⟩), .int .i64 i, .int .i64 ad, v] w (LeavesA w ab GA (wrAS a i ad p) (.int .i64 (wrAX a i ad p))) := by
  have h0 := h
  obtain ⟨mb, db, GD, hM, ok⟩ := h
  obtain ⟨va, vc, rfl⟩ := hp.form
  cases ho : a.off with
  | true =>
    have c2 := hM.c2
    rw [ho] at c2
    have K := @apow_off w ab c2 i
    rw [show wrAX a i ad p = 130 from if_pos ho]
    have FIN : Hid (∃ GA', ArAt w ab GA' (wrAS a i ad p) ∧ Grew GA w GA' w) := stays h0 (if_pos ho)
    clear h0 hM ok c2
    go_enter Tryz.func70, Tryz.ntmps70
    go_wp2_with fail
    refine K.mono ?_
    rintro _ wq ⟨rfl, hwq⟩
    rw [hwq]
    clear hwq wq K
    go_wp2
    go_ret
    exact ⟨rfl, FIN.out⟩
  | false =>
    have no : ¬ a.off = true := by rw [ho]; simp
    have c0 := hM.c0
    have c2 := hM.c2
    rw [ho] at c2
    by_cases ht : thA a i
    · have eX : wrAX a i ad p = wrX (diA a i) ad p := by unfold wrAX; rw [if_neg no, if_pos ht]
      have eS : wrAS a i ad p = if wrX (diA a i) ad p = 0 then tickA (setA a i (wrS (diA a i) ad p)) else a := by unfold wrAS; rw [if_neg no, if_pos ht]
      have okS := wrAS_ok ok i ad p
      obtain ⟨j, rfl, hj⟩ := th_at ht
      have KP := @apow_at w ab mb _ c0 c2 j hj
      have KW := dwrite_any (hM.dk j hj) ha hp
      have m0 := hM.m0 j hj
      have eD : diA a (j : Int) = a.D.getD j default := rfl
      rw [eX, eS]
      rw [eS] at okS
      rw [eD] at okS ⊢
      clear eX eS eD
      obtain ⟨d, hd⟩ : ∃ d, d = a.D.getD j default := ⟨_, rfl⟩
      rw [← hd] at KW okS ⊢
      by_cases hx : wrX d ad p = 0
      · rw [hx] at KW ⊢
        rw [if_pos rfl]
        rw [hx, if_pos rfl] at okS
        go_enter Tryz.func70, Tryz.ntmps70
        go_wp2_with fail
        refine KP.mono ?_
        rintro _ wq ⟨rfl, hwq⟩
        rw [hwq]
        clear hwq wq KP
        go_wp2_with fail
        refine KW.mono ?_
        rintro _ w1 ⟨rfl, G1, D1, g1⟩
        obtain ⟨M1, gg1⟩ := hM.disk hj D1 g1
        have KC := acount_any M1
        have FIN : Hid (∀ w2, ArM w2 ab mb db (fun k => if k = j then G1 else GD k) (fun k => GA k ∨ G1 k) (tickA { a with D := a.D.set j (wrS d ad p) }) → TurnG (fun k => GA k ∨ G1 k) w1 w2 → ∃ GA', ArAt w2 ab GA' (tickA (setA a (j : Int) (wrS d ad p))) ∧ Grew GA w GA' w2) := fun w2 M2 t2 =>
          ⟨_, ⟨mb, db, _, M2, okS⟩, gg1.trans (Grew.of_turn t2)⟩
        clear M1 gg1 D1 g1 KW hM ok h0 okS c0 c2 m0 hp hd
        go_wp2_with fail
        refine KC.mono ?_
        rintro _ w2 ⟨rfl, M2, t2⟩
        have F2 : Hid (∃ GA', ArAt w2 ab GA' (tickA (setA a (j : Int) (wrS d ad p))) ∧ Grew GA w GA' w2) := FIN.out w2 M2 t2
        clear M2 t2 FIN KC
        go_wp2
        go_ret
        exact ⟨rfl, F2.out⟩
      · rw [if_neg hx]
        have eQ : wrS d ad p = d := wrS_no hx
        rw [eQ] at KW
        obtain ⟨x, hxx⟩ : ∃ x, x = wrX d ad p := ⟨_, rfl⟩
        rw [← hxx] at KW hx ⊢
        have q1 : (x == 0) = false := beq_eq_false_iff_ne.2 hx
        go_enter Tryz.func70, Tryz.ntmps70
        go_wp2_with fail
        refine KP.mono ?_
        rintro _ wq ⟨rfl, hwq⟩
        rw [hwq]
        clear hwq wq KP
        go_wp2_with fail
        refine KW.mono ?_
        rintro _ w1 ⟨rfl, G1, D1, g1⟩
        obtain ⟨M1, gg1⟩ := hM.disk hj D1 g1
        have F2 : Hid (∃ GA', ArAt w1 ab GA' a ∧ Grew GA w GA' w1) := ⟨_, ⟨mb, db, _, by
          have e2 : ({ a with D := a.D.set j d } : ArS) = a := by rw [hd]; exact setA_same hj
          rw [e2] at M1
          exact M1, ok⟩, gg1⟩
        clear M1 gg1 D1 g1 KW hM ok h0 okS c0 c2 m0 hp hd hxx eQ
        go_wp2
        go_ret
        exact ⟨rfl, F2.out⟩
    · have K := @apow_no w ab mb _ c0 c2 i ht
      rw [show wrAX a i ad p = 1 by unfold wrAX; rw [if_neg no, if_neg ht]]
      have FIN : Hid (∃ GA', ArAt w ab GA' (wrAS a i ad p) ∧ Grew GA w GA' w) := stays h0 (by unfold wrAS; rw [if_neg no, if_neg ht])
      clear h0 hM ok c2 c0
      go_enter Tryz.func70, Tryz.ntmps70
      go_wp2_with fail
      refine K.mono ?_
      rintro _ wq ⟨rfl, hwq⟩
      rw [hwq]
      clear hwq wq K
      go_wp2
      go_ret
      exact ⟨rfl, FIN.out⟩
theorem aread_any (h : ArAt w ab GA a) {i ad : Int} (hi : (Lit.int .i64 i).wf = true) (ha : (Lit.int .i64 ad).wf = true) :
    Calls Tryz.prog 72 #[.pointer (some ⟨ab, 0, none⟩), .int .i64 i, .int .i64 ad] w (Tells w (rdAX a i ad) (rdAB a i ad)) := by
  obtain ⟨mb, db, GD, hM, ok⟩ := h
  cases ho : a.off with
  | true =>
    have c2 := hM.c2
    rw [ho] at c2
    have K := @apow_off w ab c2 i
    rw [show rdAX a i ad = 130 from if_pos ho, show rdAB a i ad = [] from if_pos ho]
    clear hM ok c2
    go_enter Tryz.func72, Tryz.ntmps72
    go_wp2_with fail
    refine K.mono ?_
    rintro _ wq ⟨rfl, hwq⟩
    rw [hwq]
    clear hwq wq K
    go_wp2
    refine bodyPost_ret (v := .tuple #[.slice none 0 0, .int .i64 130]) (by simp [results, Tryz.results72, go_sem]) rfl ?_
    exact ⟨_, rfl, own_none _ _ _, Below.refl _ _⟩
  | false =>
    have no : ¬ a.off = true := by rw [ho]; simp
    have c0 := hM.c0
    have c2 := hM.c2
    rw [ho] at c2
    by_cases ht : thA a i
    · rw [show rdAX a i ad = faX (diA a i) ad by unfold rdAX; rw [if_neg no, if_pos ht], show rdAB a i ad = rdB (diA a i) ad by unfold rdAB; rw [if_neg no, if_pos ht]]
      obtain ⟨j, rfl, hj⟩ := th_at ht
      have KP := @apow_at w ab mb _ c0 c2 j hj
      have KR := dread_any (hM.dk j hj) ha
      have m0 := hM.m0 j hj
      rw [show diA a (j : Int) = a.D.getD j default from rfl]
      obtain ⟨x, hx⟩ : ∃ x, x = faX (a.D.getD j default) ad := ⟨_, rfl⟩
      obtain ⟨r, hr⟩ : ∃ r, r = rdB (a.D.getD j default) ad := ⟨_, rfl⟩
      rw [← hx, ← hr] at KR ⊢
      clear hM ok hx hr ht c0 c2
      go_enter Tryz.func72, Tryz.ntmps72
      go_wp2_with fail
      refine KP.mono ?_
      rintro _ wq ⟨rfl, hwq⟩
      rw [hwq]
      clear hwq wq KP
      go_wp2_with fail
      refine KR.mono ?_
      rintro _ w1 ⟨v, rfl, O1, B1⟩
      go_wp2
      refine bodyPost_ret (v := .tuple #[v, .int .i64 x]) (by simp [results, Tryz.results72, go_sem]) rfl ?_
      exact ⟨_, rfl, O1, B1⟩
    · have K := @apow_no w ab mb _ c0 c2 i ht
      rw [show rdAX a i ad = 1 by unfold rdAX; rw [if_neg no, if_neg ht], show rdAB a i ad = [] by unfold rdAB; rw [if_neg no, if_neg ht]]
      clear hM ok c2 c0
      go_enter Tryz.func72, Tryz.ntmps72
      go_wp2_with fail
      refine K.mono ?_
      rintro _ wq ⟨rfl, hwq⟩
      rw [hwq]
      clear hwq wq K
      go_wp2
      refine bodyPost_ret (v := .tuple #[.slice none 0 0, .int .i64 1]) (by simp [results, Tryz.results72, go_sem]) rfl ?_
      exact ⟨_, rfl, own_none _ _ _, Below.refl _ _⟩
theorem afail_any (h : ArAt w ab GA a) {i : Int} (hi : (Lit.int .i64 i).wf = true) :
    Calls Tryz.prog 20 #[.pointer (some ⟨ab, 0, none⟩), .int .i64 i] w (LeavesA w ab GA (faAS a i) (.int .i64 (thX a i))) := by
  have h0 := h
  obtain ⟨mb, db, GD, hM, ok⟩ := h
  have c0 := hM.c0
  by_cases ht : thA a i
  · have okS := faAS_ok ok i
    have eS : faAS a i = bornA (setA a i (faS (diA a i))) i := if_pos ht
    rw [show thX a i = 0 from if_pos ht]
    rw [eS] at okS ⊢
    obtain ⟨j, rfl, hj⟩ := th_at ht
    have KP := @amem_at w ab mb _ c0 j hj
    have KW := dfail_any (hM.dk j hj)
    have m0 := hM.m0 j hj
    rw [show diA a (j : Int) = a.D.getD j default from rfl] at okS ⊢
    obtain ⟨d, hd⟩ : ∃ d, d = a.D.getD j default := ⟨_, rfl⟩
    rw [← hd] at KW okS ⊢
    go_enter Tryz.func20, Tryz.ntmps20
    go_wp2_with fail
    refine KP.mono ?_
    rintro _ wq ⟨rfl, hwq⟩
    rw [hwq]
    clear hwq wq KP
    go_wp2_with fail
    refine KW.mono ?_
    rintro _ w1 ⟨rfl, G1, D1, g1⟩
    obtain ⟨M1, gg1⟩ := hM.disk hj D1 g1
    have hj1 : j < (a.D.set j (faS d)).length := by simpa using hj
    have m1 : w1.cell? ⟨mb, j * 2 + 1, none⟩ = some (.int .i64 (a.B.getD j 0)) := M1.m1 j hj1
    have fm := M1.fm j hj1
    have M2 := M1.setBorn hj1 (IntKind.i64.wrap (a.B.getD j 0 + 1))
    have FIN : Hid (∃ GA', ArAt (w1.setCell ⟨mb, j * 2 + 1, none⟩ (.int .i64 (IntKind.i64.wrap (a.B.getD j 0 + 1)))) ab GA' (bornA (setA a (j : Int) (faS d)) (j : Int)) ∧ Grew GA w GA' (w1.setCell ⟨mb, j * 2 + 1, none⟩ (.int .i64 (IntKind.i64.wrap (a.B.getD j 0 + 1))))) :=
      ⟨_, ⟨mb, db, _, M2, okS⟩, gg1.trans (Grew.of_turn (setCell_turnG (Or.inl hM.gm)))⟩
    obtain ⟨z, hz⟩ : ∃ z, z = a.B.getD j 0 := ⟨_, rfl⟩
    rw [← hz] at m1 FIN
    obtain ⟨z1, gz⟩ : ∃ z1, IntKind.i64.wrap (z + 1) = z1 := ⟨_, rfl⟩
    rw [gz] at FIN
    clear M1 M2 gg1 D1 g1 KW hM ok h0 okS c0 m0 hd hj1 hz
    go_wp2
    go_ret
    exact ⟨rfl, FIN.out⟩
  · have K := @amem_no w ab mb _ c0 i ht
    rw [show thX a i = 1 from if_neg ht]
    have FIN : Hid (∃ GA', ArAt w ab GA' (faAS a i) ∧ Grew GA w GA' w) := stays h0 (if_neg ht)
    clear h0 hM ok c0
    go_enter Tryz.func20, Tryz.ntmps20
    go_wp2_with fail
    refine K.mono ?_
    rintro _ wq ⟨rfl, hwq⟩
    rw [hwq]
    clear hwq wq K
    go_wp2
    go_ret
    exact ⟨rfl, FIN.out⟩
theorem arepl_any (h : ArAt w ab GA a) {i : Int} (hi : (Lit.int .i64 i).wf = true) :
    Calls Tryz.prog 21 #[.pointer (some ⟨ab, 0, none⟩), .int .i64 i] w (LeavesA w ab GA (rpAS a i) (.int .i64 (thX a i))) := by
  have h0 := h
  obtain ⟨mb, db, GD, hM, ok⟩ := h
  have c0 := hM.c0
  by_cases ht : thA a i
  · have okS := rpAS_ok ok i
    have eS : rpAS a i = bornA (setA a i (reS (diA a i))) i := if_pos ht
    rw [show thX a i = 0 from if_pos ht]
    rw [eS] at okS ⊢
    obtain ⟨j, rfl, hj⟩ := th_at ht
    have KP := @amem_at w ab mb _ c0 j hj
    have KW := drepl_any (hM.dk j hj)
    have m0 := hM.m0 j hj
    rw [show diA a (j : Int) = a.D.getD j default from rfl] at okS ⊢
    obtain ⟨d, hd⟩ : ∃ d, d = a.D.getD j default := ⟨_, rfl⟩
    rw [← hd] at KW okS ⊢
    go_enter Tryz.func21, Tryz.ntmps21
    go_wp2_with fail
    refine KP.mono ?_
    rintro _ wq ⟨rfl, hwq⟩
    rw [hwq]
    clear hwq wq KP
    go_wp2_with fail
    refine KW.mono ?_
    rintro _ w1 ⟨rfl, G1, D1, g1⟩
    obtain ⟨M1, gg1⟩ := hM.disk hj D1 g1
    have hj1 : j < (a.D.set j (reS d)).length := by simpa using hj
    have m1 : w1.cell? ⟨mb, j * 2 + 1, none⟩ = some (.int .i64 (a.B.getD j 0)) := M1.m1 j hj1
    have fm := M1.fm j hj1
    have M2 := M1.setBorn hj1 (IntKind.i64.wrap (a.B.getD j 0 + 1))
    have FIN : Hid (∃ GA', ArAt (w1.setCell ⟨mb, j * 2 + 1, none⟩ (.int .i64 (IntKind.i64.wrap (a.B.getD j 0 + 1)))) ab GA' (bornA (setA a (j : Int) (reS d)) (j : Int)) ∧ Grew GA w GA' (w1.setCell ⟨mb, j * 2 + 1, none⟩ (.int .i64 (IntKind.i64.wrap (a.B.getD j 0 + 1))))) :=
      ⟨_, ⟨mb, db, _, M2, okS⟩, gg1.trans (Grew.of_turn (setCell_turnG (Or.inl hM.gm)))⟩
    obtain ⟨z, hz⟩ : ∃ z, z = a.B.getD j 0 := ⟨_, rfl⟩
    rw [← hz] at m1 FIN
    obtain ⟨z1, gz⟩ : ∃ z1, IntKind.i64.wrap (z + 1) = z1 := ⟨_, rfl⟩
    rw [gz] at FIN
    clear M1 M2 gg1 D1 g1 KW hM ok h0 okS c0 m0 hd hj1 hz
    go_wp2
    go_ret
    exact ⟨rfl, FIN.out⟩
  · have K := @amem_no w ab mb _ c0 i ht
    rw [show thX a i = 1 from if_neg ht]
    have FIN : Hid (∃ GA', ArAt w ab GA' (rpAS a i) ∧ Grew GA w GA' w) := stays h0 (if_neg ht)
    clear h0 hM ok c0
    go_enter Tryz.func21, Tryz.ntmps21
    go_wp2_with fail
    refine K.mono ?_
    rintro _ wq ⟨rfl, hwq⟩
    rw [hwq]
    clear hwq wq K
    go_wp2
    go_ret
    exact ⟨rfl, FIN.out⟩
theorem acorr_any (h : ArAt w ab GA a) {i ad at_ : Int} (hi : (Lit.int .i64 i).wf = true) (ha : (Lit.int .i64 ad).wf = true) (hat : (Lit.int .i64 at_).wf = true) (y : UInt8) :
    Calls Tryz.prog 22 #[.pointer (some ⟨ab, 0, none⟩), .int .i64 i, .int .i64 ad, .int .i64 at_, .int .u8 ((y.toNat : Nat) : Int)] w (LeavesA w ab GA (coAS a i ad at_ y) (.int .i64 (coAX a i ad))) := by
  have h0 := h
  obtain ⟨mb, db, GD, hM, ok⟩ := h
  have c0 := hM.c0
  by_cases ht : thA a i
  · have okS := coAS_ok ok i ad at_ y
    have eS : coAS a i ad at_ y = setA a i (coS (diA a i) ad at_ y) := if_pos ht
    rw [show coAX a i ad = coX (diA a i) ad from if_pos ht]
    rw [eS] at okS ⊢
    obtain ⟨j, rfl, hj⟩ := th_at ht
    have KP := @amem_at w ab mb _ c0 j hj
    have KW := dcorr_any (hM.dk j hj) ha hat y
    have m0 := hM.m0 j hj
    rw [show diA a (j : Int) = a.D.getD j default from rfl] at okS ⊢
    obtain ⟨x, hx⟩ : ∃ x, x = coX (a.D.getD j default) ad := ⟨_, rfl⟩
    rw [← hx] at KW ⊢
    obtain ⟨d, hd⟩ : ∃ d, d = a.D.getD j default := ⟨_, rfl⟩
    rw [← hd] at KW okS ⊢
    clear hx
    go_enter Tryz.func22, Tryz.ntmps22
    go_wp2_with fail
    refine KP.mono ?_
    rintro _ wq ⟨rfl, hwq⟩
    rw [hwq]
    clear hwq wq KP
    go_wp2_with fail
    refine KW.mono ?_
    rintro _ w1 ⟨rfl, G1, D1, g1⟩
    obtain ⟨M1, gg1⟩ := hM.disk hj D1 g1
    have FIN : Hid (∃ GA', ArAt w1 ab GA' (setA a (j : Int) (coS d ad at_ y)) ∧ Grew GA w GA' w1) := ⟨_, ⟨mb, db, _, M1, okS⟩, gg1⟩
    clear M1 gg1 D1 g1 KW hM ok h0 okS c0 m0 hd
    go_wp2
    go_ret
    exact ⟨rfl, FIN.out⟩
  · have K := @amem_no w ab mb _ c0 i ht
    rw [show coAX a i ad = 1 from if_neg ht]
    have FIN : Hid (∃ GA', ArAt w ab GA' (coAS a i ad at_ y) ∧ Grew GA w GA' w) := stays h0 (if_neg ht)
    clear h0 hM ok c0
    go_enter Tryz.func22, Tryz.ntmps22
    go_wp2_with fail
    refine K.mono ?_
    rintro _ wq ⟨rfl, hwq⟩
    rw [hwq]
    clear hwq wq K
    go_wp2
    go_ret
    exact ⟨rfl, FIN.out⟩
theorem alasts_at (h : ArAt w ab GA a) {j : Nat} (hj : j < a.D.length) : Calls Tryz.prog 29 #[.pointer (some ⟨ab, 0, none⟩), .int .i64 (j : Int)] w fun e w' => ∃ v, e = .returned v ∧ OwnH w' w.heap.size v (heldL (a.D.getD j default).last (a.D.getD j default).s) ∧ Below w.heap.size w w' := by
  obtain ⟨mb, db, GD, hM, ok⟩ := h
  have KP := @amem_at w ab mb _ hM.c0 j hj
  have KW := dlasts_any (hM.dk j hj)
  have m0 := hM.m0 j hj
  clear hM ok
  go_enter Tryz.func29, Tryz.ntmps29
  go_wp2_with fail
  refine KP.mono ?_
  rintro _ wq ⟨rfl, hwq⟩
  rw [hwq]
  clear hwq wq KP
  go_wp2_with fail
  refine KW.mono ?_
  rintro _ w1 ⟨v, rfl, O1, B1⟩
  go_wp2
  go_ret
  exact ⟨_, rfl, O1, B1⟩
theorem awaits_at (h : ArAt w ab GA a) {j : Nat} (hj : j < a.D.length) : Calls Tryz.prog 27 #[.pointer (some ⟨ab, 0, none⟩), .int .i64 (j : Int)] w fun e w' => ∃ v, e = .returned v ∧ OwnH w' w.heap.size v (heldL (a.D.getD j default).wait (a.D.getD j default).s) ∧ Below w.heap.size w w' := by
  obtain ⟨mb, db, GD, hM, ok⟩ := h
  have KP := @amem_at w ab mb _ hM.c0 j hj
  have KW := dwaits_any (hM.dk j hj)
  have m0 := hM.m0 j hj
  clear hM ok
  go_enter Tryz.func27, Tryz.ntmps27
  go_wp2_with fail
  refine KP.mono ?_
  rintro _ wq ⟨rfl, hwq⟩
  rw [hwq]
  clear hwq wq KP
  go_wp2_with fail
  refine KW.mono ?_
  rintro _ w1 ⟨v, rfl, O1, B1⟩
  go_wp2
  go_ret
  exact ⟨_, rfl, O1, B1⟩
end
end Go.Proofs.YtddnfhfangfgeaaGreat.Gf

namespace Go.Proofs.YtddnfhfangfgeaaGreat.Gf
set_option linter.unusedVariables false
set_option linter.unusedSimpArgs false
open Go.RowKit
/-- how many were written, and what is told -/
def wnT (a : ArS) (g : GeoS) (st ep : Int) (R : List (List UInt8)) (B : List Nat) : Nat := if pcT a g st ep R B = true then 0 else pnT a g st ep R B B.length
def wxT (a : ArS) (g : GeoS) (st ep : Int) (R : List (List UInt8)) (B : List Nat) : Int := if pcT a g st ep R B = true then 130 else 0
theorem wf_small {x : Int} (h0 : 0 ≤ x) (h1 : x ≤ 100000) : (Lit.int .i64 x).wf = true := by
  simp [Lit.wf, IntKind.min, IntKind.max, IntKind.signed, IntKind.bits]; omega
theorem getD_memN {B : List Nat} {r : Nat} (h : r < B.length) : B.getD r 0 ∈ B := by
  rw [show B.getD r 0 = B[r] by simp [List.getD, h]]
  exact List.getElem_mem h
set_option maxRecDepth 100000 in
set_option maxHeartbeats 4000000 in
theorem pwrite_any {w : World} {ab : Nat} {GA : Nat → Prop} {a : ArS} (h : ArAt w ab GA a) {pf : Option Addr} {g : GeoS} (hg : g.Wf) {st ep : Int} (hst : (Lit.int .i64 st).wf = true) (hT : OkT g st ep) {vs vi : Value} {R : List (List UInt8)} {B : List Nat} (hR : ToldL w GA vs R) (hI : ToldI w GA vi B) (hB : ∀ i, i ∈ B → i < nT g ∧ i < R.length) (hrow : ∀ i, i < R.length → (ro R i).length ≤ 4096) (hl : B.length ≤ 1000) :
    Calls Tryz.prog 52 #[aggP (some ⟨ab, 0, none⟩) pf g st ep, vs, vi] w (LeavesA w ab GA (psT a g st ep R B B.length) (.tuple #[.int .i64 ((wnT a g st ep R B : Nat) : Int), .int .i64 (wxT a g st ep R B)])) := by
  have zz := okG_nat hT.1
  have sin := stG_in hT.1 hT.2.1 hT.2.2.1
  obtain ⟨at_, t0⟩ : ∃ x, Hid (x = stG g st) := ⟨_, rfl⟩
  rw [← t0.out] at sin
  obtain ⟨AR, hAR⟩ : ∃ AR : Nat → ArS, Hid (AR = psT a g st ep R B) := ⟨_, rfl⟩
  obtain ⟨PN, hPN⟩ : ∃ PN : Nat → Nat, Hid (PN = pnT a g st ep R B) := ⟨_, rfl⟩
  have AR0 : Hid (AR 0 = a) := by show _ = _; rw [hAR.out]; rfl
  have PN0 : Hid (PN 0 = 0) := by show _ = _; rw [hPN.out]; rfl
  have ARs : Hid (∀ r, AR (r + 1) = puS (AR r) g st ep (B.getD r 0) (ro R (B.getD r 0))) := fun r => by rw [hAR.out]; rfl
  have PNs : Hid (∀ r, PN (r + 1) = PN r + (if puX (AR r) g st ep (B.getD r 0) (ro R (B.getD r 0)) = 0 then 1 else 0)) := fun r => by rw [hPN.out, hAR.out]; rfl
  have SX : Hid (∀ r, r < B.length → (AR r).off = true → wnT a g st ep R B = 0 ∧ wxT a g st ep R B = 130 ∧ psT a g st ep R B B.length = AR r) := fun r hr ho => by
    rw [hAR.out] at ho ⊢
    obtain ⟨q1, q2⟩ := pc_at hr ho
    exact ⟨if_pos q1, if_pos q1, q2⟩
  have SN : Hid ((∀ r, r < B.length → (AR r).off = false) → wnT a g st ep R B = PN B.length ∧ wxT a g st ep R B = 0 ∧ psT a g st ep R B B.length = AR B.length) := fun ho => by
    have q1 : ¬ pcT a g st ep R B = true := by rw [pc_end (fun i hi => by rw [← hAR.out]; exact ho i hi)]; decide
    exact ⟨by rw [hPN.out]; exact if_neg q1, if_neg q1, by rw [hAR.out]⟩
  have PNle : Hid (∀ r, r ≤ 1001 → PN r ≤ r) := fun r _ => by
    rw [hPN.out]
    induction r with
    | zero => exact Nat.le_refl _
    | succ r ih =>
      have := ih (by omega)
      show pnT a g st ep R B r + _ ≤ _
      split <;> omega
  have KP := fun W => @pplace_any W (some ⟨ab, 0, none⟩) pf g st ep hg hst _ t0.out.symm
  have KD := fun W (i : Nat) (hi : i < nT g) => @pdisk_any W (some ⟨ab, 0, none⟩) pf g st ep hg hst (i : Int) (wf_small (by omega) (by have := zz.2.2.2.2.1; omega)) _ rfl
  have KK := fun W (v : Value) (b : List UInt8) (hb : b.length ≤ 4096) (hr : Rd W v b) => spack_any (a := at_) (e := ep) hr
  have KX : Hid (∀ b : List UInt8, b.length ≤ 4096 → paX at_ ep b = 0 ∧ paR at_ ep b = pkT g st ep b) := fun b hb => by
    rw [t0.out]; exact pa_ok (hT.se hb)
  have DI : Hid (∀ i : Nat, i < nT g → 0 ≤ diG g st (i : Int) ∧ diG g st (i : Int) ≤ 100000) := fun i hi => by
    have := diG_in hT.1 hT.2.1 hT.2.2.1 hi
    have := zz.2.2.2.2.1
    omega
  have EX : Hid (∀ r, puX (AR r) g st ep (B.getD r 0) (ro R (B.getD r 0)) = wrAX (AR r) (diG g st ((B.getD r 0 : Nat) : Int)) at_ (pkT g st ep (ro R (B.getD r 0)))) := fun r => by rw [t0.out]; rfl
  have ES : Hid (∀ r, puS (AR r) g st ep (B.getD r 0) (ro R (B.getD r 0)) = wrAS (AR r) (diG g st ((B.getD r 0 : Nat) : Int)) at_ (pkT g st ep (ro R (B.getD r 0)))) := fun r => by rw [t0.out]; rfl
  have wat : (Lit.int .i64 at_).wf = true := wf_small (by omega) (by omega)
  have HB : Hid (∀ i, i ∈ B → i < nT g ∧ i < R.length) := hB
  have Hrow : Hid (∀ i, i < R.length → (ro R i).length ≤ 4096) := hrow
  have HGA : Hid (∀ k, GA k → k < w.heap.size) := h.lt
  clear zz sin t0 hAR hPN hB hrow hT
  obtain ⟨DG, hDG⟩ : ∃ DG : Nat → Int, Hid (DG = fun i : Nat => diG g st (i : Int)) := ⟨_, rfl⟩
  have KD' : ∀ W (i : Nat), i < nT g → Calls Tryz.prog 87 #[aggP (some ⟨ab, 0, none⟩) pf g st ep, .int .i64 (i : Int)] W fun e w' => e = .returned (.int .i64 (DG i)) ∧ Below W.heap.size W w' := fun W i hi => by rw [hDG.out]; exact KD W i hi
  have DI' : Hid (∀ i : Nat, i < nT g → 0 ≤ DG i ∧ DG i ≤ 100000) := by rw [hDG.out]; exact DI
  have EX' : Hid (∀ r, puX (AR r) g st ep (B.getD r 0) (ro R (B.getD r 0)) = wrAX (AR r) (DG (B.getD r 0)) at_ (pkT g st ep (ro R (B.getD r 0)))) := by rw [hDG.out]; exact EX
  have ES' : Hid (∀ r, puS (AR r) g st ep (B.getD r 0) (ro R (B.getD r 0)) = wrAS (AR r) (DG (B.getD r 0)) at_ (pkT g st ep (ro R (B.getD r 0)))) := by rw [hDG.out]; exact ES
  clear KD DI EX ES hDG
  obtain ⟨k, m, z, s, t, o⟩ := g
  obtain ⟨fin1, hf1⟩ : ∃ x, Hid (x = psT a ⟨k, m, z, s, t, o⟩ st ep R B B.length) := ⟨_, rfl⟩
  obtain ⟨fin2, hf2⟩ : ∃ x, Hid (x = wnT a ⟨k, m, z, s, t, o⟩ st ep R B) := ⟨_, rfl⟩
  obtain ⟨fin3, hf3⟩ : ∃ x, Hid (x = wxT a ⟨k, m, z, s, t, o⟩ st ep R B) := ⟨_, rfl⟩
  rw [← hf1.out, ← hf2.out, ← hf3.out]
  have LB := spot_laid w (some ⟨ab, 0, none⟩) pf ⟨k, m, z, s, t, o⟩ st ep 103
  unfold aggP at KP KD' ⊢
  simp only [cellsP] at KP KD' LB ⊢
  obtain ⟨sa, sc, rfl⟩ := hR.rs.form
  obtain ⟨ia, ic, rfl⟩ := hI.form
  obtain ⟨W0, hW0⟩ : ∃ W0, W0 = w.alloc (.cells #[.pointer (some ⟨ab, 0, none⟩), .pointer pf, .int .i64 k, .int .i64 m, .int .i64 z, .int .i64 s, .int .i64 t, .int .i64 o, .int .i64 st, .int .i64 ep] 103) := ⟨_, rfl⟩
  rw [← hW0] at LB
  obtain ⟨SP0, F0⟩ := LB _ (Below.refl _ _)
  have HSP : Hid (SpotAt W0 w.heap.size (some ⟨ab, 0, none⟩) pf ⟨k, m, z, s, t, o⟩ st ep ∧ ¬ GA w.heap.size) := ⟨SP0, fun q => Nat.lt_irrefl _ (HGA.out _ q)⟩
  have TL : Hid (ToldL W0 GA (.slice sa R.length sc) R) := hR.below F0
  have TI : Hid (ToldI W0 GA (.slice ia B.length ic) B) := hI.below F0
  have A0 : Hid (ArAt W0 ab GA (AR 0)) := by rw [AR0.out]; exact h.below F0
  have G0 : Hid (Grew GA w GA W0) := Grew.of_below F0
  clear LB SP0 F0 hR hI h
  go_enter Tryz.func52, Tryz.ntmps52
  go_wp2_with fail
  rw [← hW0]
  clear hW0
  go_step3
  go_wp2_with fail
  go_step3
  go_wp2_with fail
  go_loopw [8, 9, 16] (fun wn wt i wr => ∃ r : Nat, r ≤ B.length ∧ i = .int .i64 (r : Int) ∧ wn = .int .i64 ((PN r : Nat) : Int) ∧ wt = .int .i64 0 ∧ (∃ G', ArAt wr ab G' (AR r) ∧ Grew GA W0 G' wr) ∧ ∀ j, j < r → (AR j).off = false) (fun _ _ i _ => B.length - (intOf i).toNat)
  case atStart => exact ⟨0, Nat.zero_le _, rfl, by rw [PN0.out]; rfl, rfl, ⟨GA, A0.out, Grew.refl _ _⟩, fun j hj => absurd hj (Nat.not_lt_zero _)⟩
  case round =>
    clear A0
    obtain ⟨r, hr, rfl, rfl, rfl, ⟨G', hA, hGr⟩, hoff⟩ := hrel
    obtain ⟨pn, hpn⟩ : ∃ pn, Hid (PN r = pn) := ⟨_, rfl⟩
    rw [hpn.out]
    by_cases hlt : r < B.length
    · have hlt' : (r : Int) < (B.length : Int) := by omega
      have g1 : IntKind.i64.wrap ((r : Int) + 1) = ((r + 1 : Nat) : Int) := by rw [IntKind.wrap_i64]; omega
      obtain ⟨sh, hsh⟩ : ∃ sh, Hid (B.getD r 0 = sh) := ⟨_, rfl⟩
      obtain ⟨hsn, hsR⟩ : Hid (sh < nT ⟨k, m, z, s, t, o⟩) ∧ sh < R.length := by
        have := HB.out _ (getD_memN hlt)
        rw [hsh.out] at this
        exact this
      have hsR' : (sh : Int) < (R.length : Int) := by omega
      obtain ⟨ib, rfl, _, _, ci⟩ := (TI.out.grew hGr).at hlt
      rw [hsh.out] at ci
      obtain ⟨xb, xo, esx⟩ : ∃ xb xo, sa = some ⟨xb, xo, none⟩ := by
        obtain ⟨b, off, _, _, e, _⟩ := TL.out.rs.at hsR
        exact ⟨b, off, e⟩
      subst esx
      obtain ⟨xa, xc, cx, Tx, xlt, xng⟩ := (TL.out.grew hGr).spot hsR rfl
      obtain ⟨LN, hLN⟩ : ∃ LN, Hid (LN = (ro R sh).length) := ⟨_, rfl⟩
      rw [← hLN.out] at cx Tx
      have ng : Hid (¬ G' w.heap.size) := hGr.off HSP.out.1.lt HSP.out.2
      have SPr : Hid (SpotAt wr w.heap.size (some ⟨ab, 0, none⟩) pf ⟨k, m, z, s, t, o⟩ st ep) := HSP.out.1.turn HSP.out.2 hGr.turn
      have BD : Below wr.heap.size wr wr.drew := (Below.refl _ _).drew
      have SE : Hid (∀ W, Below wr.heap.size wr W → W.cell? ⟨xb, xo + sh, none⟩ = some (.slice xa LN xc) ∧ W.cell? ⟨w.heap.size, 0, none⟩ = some (.pointer (some ⟨ab, 0, none⟩)) ∧ W.cell? ⟨w.heap.size, 1, none⟩ = some (.pointer pf) ∧ W.cell? ⟨w.heap.size, 2, none⟩ = some (.int .i64 k) ∧ W.cell? ⟨w.heap.size, 3, none⟩ = some (.int .i64 m) ∧ W.cell? ⟨w.heap.size, 4, none⟩ = some (.int .i64 z) ∧ W.cell? ⟨w.heap.size, 5, none⟩ = some (.int .i64 s) ∧ W.cell? ⟨w.heap.size, 6, none⟩ = some (.int .i64 t) ∧ W.cell? ⟨w.heap.size, 7, none⟩ = some (.int .i64 o) ∧ W.cell? ⟨w.heap.size, 8, none⟩ = some (.int .i64 st) ∧ W.cell? ⟨w.heap.size, 9, none⟩ = some (.int .i64 ep)) := fun W b => ⟨(b.cell (p := ⟨xb, xo + sh, none⟩) xlt).trans cx, (SPr.out.below SPr.out.lt b).all⟩
      have SB : Hid (∀ W, Below wr.drew.heap.size wr.drew W → W.cell? ⟨xb, xo + sh, none⟩ = some (.slice xa LN xc) ∧ W.cell? ⟨w.heap.size, 0, none⟩ = some (.pointer (some ⟨ab, 0, none⟩)) ∧ W.cell? ⟨w.heap.size, 1, none⟩ = some (.pointer pf) ∧ W.cell? ⟨w.heap.size, 2, none⟩ = some (.int .i64 k) ∧ W.cell? ⟨w.heap.size, 3, none⟩ = some (.int .i64 m) ∧ W.cell? ⟨w.heap.size, 4, none⟩ = some (.int .i64 z) ∧ W.cell? ⟨w.heap.size, 5, none⟩ = some (.int .i64 s) ∧ W.cell? ⟨w.heap.size, 6, none⟩ = some (.int .i64 t) ∧ W.cell? ⟨w.heap.size, 7, none⟩ = some (.int .i64 o) ∧ W.cell? ⟨w.heap.size, 8, none⟩ = some (.int .i64 st) ∧ W.cell? ⟨w.heap.size, 9, none⟩ = some (.int .i64 ep)) := fun W b => SE.out W (BD.stepL b BD.size)
      have s0 := SE.out wr (Below.refl _ _)
      have sD := SE.out _ BD
      have RX : Hid (∀ W, Below wr.heap.size wr W → Rd W (.slice xa LN xc) (ro R sh)) := fun W b => Tx.rd.below b
      obtain ⟨pk, hpk⟩ : ∃ pk, Hid (pk = pkT ⟨k, m, z, s, t, o⟩ st ep (ro R sh)) := ⟨_, rfl⟩
      have KK1 : ∀ W, Rd W (.slice xa LN xc) (ro R sh) → Calls Tryz.prog 85 #[.int .i64 at_, .int .i64 ep, .slice xa LN xc] W (MakesS W 0 pk) := fun W hr => by
        have := KK W _ (ro R sh) (Hrow.out _ hsR) hr
        rw [(KX.out _ (Hrow.out _ hsR)).1, (KX.out _ (Hrow.out _ hsR)).2, ← hpk.out] at this
        exact this
      have KD1 := fun W => KD' W sh hsn
      obtain ⟨dd, hdd⟩ : ∃ dd, Hid (dd = DG sh) := ⟨_, rfl⟩
      rw [← hdd.out] at KD1
      have wdd : (Lit.int .i64 dd).wf = true := by rw [hdd.out]; exact wf_small (DI'.out sh hsn).1 (DI'.out sh hsn).2
      obtain ⟨px, hpx⟩ : ∃ px, Hid (puX (AR r) ⟨k, m, z, s, t, o⟩ st ep sh (ro R sh) = px) := ⟨_, rfl⟩
      obtain ⟨AN, hAN⟩ : ∃ AN, Hid (puS (AR r) ⟨k, m, z, s, t, o⟩ st ep sh (ro R sh) = AN) := ⟨_, rfl⟩
      have KW : ∀ W, Below wr.heap.size wr W → ∀ {pa : Option Addr} {pc LP : Nat}, Rd W (.slice pa LP pc) pk → Calls Tryz.prog 70 #[.pointer (some ⟨ab, 0, none⟩), .int .i64 dd, .int .i64 at_, .slice pa LP pc] W (LeavesA W ab G' AN (.int .i64 px)) := fun W b _ _ _ hp => by
        have := awrite_any (hA.below b) wdd wat hp
        have e1 := EX'.out r
        have e2 := ES'.out r
        rw [hsh.out, ← hdd.out, ← hpk.out, hpx.out] at e1
        rw [hsh.out, ← hdd.out, ← hpk.out, hAN.out] at e2
        rw [← e1, ← e2] at this
        exact this
      have ST : Hid (∀ W G5 W5, Below wr.heap.size wr W → Grew G' W G5 W5 → W5.cell? ⟨w.heap.size, 0, none⟩ = some (.pointer (some ⟨ab, 0, none⟩)) ∧ W5.cell? ⟨w.heap.size, 1, none⟩ = some (.pointer pf) ∧ W5.cell? ⟨w.heap.size, 2, none⟩ = some (.int .i64 k) ∧ W5.cell? ⟨w.heap.size, 3, none⟩ = some (.int .i64 m) ∧ W5.cell? ⟨w.heap.size, 4, none⟩ = some (.int .i64 z) ∧ W5.cell? ⟨w.heap.size, 5, none⟩ = some (.int .i64 s) ∧ W5.cell? ⟨w.heap.size, 6, none⟩ = some (.int .i64 t) ∧ W5.cell? ⟨w.heap.size, 7, none⟩ = some (.int .i64 o) ∧ W5.cell? ⟨w.heap.size, 8, none⟩ = some (.int .i64 st) ∧ W5.cell? ⟨w.heap.size, 9, none⟩ = some (.int .i64 ep)) := fun W G5 W5 b gg => ((SPr.out.below SPr.out.lt b).turn ng.out gg.turn).all
      have E2D : Hid (∀ {v2 v3 : World}, Below v2.drew.heap.size v2.drew v3 → Below v2.heap.size v2 v3) := fun b => ((Below.refl _ _).drew).stepL b (Nat.le_refl _)
      have HARs : Hid _ := ARs.out r
      have HPNs : Hid _ := PNs.out r
      rw [hsh.out] at HARs HPNs
      clear cx Tx hA xlt xng wdd
      by_cases ho : (AR r).off = true
      · have e1 : px = 130 := by rw [← hpx.out]; exact puX_crash.2 ho
        have e2 : Hid (AN = AR r) := by show _ = _; rw [← hAN.out]; exact puS_off ho _ _
        have E9 : Hid _ := SX.out r hlt ho
        clear ho hoff
        subst e1
        go_wp2_with fail
        go_region_held3 (fun wx => wx.cell? ⟨xb, xo + sh, none⟩ = some (.slice xa LN xc) ∧ wx.cell? ⟨w.heap.size, 0, none⟩ = some (.pointer (some ⟨ab, 0, none⟩)) ∧ wx.cell? ⟨w.heap.size, 1, none⟩ = some (.pointer pf) ∧ wx.cell? ⟨w.heap.size, 2, none⟩ = some (.int .i64 k) ∧ wx.cell? ⟨w.heap.size, 3, none⟩ = some (.int .i64 m) ∧ wx.cell? ⟨w.heap.size, 4, none⟩ = some (.int .i64 z) ∧ wx.cell? ⟨w.heap.size, 5, none⟩ = some (.int .i64 s) ∧ wx.cell? ⟨w.heap.size, 6, none⟩ = some (.int .i64 t) ∧ wx.cell? ⟨w.heap.size, 7, none⟩ = some (.int .i64 o) ∧ wx.cell? ⟨w.heap.size, 8, none⟩ = some (.int .i64 st) ∧ wx.cell? ⟨w.heap.size, 9, none⟩ = some (.int .i64 ep)) (first | exact s0 | exact sD | exact s1 | exact s2) (first
          | (go_at_call 86; go_loud (refine (KP _).mono ?_); rintro _ v1 ⟨rfl, b1⟩; go_loud (have s1 := SB.out _ b1); go_loud (have E1 : Hid (Below wr.heap.size wr v1) := BD.stepL b1 BD.size))
          | (go_at_call 85; go_loud (refine (KK1 _ (RX.out _ E1.out)).mono ?_); rintro _ v2 ⟨vp, rfl, R2, b2⟩; have E2 : Hid (Below wr.heap.size wr v2) := E1.out.stepL b2 E1.out.size; have s2 := SE.out _ E2.out; obtain ⟨pa, pc, rfl⟩ := R2.form))
        have HR2 : Hid (Rd v2 (.slice pa pk.length pc) pk) := R2
        have c2 := s2.2
        clear s0 sD s1 s2 b1 b2 R2 E1
        obtain ⟨LP, hLP⟩ : ∃ LP, Hid (LP = pk.length) := ⟨_, rfl⟩
        rw [← hLP.out] at HR2 ⊢
        have d2 := (SE.out _ (E2.out.drew)).2
        have BD2 : Hid (Below wr.heap.size wr v2.drew) := E2.out.drew
        go_wp2_with fail
        go_region_held3 (fun wx => wx.cell? ⟨w.heap.size, 0, none⟩ = some (.pointer (some ⟨ab, 0, none⟩)) ∧ wx.cell? ⟨w.heap.size, 1, none⟩ = some (.pointer pf) ∧ wx.cell? ⟨w.heap.size, 2, none⟩ = some (.int .i64 k) ∧ wx.cell? ⟨w.heap.size, 3, none⟩ = some (.int .i64 m) ∧ wx.cell? ⟨w.heap.size, 4, none⟩ = some (.int .i64 z) ∧ wx.cell? ⟨w.heap.size, 5, none⟩ = some (.int .i64 s) ∧ wx.cell? ⟨w.heap.size, 6, none⟩ = some (.int .i64 t) ∧ wx.cell? ⟨w.heap.size, 7, none⟩ = some (.int .i64 o) ∧ wx.cell? ⟨w.heap.size, 8, none⟩ = some (.int .i64 st) ∧ wx.cell? ⟨w.heap.size, 9, none⟩ = some (.int .i64 ep)) (first | exact c2 | exact d2 | exact c3 | exact c4 | exact c5) (first
          | (go_at_call 87; go_loud (refine (KD1 _).mono ?_); rintro _ v3 ⟨rfl, b3⟩; have E3 : Hid (Below wr.heap.size wr v3) := BD2.out.stepL b3 BD2.out.size; have c3 := (SE.out _ E3.out).2)
          | (go_at_call 86; go_loud (refine (KP _).mono ?_); rintro _ v4 ⟨rfl, b4⟩; have E4 : Hid (Below wr.heap.size wr v4) := E3.out.stepL b4 E3.out.size; have c4 := (SE.out _ E4.out).2; go_loud (have R4 := (HR2.out.below (E2D.out b3)).below b4))
          | (go_at_call 70; go_loud (refine (KW _ E4.out R4).mono ?_); rintro _ v5 ⟨rfl, G5, A5, g5⟩; go_loud (have c5 := ST.out _ _ _ E4.out g5)))
        have HA5 : Hid _ := A5
        have HG5 : Hid (Grew GA W0 G5 v5) := hGr.trans ((Grew.of_below E4.out).trans g5)
        clear c2 d2 c3 c4 c5 b3 b4 R4 A5 g5 E2 E3 E4 BD2 KK1 KD1 KW HR2 hGr
        go_wp2
        try rw [Exit.noGoto_ret]
        refine bodyPost_ret (v := .tuple #[.int .i64 0, .int .i64 130]) (by simp [results, Tryz.results52, go_sem]) rfl ?_
        exact ⟨by rw [hf2.out, hf3.out, E9.out.1, E9.out.2.1]; rfl, G5, by rw [hf1.out, E9.out.2.2, ← e2.out]; exact HA5.out, G0.out.trans HG5.out⟩
      · have ho' : (AR r).off = false := by simpa using ho
        have e1 : ¬ px = 130 := by rw [← hpx.out]; exact fun e => ho (puX_crash.1 e)
        have e1' : (px == 130) = false := beq_eq_false_iff_ne.2 e1
        have e2 : Hid (AN = AR (r + 1)) := by show _ = _; rw [← hAN.out]; exact HARs.out.symm
        have H2 : Hid (∀ j, j < r + 1 → (AR j).off = false) := fun j hj => by
          by_cases e : j = r
          · rw [e]; exact ho'
          · exact hoff j (by omega)
        have HP : Hid (PN (r + 1) = pn + (if px = 0 then 1 else 0)) := by
          show _ = _
          rw [HPNs.out, hpx.out, hpn.out]
        clear hoff ho ho' HPNs
        by_cases hp0 : px = 0
        · have HP1 : Hid (PN (r + 1) = pn + 1) := by show _ = _; rw [HP.out, if_pos hp0]
          have gp : IntKind.i64.wrap ((pn : Int) + 1) = ((pn + 1 : Nat) : Int) := by
            have := PNle.out (r + 1) (by omega)
            have := HP1.out
            rw [IntKind.wrap_i64]; omega
          subst hp0
          go_wp2_with fail
          go_region_held3 (fun wx => wx.cell? ⟨xb, xo + sh, none⟩ = some (.slice xa LN xc) ∧ wx.cell? ⟨w.heap.size, 0, none⟩ = some (.pointer (some ⟨ab, 0, none⟩)) ∧ wx.cell? ⟨w.heap.size, 1, none⟩ = some (.pointer pf) ∧ wx.cell? ⟨w.heap.size, 2, none⟩ = some (.int .i64 k) ∧ wx.cell? ⟨w.heap.size, 3, none⟩ = some (.int .i64 m) ∧ wx.cell? ⟨w.heap.size, 4, none⟩ = some (.int .i64 z) ∧ wx.cell? ⟨w.heap.size, 5, none⟩ = some (.int .i64 s) ∧ wx.cell? ⟨w.heap.size, 6, none⟩ = some (.int .i64 t) ∧ wx.cell? ⟨w.heap.size, 7, none⟩ = some (.int .i64 o) ∧ wx.cell? ⟨w.heap.size, 8, none⟩ = some (.int .i64 st) ∧ wx.cell? ⟨w.heap.size, 9, none⟩ = some (.int .i64 ep)) (first | exact s0 | exact sD | exact s1 | exact s2) (first
            | (go_at_call 86; go_loud (refine (KP _).mono ?_); rintro _ v1 ⟨rfl, b1⟩; go_loud (have s1 := SB.out _ b1); go_loud (have E1 : Hid (Below wr.heap.size wr v1) := BD.stepL b1 BD.size))
            | (go_at_call 85; go_loud (refine (KK1 _ (RX.out _ E1.out)).mono ?_); rintro _ v2 ⟨vp, rfl, R2, b2⟩; have E2 : Hid (Below wr.heap.size wr v2) := E1.out.stepL b2 E1.out.size; have s2 := SE.out _ E2.out; obtain ⟨pa, pc, rfl⟩ := R2.form))
          have HR2 : Hid (Rd v2 (.slice pa pk.length pc) pk) := R2
          have c2 := s2.2
          clear s0 sD s1 s2 b1 b2 R2 E1
          obtain ⟨LP, hLP⟩ : ∃ LP, Hid (LP = pk.length) := ⟨_, rfl⟩
          rw [← hLP.out] at HR2 ⊢
          have d2 := (SE.out _ (E2.out.drew)).2
          have BD2 : Hid (Below wr.heap.size wr v2.drew) := E2.out.drew
          go_wp2_with fail
          go_region_held3 (fun wx => wx.cell? ⟨w.heap.size, 0, none⟩ = some (.pointer (some ⟨ab, 0, none⟩)) ∧ wx.cell? ⟨w.heap.size, 1, none⟩ = some (.pointer pf) ∧ wx.cell? ⟨w.heap.size, 2, none⟩ = some (.int .i64 k) ∧ wx.cell? ⟨w.heap.size, 3, none⟩ = some (.int .i64 m) ∧ wx.cell? ⟨w.heap.size, 4, none⟩ = some (.int .i64 z) ∧ wx.cell? ⟨w.heap.size, 5, none⟩ = some (.int .i64 s) ∧ wx.cell? ⟨w.heap.size, 6, none⟩ = some (.int .i64 t) ∧ wx.cell? ⟨w.heap.size, 7, none⟩ = some (.int .i64 o) ∧ wx.cell? ⟨w.heap.size, 8, none⟩ = some (.int .i64 st) ∧ wx.cell? ⟨w.heap.size, 9, none⟩ = some (.int .i64 ep)) (first | exact c2 | exact d2 | exact c3 | exact c4 | exact c5) (first
            | (go_at_call 87; go_loud (refine (KD1 _).mono ?_); rintro _ v3 ⟨rfl, b3⟩; have E3 : Hid (Below wr.heap.size wr v3) := BD2.out.stepL b3 BD2.out.size; have c3 := (SE.out _ E3.out).2)
            | (go_at_call 86; go_loud (refine (KP _).mono ?_); rintro _ v4 ⟨rfl, b4⟩; have E4 : Hid (Below wr.heap.size wr v4) := E3.out.stepL b4 E3.out.size; have c4 := (SE.out _ E4.out).2; go_loud (have R4 := (HR2.out.below (E2D.out b3)).below b4))
            | (go_at_call 70; go_loud (refine (KW _ E4.out R4).mono ?_); rintro _ v5 ⟨rfl, G5, A5, g5⟩; go_loud (have c5 := ST.out _ _ _ E4.out g5)))
          have HA5 : Hid _ := A5
          have HG5 : Hid (Grew GA W0 G5 v5) := hGr.trans ((Grew.of_below E4.out).trans g5)
          clear c2 d2 c3 c4 c5 b3 b4 R4 A5 g5 E2 E3 E4 BD2 KK1 KD1 KW HR2 hGr
          go_wp2
          go_roundw
          case rel => exact ⟨r + 1, by omega, by go_num, by rw [HP1.out] <;> first | rfl | go_num, rfl, ⟨G5, by rw [← e2.out]; exact HA5.out, HG5.out⟩, H2.out⟩
          case measure => simp [intOf]; omega
        · have HP1 : Hid (PN (r + 1) = pn) := by show _ = _; rw [HP.out, if_neg hp0]; rfl
          have hp0' : (px == 0) = false := beq_eq_false_iff_ne.2 hp0
          go_wp2_with fail
          go_region_held3 (fun wx => wx.cell? ⟨xb, xo + sh, none⟩ = some (.slice xa LN xc) ∧ wx.cell? ⟨w.heap.size, 0, none⟩ = some (.pointer (some ⟨ab, 0, none⟩)) ∧ wx.cell? ⟨w.heap.size, 1, none⟩ = some (.pointer pf) ∧ wx.cell? ⟨w.heap.size, 2, none⟩ = some (.int .i64 k) ∧ wx.cell? ⟨w.heap.size, 3, none⟩ = some (.int .i64 m) ∧ wx.cell? ⟨w.heap.size, 4, none⟩ = some (.int .i64 z) ∧ wx.cell? ⟨w.heap.size, 5, none⟩ = some (.int .i64 s) ∧ wx.cell? ⟨w.heap.size, 6, none⟩ = some (.int .i64 t) ∧ wx.cell? ⟨w.heap.size, 7, none⟩ = some (.int .i64 o) ∧ wx.cell? ⟨w.heap.size, 8, none⟩ = some (.int .i64 st) ∧ wx.cell? ⟨w.heap.size, 9, none⟩ = some (.int .i64 ep)) (first | exact s0 | exact sD | exact s1 | exact s2) (first
            | (go_at_call 86; go_loud (refine (KP _).mono ?_); rintro _ v1 ⟨rfl, b1⟩; go_loud (have s1 := SB.out _ b1); go_loud (have E1 : Hid (Below wr.heap.size wr v1) := BD.stepL b1 BD.size))
            | (go_at_call 85; go_loud (refine (KK1 _ (RX.out _ E1.out)).mono ?_); rintro _ v2 ⟨vp, rfl, R2, b2⟩; have E2 : Hid (Below wr.heap.size wr v2) := E1.out.stepL b2 E1.out.size; have s2 := SE.out _ E2.out; obtain ⟨pa, pc, rfl⟩ := R2.form))
          have HR2 : Hid (Rd v2 (.slice pa pk.length pc) pk) := R2
          have c2 := s2.2
          clear s0 sD s1 s2 b1 b2 R2 E1
          obtain ⟨LP, hLP⟩ : ∃ LP, Hid (LP = pk.length) := ⟨_, rfl⟩
          rw [← hLP.out] at HR2 ⊢
          have d2 := (SE.out _ (E2.out.drew)).2
          have BD2 : Hid (Below wr.heap.size wr v2.drew) := E2.out.drew
          go_wp2_with fail
          go_region_held3 (fun wx => wx.cell? ⟨w.heap.size, 0, none⟩ = some (.pointer (some ⟨ab, 0, none⟩)) ∧ wx.cell? ⟨w.heap.size, 1, none⟩ = some (.pointer pf) ∧ wx.cell? ⟨w.heap.size, 2, none⟩ = some (.int .i64 k) ∧ wx.cell? ⟨w.heap.size, 3, none⟩ = some (.int .i64 m) ∧ wx.cell? ⟨w.heap.size, 4, none⟩ = some (.int .i64 z) ∧ wx.cell? ⟨w.heap.size, 5, none⟩ = some (.int .i64 s) ∧ wx.cell? ⟨w.heap.size, 6, none⟩ = some (.int .i64 t) ∧ wx.cell? ⟨w.heap.size, 7, none⟩ = some (.int .i64 o) ∧ wx.cell? ⟨w.heap.size, 8, none⟩ = some (.int .i64 st) ∧ wx.cell? ⟨w.heap.size, 9, none⟩ = some (.int .i64 ep)) (first | exact c2 | exact d2 | exact c3 | exact c4 | exact c5) (first
            | (go_at_call 87; go_loud (refine (KD1 _).mono ?_); rintro _ v3 ⟨rfl, b3⟩; have E3 : Hid (Below wr.heap.size wr v3) := BD2.out.stepL b3 BD2.out.size; have c3 := (SE.out _ E3.out).2)
            | (go_at_call 86; go_loud (refine (KP _).mono ?_); rintro _ v4 ⟨rfl, b4⟩; have E4 : Hid (Below wr.heap.size wr v4) := E3.out.stepL b4 E3.out.size; have c4 := (SE.out _ E4.out).2; go_loud (have R4 := (HR2.out.below (E2D.out b3)).below b4))
            | (go_at_call 70; go_loud (refine (KW _ E4.out R4).mono ?_); rintro _ v5 ⟨rfl, G5, A5, g5⟩; go_loud (have c5 := ST.out _ _ _ E4.out g5)))
          have HA5 : Hid _ := A5
          have HG5 : Hid (Grew GA W0 G5 v5) := hGr.trans ((Grew.of_below E4.out).trans g5)
          clear c2 d2 c3 c4 c5 b3 b4 R4 A5 g5 E2 E3 E4 BD2 KK1 KD1 KW HR2 hGr
          go_wp2
          go_roundw
          case rel => exact ⟨r + 1, by omega, by go_num, by rw [HP1.out] <;> first | rfl | go_num, rfl, ⟨G5, by rw [← e2.out]; exact HA5.out, HG5.out⟩, H2.out⟩
          case measure => simp [intOf]; omega
    · obtain rfl : r = B.length := by omega
      have hlt' : ¬ (B.length : Int) < (B.length : Int) := by omega
      have E9 : Hid _ := SN.out hoff
      have HA5 : Hid (ArAt wr ab G' (AR B.length)) := hA
      have HG5 : Hid (Grew GA W0 G' wr) := hGr
      clear hA hGr hoff
      go_wp2
      try rw [Exit.noGoto_ret]
      refine bodyPost_ret (v := .tuple #[.int .i64 (pn : Int), .int .i64 0]) (by simp [results, Tryz.results52, go_sem]) rfl ?_
      exact ⟨by rw [hf2.out, hf3.out, E9.out.1, E9.out.2.1, hpn.out], G', by rw [hf1.out, E9.out.2.2]; exact HA5.out, G0.out.trans HG5.out⟩
end Go.Proofs.YtddnfhfangfgeaaGreat.Gf

namespace Go.Proofs.YtddnfhfangfgeaaGreat.Gf
set_option linter.unusedVariables false
set_option linter.unusedSimpArgs false
open Go.RowKit
/-- .. in new memory -/
def MakesUF (w : World) (N : Nat) (D : List UInt8) (X : Int) (e : Ending) (w' : World) : Prop := ∃ v, e = .returned (.tuple #[.int .i64 (N : Int), v, .int .i64 X]) ∧ Rd w' v D ∧ FarV w v ∧ Below w.heap.size w w'
/-- a part of bytes -/
theorem Rd.cutS {w : World} {b off n c : Nat} {p : List UInt8} (h : Rd w (.slice (some ⟨b, off, none⟩) n c) p) {i m c' : Nat} (hm : i + m ≤ p.length) (hi : 0 < p.length) (hc : c' = c - i) : Rd w (.slice (some ⟨b, off + i, none⟩) m c') ((p.drop i).take m) := by
  rcases h with ⟨a, c0, e, _⟩ | ⟨b', off', c0, h1, h2, h3, h4, h5, h6⟩
  · subst e; simp at hi
  · simp at h2
    obtain ⟨⟨rfl, rfl⟩, rfl, rfl⟩ := h2
    subst hc
    have hl : ((p.drop i).take m).length = m := by rw [List.length_take, List.length_drop]; omega
    by_cases h0 : m = 0
    · subst h0
      exact Or.inl ⟨_, _, rfl, rfl, by omega, fun e => by cases e⟩
    · refine Or.inr ⟨b, off + i, c - i, fun e => by rw [e] at hl; simp at hl; omega, by rw [hl], by rw [hl]; omega, by omega, h5, fun j hj => ?_⟩
      rw [hl] at hj
      rw [co_take hj, co_drop0, Nat.add_assoc]
      exact h6 (i + j) (by omega)
set_option maxRecDepth 100000 in
set_option maxHeartbeats 4000000 in
theorem sunpack_far {a : Int} {v : Value} {p : List UInt8} {w : World} (hp : Rd w v p) (hl : p.length ≤ 100000) : Calls Tryz.prog 163 #[.int .i64 a, v] w (MakesUF w (upN a p) (upD a p) (upX a p)) := by
  by_cases h12 : 12 ≤ p.length
  · rcases hp.form with ⟨va, vc, rfl⟩
    rcases hp with ⟨a', c', rfl, _⟩ | ⟨b, o, c', hp0, e0, h1, h2, h3, hpc⟩
    · simp at h12
    simp at e0
    obtain ⟨rfl, rfl⟩ := e0
    have hp : Rd w (.slice (some ⟨b, o, none⟩) p.length vc) p := Or.inr ⟨b, o, vc, hp0, rfl, h1, h2, h3, hpc⟩
    clear hpc hp0
    have hlt : ¬ (p.length : Int) < 12 := by omega
    obtain ⟨n4, hn4⟩ : ∃ n4, Hid (n4 = p.length - 4) := ⟨_, rfl⟩
    have hn5 : n4 + 4 = p.length := by have := hn4.out; omega
    have g0 : (p.length : Int) - 4 = (n4 : Int) := by omega
    have gw : IntKind.i64.wrap (n4 : Int) = (n4 : Int) := by rw [IntKind.wrap_i64]; omega
    have g1 : (n4 : Int) ≤ (p.length : Int) := by omega
    have g2 : (8 : Int) ≤ (n4 : Int) := by omega
    have g3 : 8 ≤ n4 := by omega
    have g4 : n4 ≤ vc := by omega
    have g5 : (n4 : Int) ≤ (vc : Int) := by omega
    have g6 : ¬ vc = 8 := by omega
    have hda : Rd w (.slice (some ⟨b, o + 8, none⟩) (n4 - 8) (vc - 8)) (daS p) := hp.cutS (i := 8) (m := n4 - 8) (by omega) (by omega) rfl |> (by rw [show daS p = (p.drop 8).take (n4 - 8) by unfold daS; congr 1; omega]; exact ·)
    have hdl := daS_length p
    by_cases hk : OkSe a ((epS p : Nat) : Int) (daS p).length
    · have px := pa_ok hk
      rw [Int.toNat_natCast] at px
      have hpk : (pkS a.toNat (epS p) (daS p)).length = p.length := by rw [pk_length]; omega
      by_cases hs : pkS a.toNat (epS p) (daS p) = p
      · have hu : OkUe a p := ⟨h12, hk, hs⟩
        rw [(up_ok hu).1, (up_ok hu).2.1, (up_ok hu).2.2]
        have ds : sameB (pkS a.toNat (epS p) (daS p)) p = true := decide_eq_true hs
        clear hs hu
        go_enter Tryz.func163, Tryz.ntmps163
        go_wp2_with fail
        refine (snum_any hp h12).mono ?_
        rintro e' w' ⟨rfl, rfl⟩
        go_wp2_with fail
        obtain ⟨wo, hwo⟩ : ∃ wo, wo = w' := ⟨_, rfl⟩
        subst hwo
        refine (spack_any hda).mono ?_
        rintro e' w1 ⟨v1, rfl, R1, B1⟩
        rw [px.1]
        rw [px.2] at R1
        obtain ⟨a1, c1, rfl⟩ := R1.form
        rw [hpk] at R1 ⊢
        replace hp := hp.below B1
        replace hda := hda.below B1
        go_wp2_with fail
        refine (beq_any R1 hp).mono ?_
        rintro e' w2 ⟨rfl, rfl⟩
        rw [ds]
        go_wp2_with fail
        obtain ⟨w1, hw1⟩ : ∃ w1, w1 = w2 := ⟨_, rfl⟩
        subst hw1
        have hn8 : n4 - 8 = (daS p).length := by omega
        rw [hn8] at hda ⊢
        refine (sclone_any hda (by omega)).mono ?_
        rintro e' w3 ⟨v3, rfl, R3, V3, B3⟩
        have HV : Hid (FarV wo v3) := fun x n c e => (V3 x n c e).imp id fun q => Nat.le_trans B1.size q
        have HB : Hid (Below wo.heap.size wo w3) := Below.step B1 B3
        clear R1 hp hda B1 B3 V3
        go_wp2
        go_ret3
        exact ⟨_, rfl, R3, HV.out, HB.out⟩
      · have hn : ¬ OkUe a p := fun h => hs h.2.2
        rw [(up_not hn).1, (up_not hn).2.1, (up_not hn).2.2]
        have ds : sameB (pkS a.toNat (epS p) (daS p)) p = false := decide_eq_false hs
        go_enter Tryz.func163, Tryz.ntmps163
        go_wp2_with fail
        refine (snum_any hp h12).mono ?_
        rintro e' w' ⟨rfl, rfl⟩
        go_wp2_with fail
        obtain ⟨wo, hwo⟩ : ∃ wo, wo = w' := ⟨_, rfl⟩
        subst hwo
        refine (spack_any hda).mono ?_
        rintro e' w1 ⟨v1, rfl, R1, B1⟩
        rw [px.1]
        rw [px.2] at R1
        obtain ⟨a1, c1, rfl⟩ := R1.form
        rw [hpk] at R1 ⊢
        replace hp := hp.below B1
        have HB : Hid (Below wo.heap.size wo w1) := B1
        clear hda B1
        go_wp2_with fail
        refine (beq_any R1 hp).mono ?_
        rintro e' w2 ⟨rfl, rfl⟩
        rw [ds]
        clear R1 hp
        go_wp2
        go_ret3
        exact ⟨_, rfl, rd_nil0, FarV.nil _ _ _, HB.out⟩
    · have px := pa_not hk
      have hn : ¬ OkUe a p := fun h => hk h.2.1
      rw [(up_not hn).1, (up_not hn).2.1, (up_not hn).2.2]
      go_enter Tryz.func163, Tryz.ntmps163
      go_wp2_with fail
      refine (snum_any hp h12).mono ?_
      rintro e' w' ⟨rfl, rfl⟩
      go_wp2_with fail
      obtain ⟨wo, hwo⟩ : ∃ wo, wo = w' := ⟨_, rfl⟩
      subst hwo
      refine (spack_any hda).mono ?_
      rintro e' w1 ⟨v1, rfl, R1, B1⟩
      rw [px.1]
      have HB : Hid (Below wo.heap.size wo w1) := B1
      clear hda B1 R1 hp
      go_wp2
      go_ret3
      exact ⟨_, rfl, rd_nil0, FarV.nil _ _ _, HB.out⟩
  · have hn : ¬ OkUe a p := fun h => h12 h.1
    rw [(up_not hn).1, (up_not hn).2.1, (up_not hn).2.2]
    obtain ⟨va, vc, rfl⟩ := hp.form
    have hlt : (p.length : Int) < 12 := by omega
    go_enter Tryz.func163, Tryz.ntmps163
    go_wp2
    go_ret3
    exact ⟨_, rfl, rd_nil0, FarV.nil _ _ _, Below.refl _ _⟩
end Go.Proofs.YtddnfhfangfgeaaGreat.Gf

namespace Go.Proofs.YtddnfhfangfgeaaGreat.Gf
set_option linter.unusedVariables false
set_option linter.unusedSimpArgs false
open Go.RowKit
section
variable {w : World} {ab : Nat} {GA : Nat → Prop} {a : ArS}
theorem RdI.lay {w : World} {v : Value} {p : List Int} (h : RdI w v p) {x : Addr} {n c : Nat} (e : v = .slice (some x) n c) : n = 0 ∨ x.block < w.heap.size := by
  rcases h with ⟨a, c', _, e2⟩ | ⟨b, off, cap, h1, h2, h3, h5, h6⟩
  · subst e2; simp at e; exact Or.inl e.2.1.symm
  · subst h2; simp at e; obtain ⟨rfl, rfl, rfl⟩ := e; exact Or.inr h5
theorem RdI.turnG {G : Nat → Prop} {w w' : World} {v : Value} {p : List Int} (h : RdI w v p) (ha : ApartG G v) (ho : TurnG G w w') : RdI w' v p := by
  rcases h with h | ⟨b, off, cap, h1, h2, h3, h5, h6⟩
  · exact Or.inl h
  · have hb : ¬ G b := by
      rcases ha _ _ _ h2 with e | e
      · exact absurd (List.length_eq_zero_iff.1 e) h1
      · exact e
    exact Or.inr ⟨b, off, cap, h1, h2, h3, Nat.lt_of_lt_of_le h5 ho.size, fun i hi => (ho.cell (p := ⟨b, off + i, none⟩) h5 hb).trans (h6 i hi)⟩
end
end Go.Proofs.YtddnfhfangfgeaaGreat.Gf

namespace Go.Proofs.YtddnfhfangfgeaaGreat.Gf
set_option linter.unusedVariables false
set_option linter.unusedSimpArgs false
open Go.RowKit
theorem info_bool13 : (Tryz.prog.info? 4).map (fun i => (i.zero, i.size, i.bytes)) = some (some (.bool false), 1, 1) := by kernel_rfl
theorem info_int13 : (Tryz.prog.info? 3).map (fun i => (i.zero, i.size, i.bytes)) = some (some (.int .i64 0), 1, 8) := by kernel_rfl
/-- a row of the call's own -/
def MadeRow (w : World) (t n : Nat) (f : Nat → Value) (e : Ending) (w' : World) : Prop := ∃ g, e = .returned (.slice (some ⟨g, 0, none⟩) n n) ∧ w'.rowIs g t n f ∧ w.heap.size ≤ g ∧ Below w.heap.size w w'
section
variable {w : World} {ab : Nat} {GA : Nat → Prop} {a : ArS}
set_option maxRecDepth 100000 in
theorem alive_any (h : ArAt w ab GA a) : Calls Tryz.prog 41 #[.pointer (some ⟨ab, 0, none⟩)] w (MadeRow w 4 a.D.length (fun i => .bool (!(a.D.getD i default).dead))) := by
  obtain ⟨mb, db, GD, hM, ok⟩ := h
  have c0 := hM.c0
  have d2 := hM.d2
  have mk1 := run_make_row' (P := Tryz.prog) 96 4 (.bool false) 1 Tryz.underlying96 info_bool13 rfl .i64 .i64 a.D.length (by omega) (by omega)
  obtain ⟨u, hu⟩ : ∃ u, u = w.alloc (Obj.cells (madeCells #[Value.bool false] a.D.length) 4) := ⟨_, rfl⟩
  have hub : Below w.heap.size w u := by rw [hu]; exact belA _ _
  have hur : u.rowIs w.heap.size 4 a.D.length (fun _ => .bool false) := by rw [hu]; exact World.rowIs_made _ _ _ _
  have hM1 := hM.below hub
  have c0m := hM1.c0
  have mk2 := mk1 w
  obtain ⟨g, hg⟩ : ∃ g, Hid (g = w.heap.size) := ⟨_, rfl⟩
  rw [← hu, ← hg.out] at mk2
  rw [← hg.out] at hur
  clear mk1 hu
  go_enter Tryz.func41, Tryz.ntmps41
  go_wp2
  have START : Hid (u.rowIs g 4 a.D.length (fun j => if j < 0 then .bool (!(a.D.getD j default).dead) else .bool false) ∧ Below w.heap.size w u) := ⟨hur, hub⟩
  clear hM1 c0m mk2 hub hur ok c0
  go_loopw [19] (fun i wr => ∃ k : Nat, k ≤ a.D.length ∧ i = .int .i64 (k : Int) ∧ wr.rowIs g 4 a.D.length (fun j => if j < k then .bool (!(a.D.getD j default).dead) else .bool false) ∧ Below w.heap.size w wr) (fun i _ => a.D.length - (intOf i).toNat)
  case atStart => exact ⟨0, Nat.zero_le _, rfl, START.out⟩
  case round =>
    clear START
    obtain ⟨k, hk, rfl, hr, hb⟩ := hrel
    by_cases hlt : k < a.D.length
    · have hlt' : (k : Int) < (a.D.length : Int) := by omega
      have g1 : IntKind.i64.wrap ((k : Int) + 1) = ((k + 1 : Nat) : Int) := by rw [IntKind.wrap_i64]; omega
      have hMr := hM.below hb
      have m0 := hMr.m0 k hlt
      have m1 := hMr.m1 k hlt
      have KD := fun o => @ddead_any (wr.alloc o) (db k) (a.D.getD k default).dead ((hMr.dk k hlt).below (belA wr o)).dead
      have R1 : Hid (∀ o, (wr.alloc o).rowIs g 4 a.D.length (fun j => if j < k then .bool (!(a.D.getD j default).dead) else .bool false) ∧ Below w.heap.size w (wr.alloc o)) := fun o => ⟨hr.alloc o, hb.trans ((belA wr o).mono hb.size)⟩
      obtain ⟨z, hz⟩ : ∃ z, z = a.B.getD k 0 := ⟨_, rfl⟩
      rw [← hz] at m1
      obtain ⟨x, hx⟩ : ∃ x, Hid (x = (a.D.getD k default).dead) := ⟨_, rfl⟩
      rw [← hx.out] at KD
      clear hz hMr hr hb
      go_wp2_with fail
      refine (KD _).mono ?_
      rintro _ wq ⟨rfl, hwq⟩
      obtain ⟨R2, B2⟩ := R1.out (Obj.cells #[Value.pointer (some ⟨db k, 0, none⟩), .int .i64 z] 81)
      rw [← hwq] at R2 B2
      have cq := R2.cell hlt
      have fq := R2.frozen k
      have R3 := R2.set k (.bool (!x))
      have E2 : Hid ((wq.setCell ⟨g, k, none⟩ (.bool (!x))).rowIs g 4 a.D.length (fun j => if j < k + 1 then .bool (!(a.D.getD j default).dead) else .bool false) ∧ Below w.heap.size w (wq.setCell ⟨g, k, none⟩ (.bool (!x)))) := by
        refine ⟨R3.congr fun j hj => ?_, B2.setCell (by rw [hg.out]; exact Nat.le_refl _) _⟩
        by_cases e : j = k
        · rw [if_pos e, if_pos (by omega), e, hx.out]
        · rw [if_neg e]
          by_cases e2 : j < k
          · rw [if_pos e2, if_pos (by omega)]
          · rw [if_neg e2, if_neg (by omega)]
      clear KD R1 R2 B2 R3 hwq m0 m1
      cases x <;> simp only [Bool.not_true, Bool.not_false] at E2
      all_goals
        go_wp2
        go_roundw
        case rel => exact ⟨k + 1, by omega, by go_num, E2.out⟩
        case measure => simp [intOf]; omega
    · have hlt' : ¬ (k : Int) < (a.D.length : Int) := by omega
      have hkn : k = a.D.length := by omega
      have FIN : Hid (wr.rowIs g 4 a.D.length (fun j => .bool (!(a.D.getD j default).dead)) ∧ w.heap.size ≤ g ∧ Below w.heap.size w wr) := ⟨hr.congr fun j hj => if_pos (by omega), by rw [hg.out]; exact Nat.le_refl _, hb⟩
      clear hr hb
      go_wp2
      go_ret
      exact ⟨g, rfl, FIN.out⟩
end
end Go.Proofs.YtddnfhfangfgeaaGreat.Gf

