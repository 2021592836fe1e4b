/- TEXTS JOINED: ArCA, ArCB. -/
import Derived.Maps.RangeWalk
import Derived.Test.YtclieefpnbdbjaaGreatRome12
import Derived.Test.YtclieefpnbdbjaaGreatRome10
namespace Go.Proofs.YtclieefpnbdbjaaGreat.Gf
set_option linter.unusedVariables false
set_option linter.unusedSimpArgs false
open Go.RowKit
section
variable {w : World} {ab mb : Nat} {db : Nat → Nat} {GD : Nat → Nat → Prop} {GA : Nat → Prop} {a : ArS}
theorem amem_at {n : Nat} (c0 : w.cell? ⟨ab, 0, none⟩ = some (.slice (some ⟨mb, 0, none⟩) n n)) {j : Nat} (hj : j < n) : Calls Tryz.prog 55 #[.pointer (some ⟨ab, 0, none⟩), .int .i64 (j : Int)] w fun e w' => e = .returned (.pointer (some ⟨mb, j * 2, none⟩)) ∧ w' = w := by
  have q1 : ¬ (j : Int) < 0 := by omega
  have q2 : ¬ (j : Int) ≥ (n : Int) := by omega
  have q3 : (j : Int) < (n : Int) := by omega
  go_enter Tryz.func55, Tryz.ntmps55
  go_wp2
  go_ret
  exact ⟨rfl, rfl⟩
theorem amem_no {n : Nat} (c0 : w.cell? ⟨ab, 0, none⟩ = some (.slice (some ⟨mb, 0, none⟩) n n)) {i : Int} (hi : ¬ (0 ≤ i ∧ i < (n : Int))) : Calls Tryz.prog 55 #[.pointer (some ⟨ab, 0, none⟩), .int .i64 i] w fun e w' => e = .returned (.pointer none) ∧ w' = w := by
  by_cases q1 : i < 0
  · go_enter Tryz.func55, Tryz.ntmps55
    go_wp2
    go_ret
    exact ⟨rfl, rfl⟩
  · have q2 : i ≥ (n : Int) := by omega
    go_enter Tryz.func55, Tryz.ntmps55
    go_wp2
    go_ret
    exact ⟨rfl, rfl⟩
theorem aref_any {x : Bool} (c2 : w.cell? ⟨ab, 2, none⟩ = some (.bool x)) : Calls Tryz.prog 127 #[.pointer (some ⟨ab, 0, none⟩)] w fun e w' => e = .returned (.int .i64 (if x = true then 130 else 0)) ∧ w' = w := by
  cases x
  · go_enter Tryz.func127, Tryz.ntmps127
    go_wp2
    go_ret
    exact ⟨rfl, rfl⟩
  · go_enter Tryz.func127, Tryz.ntmps127
    go_wp2
    go_ret
    exact ⟨rfl, rfl⟩
theorem apow_off (c2 : w.cell? ⟨ab, 2, none⟩ = some (.bool true)) {i : Int} : Calls Tryz.prog 110 #[.pointer (some ⟨ab, 0, none⟩), .int .i64 i] w fun e w' => e = .returned (.tuple #[.pointer none, .int .i64 130]) ∧ w' = w := by
  have K := aref_any c2
  simp only [if_true] at K
  go_enter Tryz.func110, Tryz.ntmps110
  go_wp2_with fail
  refine K.mono ?_
  rintro _ wq ⟨rfl, hwq⟩
  rw [hwq]
  clear hwq wq K
  go_wp2
  refine bodyPost_ret (v := .tuple #[.pointer none, .int .i64 130]) (by simp [results, Tryz.results110, go_sem]) rfl ?_
  exact ⟨rfl, rfl⟩
theorem apow_no {n : Nat} (c0 : w.cell? ⟨ab, 0, none⟩ = some (.slice (some ⟨mb, 0, none⟩) n n)) (c2 : w.cell? ⟨ab, 2, none⟩ = some (.bool false)) {i : Int} (hi : ¬ (0 ≤ i ∧ i < (n : Int))) : Calls Tryz.prog 110 #[.pointer (some ⟨ab, 0, none⟩), .int .i64 i] w fun e w' => e = .returned (.tuple #[.pointer none, .int .i64 1]) ∧ w' = w := by
  have K := aref_any c2
  have KM := amem_no c0 hi
  simp only [Bool.false_eq_true, if_false] at K
  go_enter Tryz.func110, Tryz.ntmps110
  go_wp2_with fail
  refine K.mono ?_
  rintro _ wq ⟨rfl, hwq⟩
  rw [hwq]
  clear hwq wq K
  go_wp2_with fail
  refine KM.mono ?_
  rintro _ wq ⟨rfl, hwq⟩
  rw [hwq]
  clear hwq wq KM
  go_wp2
  refine bodyPost_ret (v := .tuple #[.pointer none, .int .i64 1]) (by simp [results, Tryz.results110, go_sem]) rfl ?_
  exact ⟨rfl, rfl⟩
theorem apow_at {n : Nat} (c0 : w.cell? ⟨ab, 0, none⟩ = some (.slice (some ⟨mb, 0, none⟩) n n)) (c2 : w.cell? ⟨ab, 2, none⟩ = some (.bool false)) {j : Nat} (hj : j < n) : Calls Tryz.prog 110 #[.pointer (some ⟨ab, 0, none⟩), .int .i64 (j : Int)] w fun e w' => e = .returned (.tuple #[.pointer (some ⟨mb, j * 2, none⟩), .int .i64 0]) ∧ w' = w := by
  have K := aref_any c2
  have KM := amem_at c0 hj
  simp only [Bool.false_eq_true, if_false] at K
  go_enter Tryz.func110, Tryz.ntmps110
  go_wp2_with fail
  refine K.mono ?_
  rintro _ wq ⟨rfl, hwq⟩
  rw [hwq]
  clear hwq wq K
  go_wp2_with fail
  refine KM.mono ?_
  rintro _ wq ⟨rfl, hwq⟩
  rw [hwq]
  clear hwq wq KM
  go_wp2
  refine bodyPost_ret (v := .tuple #[.pointer (some ⟨mb, j * 2, none⟩), .int .i64 0]) (by simp [results, Tryz.results110, go_sem]) rfl ?_
  exact ⟨rfl, rfl⟩
/-- a write that was done is counted -/
theorem acount_any (h : ArM w ab mb db GD GA a) : Calls Tryz.prog 126 #[.pointer (some ⟨ab, 0, none⟩)] w fun e w' => e = .returned (.tuple #[]) ∧ ArM w' ab mb db GD GA (tickA a) ∧ TurnG GA w w' := by
  have c1 := h.c1
  have c2 := h.c2
  have f1 := h.f1
  have f2 := h.f2
  by_cases hl : 0 < a.left
  · have eL : leC a.left = a.left := if_pos hl
    have wb := bounds_i64 h.wl
    have hwf : (Lit.int .i64 (a.left - 1)).wf = true := by simp [Lit.wf, IntKind.min, IntKind.max, IntKind.signed, IntKind.bits]; omega
    have M1 := (h.setLeft hwf).setOff (decide (a.left - 1 = 0))
    have eL2 : leC (a.left - 1) = a.left - 1 := by unfold leC; split <;> omega
    have eT : tickA a = { { a with left := a.left - 1 } with off := decide (a.left - 1 = 0) } := if_pos hl
    rw [eL2] at M1
    have FIN : Hid (ArM ((w.setCell ⟨ab, 1, none⟩ (.int .i64 (a.left - 1))).setCell ⟨ab, 2, none⟩ (.bool (decide (a.left - 1 = 0)))) ab mb db GD GA (tickA a) ∧ TurnG GA w ((w.setCell ⟨ab, 1, none⟩ (.int .i64 (a.left - 1))).setCell ⟨ab, 2, none⟩ (.bool (decide (a.left - 1 = 0))))) := by
      rw [eT]
      exact ⟨M1, (setCell_turnG h.ga).trans (setCell_turnG h.ga)⟩
    clear M1 eT eL2 hwf
    rw [eL] at c1
    have q0 : ¬ a.left = 0 := by omega
    have q1 : (a.left == 0) = false := beq_eq_false_iff_ne.2 q0
    have g1 : IntKind.i64.wrap (a.left - 1) = a.left - 1 := by rw [IntKind.wrap_i64]; omega
    have q2 : (a.left - 1 == 0) = decide (a.left - 1 = 0) := by by_cases e : a.left - 1 = 0 <;> simp [e]
    clear h wb eL hl
    go_enter Tryz.func126, Tryz.ntmps126
    go_wp2
    go_end0
    exact ⟨rfl, FIN.out⟩
  · have eL : leC a.left = 0 := if_neg hl
    have eT : tickA a = a := if_neg hl
    have FIN : Hid (ArM w ab mb db GD GA (tickA a)) := by rw [eT]; exact h
    rw [eL] at c1
    clear h eT eL
    go_enter Tryz.func126, Tryz.ntmps126
    go_wp2
    refine bodyPost_ret (v := .tuple #[]) (by simp [results, Tryz.results126, go_sem]) rfl ?_
    exact ⟨rfl, FIN.out, TurnG.refl _ _⟩
theorem aafter_any (h : ArAt w ab GA a) {n : Int} (hn : (Lit.int .i64 n).wf = true) : Calls Tryz.prog 26 #[.pointer (some ⟨ab, 0, none⟩), .int .i64 n] w (LeavesA w ab GA (caA a n) (.tuple #[])) := by
  obtain ⟨mb, db, GD, h, ok⟩ := h
  have c1 := h.c1
  have c2 := h.c2
  have f1 := h.f1
  have f2 := h.f2
  cases ho : a.off with
  | true =>
    have FIN : Hid (∃ GA', ArAt w ab GA' (caA a n) ∧ Grew GA w GA' w) := ⟨GA, ⟨mb, db, GD, by rw [show caA a n = a from if_pos ho]; exact ⟨h, ok⟩⟩, Grew.refl _ _⟩
    rw [ho] at c2
    clear h ok
    go_enter Tryz.func26, Tryz.ntmps26
    go_wp2
    refine bodyPost_ret (v := .tuple #[]) (by simp [results, Tryz.results26, go_sem]) rfl ?_
    exact ⟨rfl, FIN.out⟩
  | false =>
    have hwf : (Lit.int .i64 (if 0 ≤ n then n else -1)).wf = true := by
      split
      · exact hn
      · decide
    have M1 := (h.setLeft hwf).setOff (decide (n = 0))
    have eL : leC (if 0 ≤ n then n else -1) = max n 0 := by
      unfold leC
      split <;> split <;> omega
    have eT : caA a n = { { a with left := if 0 ≤ n then n else -1 } with off := decide (n = 0) } := if_neg (by rw [ho]; simp)
    have ok2 := caA_ok ok n
    rw [eT] at ok2
    rw [eL] at M1
    have FIN : Hid (∃ GA', ArAt ((w.setCell ⟨ab, 1, none⟩ (.int .i64 (max n 0))).setCell ⟨ab, 2, none⟩ (.bool (decide (n = 0)))) ab GA' (caA a n) ∧ Grew GA w GA' ((w.setCell ⟨ab, 1, none⟩ (.int .i64 (max n 0))).setCell ⟨ab, 2, none⟩ (.bool (decide (n = 0))))) := by
      rw [eT]
      exact ⟨GA, ⟨mb, db, GD, M1, ok2⟩, Grew.of_turn ((setCell_turnG h.ga).trans (setCell_turnG h.ga))⟩
    have q2 : (n == 0) = decide (n = 0) := by by_cases e : n = 0 <;> simp [e]
    rw [ho] at c2
    clear M1 eT eL hwf h ok ok2
    by_cases qn : 0 ≤ n
    · have qm : max n 0 = n := by omega
      have qn' : ¬ n < 0 := by omega
      rw [qm] at FIN
      go_enter Tryz.func26, Tryz.ntmps26
      go_wp2
      go_end0
      exact ⟨rfl, FIN.out⟩
    · have qm : max n 0 = 0 := by omega
      have qn' : n < 0 := by omega
      rw [qm] at FIN
      go_enter Tryz.func26, Tryz.ntmps26
      go_wp2
      go_end0
      exact ⟨rfl, FIN.out⟩
end
end Go.Proofs.YtclieefpnbdbjaaGreat.Gf

namespace Go.Proofs.YtclieefpnbdbjaaGreat.Gf
set_option linter.unusedVariables false
set_option linter.unusedSimpArgs false
open Go.RowKit
section
variable {w : World} {ab : Nat} {GA : Nat → Prop} {a : ArS}
theorem th_at {a : ArS} {i : Int} (h : thA a i) : ∃ j : Nat, i = (j : Int) ∧ j < a.D.length := ⟨i.toNat, by have := h.1; omega, by have := h.1; have := h.2; omega⟩
theorem wrS_no {d : DkS} {x : Int} {b : List UInt8} (h : ¬ wrX d x b = 0) : wrS d x b = d := by
  unfold wrS
  rw [if_neg]
  rintro ⟨h1, h2⟩
  exact h (by unfold wrX; rw [if_pos h1, if_pos h2])
theorem set_self {α : Type} (l : List α) (j : Nat) (d : α) (h : j < l.length) : l.set j (l.getD j d) = l := by
  rw [show l.getD j d = l[j] by simp [List.getD, h]]
  exact List.set_getElem_self h
theorem setA_same {a : ArS} {j : Nat} (h : j < a.D.length) : ({ a with D := a.D.set j (a.D.getD j default) } : ArS) = a := by rw [set_self _ _ _ h]
theorem stays {a' : ArS} (h : ArAt w ab GA a) (e : a' = a) : ∃ GA', ArAt w ab GA' a' ∧ Grew GA w GA' w := ⟨GA, by rw [e]; exact h, Grew.refl _ _⟩
set_option maxRecDepth 100000 in
theorem awrite_any (h : ArAt w ab GA a) {i ad : Int} (hi : (Lit.int .i64 i).wf = true) (ha : (Lit.int .i64 ad).wf = true) {v : Value} {p : List UInt8} (hp : Rd w v p) :
    Calls Tryz.prog 81 #[.pointer (some ⟨ab, 0, none⟩), .int .i64 i, .int .i64 ad, v] w (LeavesA w ab GA (wrAS a i ad p) (.int .i64 (wrAX a i ad p))) := by
  have h0 := h
  obtain ⟨mb, db, GD, hM, ok⟩ := h
  obtain ⟨va, vc, rfl⟩ := hp.form
  cases ho : a.off with
  | true =>
    have c2 := hM.c2
    rw [ho] at c2
    have K := @apow_off w ab c2 i
    rw [show wrAX a i ad p = 130 from if_pos ho]
    have FIN : Hid (∃ GA', ArAt w ab GA' (wrAS a i ad p) ∧ Grew GA w GA' w) := stays h0 (if_pos ho)
    clear h0 hM ok c2
    go_enter Tryz.func81, Tryz.ntmps81
    go_wp2_with fail
    refine K.mono ?_
    rintro _ wq ⟨rfl, hwq⟩
    rw [hwq]
    clear hwq wq K
    go_wp2
    go_ret
    exact ⟨rfl, FIN.out⟩
  | false =>
    have no : ¬ a.off = true := by rw [ho]; simp
    have c0 := hM.c0
    have c2 := hM.c2
    rw [ho] at c2
    by_cases ht : thA a i
    · have eX : wrAX a i ad p = wrX (diA a i) ad p := by unfold wrAX; rw [if_neg no, if_pos ht]
      have eS : wrAS a i ad p = if wrX (diA a i) ad p = 0 then tickA (setA a i (wrS (diA a i) ad p)) else a := by unfold wrAS; rw [if_neg no, if_pos ht]
      have okS := wrAS_ok ok i ad p
      obtain ⟨j, rfl, hj⟩ := th_at ht
      have KP := @apow_at w ab mb _ c0 c2 j hj
      have KW := dwrite_any (hM.dk j hj) ha hp
      have m0 := hM.m0 j hj
      have eD : diA a (j : Int) = a.D.getD j default := rfl
      rw [eX, eS]
      rw [eS] at okS
      rw [eD] at okS ⊢
      clear eX eS eD
      obtain ⟨d, hd⟩ : ∃ d, d = a.D.getD j default := ⟨_, rfl⟩
      rw [← hd] at KW okS ⊢
      by_cases hx : wrX d ad p = 0
      · rw [hx] at KW ⊢
        rw [if_pos rfl]
        rw [hx, if_pos rfl] at okS
        go_enter Tryz.func81, Tryz.ntmps81
        go_wp2_with fail
        refine KP.mono ?_
        rintro _ wq ⟨rfl, hwq⟩
        rw [hwq]
        clear hwq wq KP
        go_wp2_with fail
        refine KW.mono ?_
        rintro _ w1 ⟨rfl, G1, D1, g1⟩
        obtain ⟨M1, gg1⟩ := hM.disk hj D1 g1
        have KC := acount_any M1
        have FIN : Hid (∀ w2, ArM w2 ab mb db (fun k => if k = j then G1 else GD k) (fun k => GA k ∨ G1 k) (tickA { a with D := a.D.set j (wrS d ad p) }) → TurnG (fun k => GA k ∨ G1 k) w1 w2 → ∃ GA', ArAt w2 ab GA' (tickA (setA a (j : Int) (wrS d ad p))) ∧ Grew GA w GA' w2) := fun w2 M2 t2 =>
          ⟨_, ⟨mb, db, _, M2, okS⟩, gg1.trans (Grew.of_turn t2)⟩
        clear M1 gg1 D1 g1 KW hM ok h0 okS c0 c2 m0 hp hd
        go_wp2_with fail
        refine KC.mono ?_
        rintro _ w2 ⟨rfl, M2, t2⟩
        have F2 : Hid (∃ GA', ArAt w2 ab GA' (tickA (setA a (j : Int) (wrS d ad p))) ∧ Grew GA w GA' w2) := FIN.out w2 M2 t2
        clear M2 t2 FIN KC
        go_wp2
        go_ret
        exact ⟨rfl, F2.out⟩
      · rw [if_neg hx]
        have eQ : wrS d ad p = d := wrS_no hx
        rw [eQ] at KW
        obtain ⟨x, hxx⟩ : ∃ x, x = wrX d ad p := ⟨_, rfl⟩
        rw [← hxx] at KW hx ⊢
        have q1 : (x == 0) = false := beq_eq_false_iff_ne.2 hx
        go_enter Tryz.func81, Tryz.ntmps81
        go_wp2_with fail
        refine KP.mono ?_
        rintro _ wq ⟨rfl, hwq⟩
        rw [hwq]
        clear hwq wq KP
        go_wp2_with fail
        refine KW.mono ?_
        rintro _ w1 ⟨rfl, G1, D1, g1⟩
        obtain ⟨M1, gg1⟩ := hM.disk hj D1 g1
        have F2 : Hid (∃ GA', ArAt w1 ab GA' a ∧ Grew GA w GA' w1) := ⟨_, ⟨mb, db, _, by
          have e2 : ({ a with D := a.D.set j d } : ArS) = a := by rw [hd]; exact setA_same hj
          rw [e2] at M1
          exact M1, ok⟩, gg1⟩
        clear M1 gg1 D1 g1 KW hM ok h0 okS c0 c2 m0 hp hd hxx eQ
        go_wp2
        go_ret
        exact ⟨rfl, F2.out⟩
    · have K := @apow_no w ab mb _ c0 c2 i ht
      rw [show wrAX a i ad p = 1 by unfold wrAX; rw [if_neg no, if_neg ht]]
      have FIN : Hid (∃ GA', ArAt w ab GA' (wrAS a i ad p) ∧ Grew GA w GA' w) := stays h0 (by unfold wrAS; rw [if_neg no, if_neg ht])
      clear h0 hM ok c2 c0
      go_enter Tryz.func81, Tryz.ntmps81
      go_wp2_with fail
      refine K.mono ?_
      rintro _ wq ⟨rfl, hwq⟩
      rw [hwq]
      clear hwq wq K
      go_wp2
      go_ret
      exact ⟨rfl, FIN.out⟩
theorem aread_any (h : ArAt w ab GA a) {i ad : Int} (hi : (Lit.int .i64 i).wf = true) (ha : (Lit.int .i64 ad).wf = true) :
    Calls Tryz.prog 59 #[.pointer (some ⟨ab, 0, none⟩), .int .i64 i, .int .i64 ad] w (Tells w (rdAX a i ad) (rdAB a i ad)) := by
  obtain ⟨mb, db, GD, hM, ok⟩ := h
  cases ho : a.off with
  | true =>
    have c2 := hM.c2
    rw [ho] at c2
    have K := @apow_off w ab c2 i
    rw [show rdAX a i ad = 130 from if_pos ho, show rdAB a i ad = [] from if_pos ho]
    clear hM ok c2
    go_enter Tryz.func59, Tryz.ntmps59
    go_wp2_with fail
    refine K.mono ?_
    rintro _ wq ⟨rfl, hwq⟩
    rw [hwq]
    clear hwq wq K
    go_wp2
    refine bodyPost_ret (v := .tuple #[.slice none 0 0, .int .i64 130]) (by simp [results, Tryz.results59, go_sem]) rfl ?_
    exact ⟨_, rfl, own_none _ _ _, Below.refl _ _⟩
  | false =>
    have no : ¬ a.off = true := by rw [ho]; simp
    have c0 := hM.c0
    have c2 := hM.c2
    rw [ho] at c2
    by_cases ht : thA a i
    · rw [show rdAX a i ad = faX (diA a i) ad by unfold rdAX; rw [if_neg no, if_pos ht], show rdAB a i ad = rdB (diA a i) ad by unfold rdAB; rw [if_neg no, if_pos ht]]
      obtain ⟨j, rfl, hj⟩ := th_at ht
      have KP := @apow_at w ab mb _ c0 c2 j hj
      have KR := dread_any (hM.dk j hj) ha
      have m0 := hM.m0 j hj
      rw [show diA a (j : Int) = a.D.getD j default from rfl]
      obtain ⟨x, hx⟩ : ∃ x, x = faX (a.D.getD j default) ad := ⟨_, rfl⟩
      obtain ⟨r, hr⟩ : ∃ r, r = rdB (a.D.getD j default) ad := ⟨_, rfl⟩
      rw [← hx, ← hr] at KR ⊢
      clear hM ok hx hr ht c0 c2
      go_enter Tryz.func59, Tryz.ntmps59
      go_wp2_with fail
      refine KP.mono ?_
      rintro _ wq ⟨rfl, hwq⟩
      rw [hwq]
      clear hwq wq KP
      go_wp2_with fail
      refine KR.mono ?_
      rintro _ w1 ⟨v, rfl, O1, B1⟩
      go_wp2
      refine bodyPost_ret (v := .tuple #[v, .int .i64 x]) (by simp [results, Tryz.results59, go_sem]) rfl ?_
      exact ⟨_, rfl, O1, B1⟩
    · have K := @apow_no w ab mb _ c0 c2 i ht
      rw [show rdAX a i ad = 1 by unfold rdAX; rw [if_neg no, if_neg ht], show rdAB a i ad = [] by unfold rdAB; rw [if_neg no, if_neg ht]]
      clear hM ok c2 c0
      go_enter Tryz.func59, Tryz.ntmps59
      go_wp2_with fail
      refine K.mono ?_
      rintro _ wq ⟨rfl, hwq⟩
      rw [hwq]
      clear hwq wq K
      go_wp2
      refine bodyPost_ret (v := .tuple #[.slice none 0 0, .int .i64 1]) (by simp [results, Tryz.results59, go_sem]) rfl ?_
      exact ⟨_, rfl, own_none _ _ _, Below.refl _ _⟩
theorem afail_any (h : ArAt w ab GA a) {i : Int} (hi : (Lit.int .i64 i).wf = true) :
    Calls Tryz.prog 16 #[.pointer (some ⟨ab, 0, none⟩), .int .i64 i] w (LeavesA w ab GA (faAS a i) (.int .i64 (thX a i))) := by
  have h0 := h
  obtain ⟨mb, db, GD, hM, ok⟩ := h
  have c0 := hM.c0
  by_cases ht : thA a i
  · have okS := faAS_ok ok i
    have eS : faAS a i = bornA (setA a i (faS (diA a i))) i := if_pos ht
    rw [show thX a i = 0 from if_pos ht]
    rw [eS] at okS ⊢
    obtain ⟨j, rfl, hj⟩ := th_at ht
    have KP := @amem_at w ab mb _ c0 j hj
    have KW := dfail_any (hM.dk j hj)
    have m0 := hM.m0 j hj
    rw [show diA a (j : Int) = a.D.getD j default from rfl] at okS ⊢
    obtain ⟨d, hd⟩ : ∃ d, d = a.D.getD j default := ⟨_, rfl⟩
    rw [← hd] at KW okS ⊢
    go_enter Tryz.func16, Tryz.ntmps16
    go_wp2_with fail
    refine KP.mono ?_
    rintro _ wq ⟨rfl, hwq⟩
    rw [hwq]
    clear hwq wq KP
    go_wp2_with fail
    refine KW.mono ?_
    rintro _ w1 ⟨rfl, G1, D1, g1⟩
    obtain ⟨M1, gg1⟩ := hM.disk hj D1 g1
    have hj1 : j < (a.D.set j (faS d)).length := by simpa using hj
    have m1 : w1.cell? ⟨mb, j * 2 + 1, none⟩ = some (.int .i64 (a.B.getD j 0)) := M1.m1 j hj1
    have fm := M1.fm j hj1
    have M2 := M1.setBorn hj1 (IntKind.i64.wrap (a.B.getD j 0 + 1))
    have FIN : Hid (∃ GA', ArAt (w1.setCell ⟨mb, j * 2 + 1, none⟩ (.int .i64 (IntKind.i64.wrap (a.B.getD j 0 + 1)))) ab GA' (bornA (setA a (j : Int) (faS d)) (j : Int)) ∧ Grew GA w GA' (w1.setCell ⟨mb, j * 2 + 1, none⟩ (.int .i64 (IntKind.i64.wrap (a.B.getD j 0 + 1))))) :=
      ⟨_, ⟨mb, db, _, M2, okS⟩, gg1.trans (Grew.of_turn (setCell_turnG (Or.inl hM.gm)))⟩
    obtain ⟨z, hz⟩ : ∃ z, z = a.B.getD j 0 := ⟨_, rfl⟩
    rw [← hz] at m1 FIN
    obtain ⟨z1, gz⟩ : ∃ z1, IntKind.i64.wrap (z + 1) = z1 := ⟨_, rfl⟩
    rw [gz] at FIN
    clear M1 M2 gg1 D1 g1 KW hM ok h0 okS c0 m0 hd hj1 hz
    go_wp2
    go_ret
    exact ⟨rfl, FIN.out⟩
  · have K := @amem_no w ab mb _ c0 i ht
    rw [show thX a i = 1 from if_neg ht]
    have FIN : Hid (∃ GA', ArAt w ab GA' (faAS a i) ∧ Grew GA w GA' w) := stays h0 (if_neg ht)
    clear h0 hM ok c0
    go_enter Tryz.func16, Tryz.ntmps16
    go_wp2_with fail
    refine K.mono ?_
    rintro _ wq ⟨rfl, hwq⟩
    rw [hwq]
    clear hwq wq K
    go_wp2
    go_ret
    exact ⟨rfl, FIN.out⟩
theorem arepl_any (h : ArAt w ab GA a) {i : Int} (hi : (Lit.int .i64 i).wf = true) :
    Calls Tryz.prog 17 #[.pointer (some ⟨ab, 0, none⟩), .int .i64 i] w (LeavesA w ab GA (rpAS a i) (.int .i64 (thX a i))) := by
  have h0 := h
  obtain ⟨mb, db, GD, hM, ok⟩ := h
  have c0 := hM.c0
  by_cases ht : thA a i
  · have okS := rpAS_ok ok i
    have eS : rpAS a i = bornA (setA a i (reS (diA a i))) i := if_pos ht
    rw [show thX a i = 0 from if_pos ht]
    rw [eS] at okS ⊢
    obtain ⟨j, rfl, hj⟩ := th_at ht
    have KP := @amem_at w ab mb _ c0 j hj
    have KW := drepl_any (hM.dk j hj)
    have m0 := hM.m0 j hj
    rw [show diA a (j : Int) = a.D.getD j default from rfl] at okS ⊢
    obtain ⟨d, hd⟩ : ∃ d, d = a.D.getD j default := ⟨_, rfl⟩
    rw [← hd] at KW okS ⊢
    go_enter Tryz.func17, Tryz.ntmps17
    go_wp2_with fail
    refine KP.mono ?_
    rintro _ wq ⟨rfl, hwq⟩
    rw [hwq]
    clear hwq wq KP
    go_wp2_with fail
    refine KW.mono ?_
    rintro _ w1 ⟨rfl, G1, D1, g1⟩
    obtain ⟨M1, gg1⟩ := hM.disk hj D1 g1
    have hj1 : j < (a.D.set j (reS d)).length := by simpa using hj
    have m1 : w1.cell? ⟨mb, j * 2 + 1, none⟩ = some (.int .i64 (a.B.getD j 0)) := M1.m1 j hj1
    have fm := M1.fm j hj1
    have M2 := M1.setBorn hj1 (IntKind.i64.wrap (a.B.getD j 0 + 1))
    have FIN : Hid (∃ GA', ArAt (w1.setCell ⟨mb, j * 2 + 1, none⟩ (.int .i64 (IntKind.i64.wrap (a.B.getD j 0 + 1)))) ab GA' (bornA (setA a (j : Int) (reS d)) (j : Int)) ∧ Grew GA w GA' (w1.setCell ⟨mb, j * 2 + 1, none⟩ (.int .i64 (IntKind.i64.wrap (a.B.getD j 0 + 1))))) :=
      ⟨_, ⟨mb, db, _, M2, okS⟩, gg1.trans (Grew.of_turn (setCell_turnG (Or.inl hM.gm)))⟩
    obtain ⟨z, hz⟩ : ∃ z, z = a.B.getD j 0 := ⟨_, rfl⟩
    rw [← hz] at m1 FIN
    obtain ⟨z1, gz⟩ : ∃ z1, IntKind.i64.wrap (z + 1) = z1 := ⟨_, rfl⟩
    rw [gz] at FIN
    clear M1 M2 gg1 D1 g1 KW hM ok h0 okS c0 m0 hd hj1 hz
    go_wp2
    go_ret
    exact ⟨rfl, FIN.out⟩
  · have K := @amem_no w ab mb _ c0 i ht
    rw [show thX a i = 1 from if_neg ht]
    have FIN : Hid (∃ GA', ArAt w ab GA' (rpAS a i) ∧ Grew GA w GA' w) := stays h0 (if_neg ht)
    clear h0 hM ok c0
    go_enter Tryz.func17, Tryz.ntmps17
    go_wp2_with fail
    refine K.mono ?_
    rintro _ wq ⟨rfl, hwq⟩
    rw [hwq]
    clear hwq wq K
    go_wp2
    go_ret
    exact ⟨rfl, FIN.out⟩
end
end Go.Proofs.YtclieefpnbdbjaaGreat.Gf
