/- TEXTS JOINED: ArCB, DkRe, DkRf, DkRg. -/
import Derived.Test.YtpijncnpicgjeaaTome7
import Derived.Test.YtpijncnpicgjeaaTome4
import Derived.Deep.RegionLaw
/-
  THE PROGRAM's ARRAY BY CONTRACT (package array): Write, Read, Fail, Replace, Corrupt, Lasts, Waits.
-/

namespace Go.Proofs.Ytpijncnpicgjeaa.Gf
set_option linter.unusedVariables false
set_option linter.unusedSimpArgs false
open Go.RowKit

section
variable {w : World} {ab : Nat} {GA : Nat → Prop} {a : ArS}
theorem th_at {a : ArS} {i : Int} (h : thA a i) : ∃ j : Nat, i = (j : Int) ∧ j < a.D.length := ⟨i.toNat, by have := h.1; omega, by have := h.1; have := h.2; omega⟩
theorem th_j {a : ArS} {j : Nat} (h : j < a.D.length) : thA a (j : Int) := ⟨by omega, by omega⟩
theorem wrS_no {d : DkS} {x : Int} {b : List UInt8} (h : ¬ wrX d x b = 0) : wrS d x b = d := by
  unfold wrS
  rw [if_neg]
  rintro ⟨h1, h2⟩
  exact h (by unfold wrX; rw [if_pos h1, if_pos h2])
theorem set_self {α : Type} (l : List α) (j : Nat) (d : α) (h : j < l.length) : l.set j (l.getD j d) = l := by
  rw [show l.getD j d = l[j] by simp [List.getD, h]]
  exact List.set_getElem_self h
theorem setA_same {a : ArS} {j : Nat} (h : j < a.D.length) : ({ a with D := a.D.set j (a.D.getD j default) } : ArS) = a := by rw [set_self _ _ _ h]
theorem stays {a' : ArS} (h : ArAt w ab GA a) (e : a' = a) : ∃ GA', ArAt w ab GA' a' ∧ Grew GA w GA' w := ⟨GA, by rw [e]; exact h, Grew.refl _ _⟩
set_option maxRecDepth 100000 in
theorem awrite_any (h : ArAt w ab GA a) {i ad : Int} (hi : (Lit.int .i64 i).wf = true) (ha : (Lit.int .i64 ad).wf = true) {v : Value} {p : List UInt8} (hp : Rd w v p) :
    Calls Try.prog 16 #[.pointer (some ⟨ab, 0, none⟩), .int .i64 i, .int .i64 ad, v] w (LeavesA w ab GA (wrAS a i ad p) (.int .i64 (wrAX a i ad p))) := by
  have h0 := h
  obtain ⟨mb, db, GD, hM, ok⟩ := h
  obtain ⟨va, vc, rfl⟩ := hp.form
  cases ho : a.off with
  | true =>
    have c2 := hM.c2
    rw [ho] at c2
    have K := @apow_off w ab c2 i
    rw [show wrAX a i ad p = 130 from if_pos ho]
    have FIN : Hid (∃ GA', ArAt w ab GA' (wrAS a i ad p) ∧ Grew GA w GA' w) := stays h0 (if_pos ho)
    clear h0 hM ok c2
    go_enter Try.func16, Try.ntmps16
    go_wp2_with fail
    refine K.mono ?_
    rintro _ wq ⟨rfl, hwq⟩
    rw [hwq]
    clear hwq wq K
    go_wp2
    go_ret
    exact ⟨rfl, FIN.out⟩
  | false =>
    have no : ¬ a.off = true := by rw [ho]; simp
    have c0 := hM.c0
    have c2 := hM.c2
    rw [ho] at c2
    by_cases ht : thA a i
    · have eX : wrAX a i ad p = wrX (diA a i) ad p := by unfold wrAX; rw [if_neg no, if_pos ht]
      have eS : wrAS a i ad p = if wrX (diA a i) ad p = 0 then tickA (setA a i (wrS (diA a i) ad p)) else a := by unfold wrAS; rw [if_neg no, if_pos ht]
      have okS := wrAS_ok ok i ad p
      obtain ⟨j, rfl, hj⟩ := th_at ht
      have KP := @apow_at w ab mb _ c0 c2 j hj
      have KW := dwrite_any (hM.dk j hj) ha hp
      have m0 := hM.m0 j hj
      have eD : diA a (j : Int) = a.D.getD j default := rfl
      rw [eX, eS]
      rw [eS] at okS
      rw [eD] at okS ⊢
      clear eX eS eD
      obtain ⟨d, hd⟩ : ∃ d, d = a.D.getD j default := ⟨_, rfl⟩
      rw [← hd] at KW okS ⊢
      by_cases hx : wrX d ad p = 0
      · rw [hx] at KW ⊢
        rw [if_pos rfl]
        rw [hx, if_pos rfl] at okS
        go_enter Try.func16, Try.ntmps16
        go_wp2_with fail
        refine KP.mono ?_
        rintro _ wq ⟨rfl, hwq⟩
        rw [hwq]
        clear hwq wq KP
        go_wp2_with fail
        refine KW.mono ?_
        rintro _ w1 ⟨rfl, G1, D1, g1⟩
        obtain ⟨M1, gg1⟩ := hM.disk hj D1 g1
        have KC := acount_any M1
        have FIN : Hid (∀ w2, ArM w2 ab mb db (fun k => if k = j then G1 else GD k) (fun k => GA k ∨ G1 k) (tickA { a with D := a.D.set j (wrS d ad p) }) → TurnG (fun k => GA k ∨ G1 k) w1 w2 → ∃ GA', ArAt w2 ab GA' (tickA (setA a (j : Int) (wrS d ad p))) ∧ Grew GA w GA' w2) := fun w2 M2 t2 =>
          ⟨_, ⟨mb, db, _, M2, okS⟩, gg1.trans (Grew.of_turn t2)⟩
        clear M1 gg1 D1 g1 KW hM ok h0 okS c0 c2 m0 hp hd
        go_wp2_with fail
        refine KC.mono ?_
        rintro _ w2 ⟨rfl, M2, t2⟩
        have F2 : Hid (∃ GA', ArAt w2 ab GA' (tickA (setA a (j : Int) (wrS d ad p))) ∧ Grew GA w GA' w2) := FIN.out w2 M2 t2
        clear M2 t2 FIN KC
        go_wp2
        go_ret
        exact ⟨rfl, F2.out⟩
      · rw [if_neg hx]
        have eQ : wrS d ad p = d := wrS_no hx
        rw [eQ] at KW
        obtain ⟨x, hxx⟩ : ∃ x, x = wrX d ad p := ⟨_, rfl⟩
        rw [← hxx] at KW hx ⊢
        have q1 : (x == 0) = false := beq_eq_false_iff_ne.2 hx
        go_enter Try.func16, Try.ntmps16
        go_wp2_with fail
        refine KP.mono ?_
        rintro _ wq ⟨rfl, hwq⟩
        rw [hwq]
        clear hwq wq KP
        go_wp2_with fail
        refine KW.mono ?_
        rintro _ w1 ⟨rfl, G1, D1, g1⟩
        obtain ⟨M1, gg1⟩ := hM.disk hj D1 g1
        have F2 : Hid (∃ GA', ArAt w1 ab GA' a ∧ Grew GA w GA' w1) := ⟨_, ⟨mb, db, _, by
          have e2 : ({ a with D := a.D.set j d } : ArS) = a := by rw [hd]; exact setA_same hj
          rw [e2] at M1
          exact M1, ok⟩, gg1⟩
        clear M1 gg1 D1 g1 KW hM ok h0 okS c0 c2 m0 hp hd hxx eQ
        go_wp2
        go_ret
        exact ⟨rfl, F2.out⟩
    · have K := @apow_no w ab mb _ c0 c2 i ht
      rw [show wrAX a i ad p = 1 by unfold wrAX; rw [if_neg no, if_neg ht]]
      have FIN : Hid (∃ GA', ArAt w ab GA' (wrAS a i ad p) ∧ Grew GA w GA' w) := stays h0 (by unfold wrAS; rw [if_neg no, if_neg ht])
      clear h0 hM ok c2 c0
      go_enter Try.func16, Try.ntmps16
      go_wp2_with fail
      refine K.mono ?_
      rintro _ wq ⟨rfl, hwq⟩
      rw [hwq]
      clear hwq wq K
      go_wp2
      go_ret
      exact ⟨rfl, FIN.out⟩
theorem aread_any (h : ArAt w ab GA a) {i ad : Int} (hi : (Lit.int .i64 i).wf = true) (ha : (Lit.int .i64 ad).wf = true) :
    Calls Try.prog 17 #[.pointer (some ⟨ab, 0, none⟩), .int .i64 i, .int .i64 ad] w (Tells w (rdAX a i ad) (rdAB a i ad)) := by
  obtain ⟨mb, db, GD, hM, ok⟩ := h
  cases ho : a.off with
  | true =>
    have c2 := hM.c2
    rw [ho] at c2
    have K := @apow_off w ab c2 i
    rw [show rdAX a i ad = 130 from if_pos ho, show rdAB a i ad = [] from if_pos ho]
    clear hM ok c2
    go_enter Try.func17, Try.ntmps17
    go_wp2_with fail
    refine K.mono ?_
    rintro _ wq ⟨rfl, hwq⟩
    rw [hwq]
    clear hwq wq K
    go_wp2
    refine bodyPost_ret (v := .tuple #[.slice none 0 0, .int .i64 130]) (by simp [results, Try.results17, go_sem]) rfl ?_
    exact ⟨_, rfl, own_none _ _ _, Below.refl _ _⟩
  | false =>
    have no : ¬ a.off = true := by rw [ho]; simp
    have c0 := hM.c0
    have c2 := hM.c2
    rw [ho] at c2
    by_cases ht : thA a i
    · rw [show rdAX a i ad = faX (diA a i) ad by unfold rdAX; rw [if_neg no, if_pos ht], show rdAB a i ad = rdB (diA a i) ad by unfold rdAB; rw [if_neg no, if_pos ht]]
      obtain ⟨j, rfl, hj⟩ := th_at ht
      have KP := @apow_at w ab mb _ c0 c2 j hj
      have KR := dread_any (hM.dk j hj) ha
      have m0 := hM.m0 j hj
      rw [show diA a (j : Int) = a.D.getD j default from rfl]
      obtain ⟨x, hx⟩ : ∃ x, x = faX (a.D.getD j default) ad := ⟨_, rfl⟩
      obtain ⟨r, hr⟩ : ∃ r, r = rdB (a.D.getD j default) ad := ⟨_, rfl⟩
      rw [← hx, ← hr] at KR ⊢
      clear hM ok hx hr ht c0 c2
      go_enter Try.func17, Try.ntmps17
      go_wp2_with fail
      refine KP.mono ?_
      rintro _ wq ⟨rfl, hwq⟩
      rw [hwq]
      clear hwq wq KP
      go_wp2_with fail
      refine KR.mono ?_
      rintro _ w1 ⟨v, rfl, O1, B1⟩
      go_wp2
      refine bodyPost_ret (v := .tuple #[v, .int .i64 x]) (by simp [results, Try.results17, go_sem]) rfl ?_
      exact ⟨_, rfl, O1, B1⟩
    · have K := @apow_no w ab mb _ c0 c2 i ht
      rw [show rdAX a i ad = 1 by unfold rdAX; rw [if_neg no, if_neg ht], show rdAB a i ad = [] by unfold rdAB; rw [if_neg no, if_neg ht]]
      clear hM ok c2 c0
      go_enter Try.func17, Try.ntmps17
      go_wp2_with fail
      refine K.mono ?_
      rintro _ wq ⟨rfl, hwq⟩
      rw [hwq]
      clear hwq wq K
      go_wp2
      refine bodyPost_ret (v := .tuple #[.slice none 0 0, .int .i64 1]) (by simp [results, Try.results17, go_sem]) rfl ?_
      exact ⟨_, rfl, own_none _ _ _, Below.refl _ _⟩
theorem awrite_nil {i ad : Int} {v : Value} : Calls Try.prog 16 #[.pointer none, .int .i64 i, .int .i64 ad, v] w fun e w' => e = .returned (.int .i64 1) ∧ w' = w := by
  have K := @apow_nil w i
  go_enter Try.func16, Try.ntmps16
  go_wp2_with fail
  refine K.mono ?_
  rintro _ wq ⟨rfl, hwq⟩
  rw [hwq]
  clear hwq wq K
  go_wp2
  go_ret
  exact ⟨rfl, rfl⟩
theorem aread_nil {i ad : Int} : Calls Try.prog 17 #[.pointer none, .int .i64 i, .int .i64 ad] w fun e w' => e = .returned (.tuple #[.slice none 0 0, .int .i64 1]) ∧ w' = w := by
  have K := @apow_nil w i
  go_enter Try.func17, Try.ntmps17
  go_wp2_with fail
  refine K.mono ?_
  rintro _ wq ⟨rfl, hwq⟩
  rw [hwq]
  clear hwq wq K
  go_wp2
  refine bodyPost_ret (v := .tuple #[.slice none 0 0, .int .i64 1]) (by simp [results, Try.results17, go_sem]) rfl ?_
  exact ⟨rfl, rfl⟩
theorem afail_any (h : ArAt w ab GA a) {i : Int} (hi : (Lit.int .i64 i).wf = true) :
    Calls Try.prog 25 #[.pointer (some ⟨ab, 0, none⟩), .int .i64 i] w (LeavesA w ab GA (faAS a i) (.int .i64 (thX a i))) := by
  have h0 := h
  obtain ⟨mb, db, GD, hM, ok⟩ := h
  have c0 := hM.c0
  by_cases ht : thA a i
  · have okS := faAS_ok ok i
    have eS : faAS a i = bornA (setA a i (faS (diA a i))) i := if_pos ht
    rw [show thX a i = 0 from if_pos ht]
    rw [eS] at okS ⊢
    obtain ⟨j, rfl, hj⟩ := th_at ht
    have KP := @amem_at w ab mb _ c0 j hj
    have KW := dfail_any (hM.dk j hj)
    have m0 := hM.m0 j hj
    rw [show diA a (j : Int) = a.D.getD j default from rfl] at okS ⊢
    obtain ⟨d, hd⟩ : ∃ d, d = a.D.getD j default := ⟨_, rfl⟩
    rw [← hd] at KW okS ⊢
    go_enter Try.func25, Try.ntmps25
    go_wp2_with fail
    refine KP.mono ?_
    rintro _ wq ⟨rfl, hwq⟩
    rw [hwq]
    clear hwq wq KP
    go_wp2_with fail
    refine KW.mono ?_
    rintro _ w1 ⟨rfl, G1, D1, g1⟩
    obtain ⟨M1, gg1⟩ := hM.disk hj D1 g1
    have hj1 : j < (a.D.set j (faS d)).length := by simpa using hj
    have m1 : w1.cell? ⟨mb, j * 2 + 1, none⟩ = some (.int .i64 (a.B.getD j 0)) := M1.m1 j hj1
    have fm := M1.fm j hj1
    have M2 := M1.setBorn hj1 (IntKind.i64.wrap (a.B.getD j 0 + 1))
    have FIN : Hid (∃ GA', ArAt (w1.setCell ⟨mb, j * 2 + 1, none⟩ (.int .i64 (IntKind.i64.wrap (a.B.getD j 0 + 1)))) ab GA' (bornA (setA a (j : Int) (faS d)) (j : Int)) ∧ Grew GA w GA' (w1.setCell ⟨mb, j * 2 + 1, none⟩ (.int .i64 (IntKind.i64.wrap (a.B.getD j 0 + 1))))) :=
      ⟨_, ⟨mb, db, _, M2, okS⟩, gg1.trans (Grew.of_turn (setCell_turnG (Or.inl hM.gm)))⟩
    obtain ⟨z, hz⟩ : ∃ z, z = a.B.getD j 0 := ⟨_, rfl⟩
    rw [← hz] at m1 FIN
    obtain ⟨z1, gz⟩ : ∃ z1, IntKind.i64.wrap (z + 1) = z1 := ⟨_, rfl⟩
    rw [gz] at FIN
    clear M1 M2 gg1 D1 g1 KW hM ok h0 okS c0 m0 hd hj1 hz
    go_wp2
    go_ret
    exact ⟨rfl, FIN.out⟩
  · have K := @amem_no w ab mb _ c0 i ht
    rw [show thX a i = 1 from if_neg ht]
    have FIN : Hid (∃ GA', ArAt w ab GA' (faAS a i) ∧ Grew GA w GA' w) := stays h0 (if_neg ht)
    clear h0 hM ok c0
    go_enter Try.func25, Try.ntmps25
    go_wp2_with fail
    refine K.mono ?_
    rintro _ wq ⟨rfl, hwq⟩
    rw [hwq]
    clear hwq wq K
    go_wp2
    go_ret
    exact ⟨rfl, FIN.out⟩
theorem afail_nil {i : Int} : Calls Try.prog 25 #[.pointer none, .int .i64 i] w fun e w' => e = .returned (.int .i64 1) ∧ w' = w := by
  have K := @amem_nil w i
  go_enter Try.func25, Try.ntmps25
  go_wp2_with fail
  refine K.mono ?_
  rintro _ wq ⟨rfl, hwq⟩
  rw [hwq]
  clear hwq wq K
  go_wp2
  go_ret
  exact ⟨rfl, rfl⟩
theorem arepl_any (h : ArAt w ab GA a) {i : Int} (hi : (Lit.int .i64 i).wf = true) :
    Calls Try.prog 26 #[.pointer (some ⟨ab, 0, none⟩), .int .i64 i] w (LeavesA w ab GA (rpAS a i) (.int .i64 (thX a i))) := by
  have h0 := h
  obtain ⟨mb, db, GD, hM, ok⟩ := h
  have c0 := hM.c0
  by_cases ht : thA a i
  · have okS := rpAS_ok ok i
    have eS : rpAS a i = bornA (setA a i (reS (diA a i))) i := if_pos ht
    rw [show thX a i = 0 from if_pos ht]
    rw [eS] at okS ⊢
    obtain ⟨j, rfl, hj⟩ := th_at ht
    have KP := @amem_at w ab mb _ c0 j hj
    have KW := drepl_any (hM.dk j hj)
    have m0 := hM.m0 j hj
    rw [show diA a (j : Int) = a.D.getD j default from rfl] at okS ⊢
    obtain ⟨d, hd⟩ : ∃ d, d = a.D.getD j default := ⟨_, rfl⟩
    rw [← hd] at KW okS ⊢
    go_enter Try.func26, Try.ntmps26
    go_wp2_with fail
    refine KP.mono ?_
    rintro _ wq ⟨rfl, hwq⟩
    rw [hwq]
    clear hwq wq KP
    go_wp2_with fail
    refine KW.mono ?_
    rintro _ w1 ⟨rfl, G1, D1, g1⟩
    obtain ⟨M1, gg1⟩ := hM.disk hj D1 g1
    have hj1 : j < (a.D.set j (reS d)).length := by simpa using hj
    have m1 : w1.cell? ⟨mb, j * 2 + 1, none⟩ = some (.int .i64 (a.B.getD j 0)) := M1.m1 j hj1
    have fm := M1.fm j hj1
    have M2 := M1.setBorn hj1 (IntKind.i64.wrap (a.B.getD j 0 + 1))
    have FIN : Hid (∃ GA', ArAt (w1.setCell ⟨mb, j * 2 + 1, none⟩ (.int .i64 (IntKind.i64.wrap (a.B.getD j 0 + 1)))) ab GA' (bornA (setA a (j : Int) (reS d)) (j : Int)) ∧ Grew GA w GA' (w1.setCell ⟨mb, j * 2 + 1, none⟩ (.int .i64 (IntKind.i64.wrap (a.B.getD j 0 + 1))))) :=
      ⟨_, ⟨mb, db, _, M2, okS⟩, gg1.trans (Grew.of_turn (setCell_turnG (Or.inl hM.gm)))⟩
    obtain ⟨z, hz⟩ : ∃ z, z = a.B.getD j 0 := ⟨_, rfl⟩
    rw [← hz] at m1 FIN
    obtain ⟨z1, gz⟩ : ∃ z1, IntKind.i64.wrap (z + 1) = z1 := ⟨_, rfl⟩
    rw [gz] at FIN
    clear M1 M2 gg1 D1 g1 KW hM ok h0 okS c0 m0 hd hj1 hz
    go_wp2
    go_ret
    exact ⟨rfl, FIN.out⟩
  · have K := @amem_no w ab mb _ c0 i ht
    rw [show thX a i = 1 from if_neg ht]
    have FIN : Hid (∃ GA', ArAt w ab GA' (rpAS a i) ∧ Grew GA w GA' w) := stays h0 (if_neg ht)
    clear h0 hM ok c0
    go_enter Try.func26, Try.ntmps26
    go_wp2_with fail
    refine K.mono ?_
    rintro _ wq ⟨rfl, hwq⟩
    rw [hwq]
    clear hwq wq K
    go_wp2
    go_ret
    exact ⟨rfl, FIN.out⟩
theorem arepl_nil {i : Int} : Calls Try.prog 26 #[.pointer none, .int .i64 i] w fun e w' => e = .returned (.int .i64 1) ∧ w' = w := by
  have K := @amem_nil w i
  go_enter Try.func26, Try.ntmps26
  go_wp2_with fail
  refine K.mono ?_
  rintro _ wq ⟨rfl, hwq⟩
  rw [hwq]
  clear hwq wq K
  go_wp2
  go_ret
  exact ⟨rfl, rfl⟩
theorem acorr_any (h : ArAt w ab GA a) {i ad at_ : Int} (hi : (Lit.int .i64 i).wf = true) (ha : (Lit.int .i64 ad).wf = true) (hat : (Lit.int .i64 at_).wf = true) (y : UInt8) :
    Calls Try.prog 27 #[.pointer (some ⟨ab, 0, none⟩), .int .i64 i, .int .i64 ad, .int .i64 at_, .int .u8 ((y.toNat : Nat) : Int)] w (LeavesA w ab GA (coAS a i ad at_ y) (.int .i64 (coAX a i ad))) := by
  have h0 := h
  obtain ⟨mb, db, GD, hM, ok⟩ := h
  have c0 := hM.c0
  by_cases ht : thA a i
  · have okS := coAS_ok ok i ad at_ y
    have eS : coAS a i ad at_ y = setA a i (coS (diA a i) ad at_ y) := if_pos ht
    rw [show coAX a i ad = coX (diA a i) ad from if_pos ht]
    rw [eS] at okS ⊢
    obtain ⟨j, rfl, hj⟩ := th_at ht
    have KP := @amem_at w ab mb _ c0 j hj
    have KW := dcorr_any (hM.dk j hj) ha hat y
    have m0 := hM.m0 j hj
    rw [show diA a (j : Int) = a.D.getD j default from rfl] at okS ⊢
    obtain ⟨x, hx⟩ : ∃ x, x = coX (a.D.getD j default) ad := ⟨_, rfl⟩
    rw [← hx] at KW ⊢
    obtain ⟨d, hd⟩ : ∃ d, d = a.D.getD j default := ⟨_, rfl⟩
    rw [← hd] at KW okS ⊢
    clear hx
    go_enter Try.func27, Try.ntmps27
    go_wp2_with fail
    refine KP.mono ?_
    rintro _ wq ⟨rfl, hwq⟩
    rw [hwq]
    clear hwq wq KP
    go_wp2_with fail
    refine KW.mono ?_
    rintro _ w1 ⟨rfl, G1, D1, g1⟩
    obtain ⟨M1, gg1⟩ := hM.disk hj D1 g1
    have FIN : Hid (∃ GA', ArAt w1 ab GA' (setA a (j : Int) (coS d ad at_ y)) ∧ Grew GA w GA' w1) := ⟨_, ⟨mb, db, _, M1, okS⟩, gg1⟩
    clear M1 gg1 D1 g1 KW hM ok h0 okS c0 m0 hd
    go_wp2
    go_ret
    exact ⟨rfl, FIN.out⟩
  · have K := @amem_no w ab mb _ c0 i ht
    rw [show coAX a i ad = 1 from if_neg ht]
    have FIN : Hid (∃ GA', ArAt w ab GA' (coAS a i ad at_ y) ∧ Grew GA w GA' w) := stays h0 (if_neg ht)
    clear h0 hM ok c0
    go_enter Try.func27, Try.ntmps27
    go_wp2_with fail
    refine K.mono ?_
    rintro _ wq ⟨rfl, hwq⟩
    rw [hwq]
    clear hwq wq K
    go_wp2
    go_ret
    exact ⟨rfl, FIN.out⟩
theorem acorr_nil {i ad at_ y : Int} : Calls Try.prog 27 #[.pointer none, .int .i64 i, .int .i64 ad, .int .i64 at_, .int .u8 y] w fun e w' => e = .returned (.int .i64 1) ∧ w' = w := by
  have K := @amem_nil w i
  go_enter Try.func27, Try.ntmps27
  go_wp2_with fail
  refine K.mono ?_
  rintro _ wq ⟨rfl, hwq⟩
  rw [hwq]
  clear hwq wq K
  go_wp2
  go_ret
  exact ⟨rfl, rfl⟩
theorem alasts_at (h : ArAt w ab GA a) {j : Nat} (hj : j < a.D.length) : Calls Try.prog 21 #[.pointer (some ⟨ab, 0, none⟩), .int .i64 (j : Int)] w fun e w' => ∃ v, e = .returned v ∧ OwnH w' w.heap.size v (heldL (a.D.getD j default).last (a.D.getD j default).s) ∧ Below w.heap.size w w' := by
  obtain ⟨mb, db, GD, hM, ok⟩ := h
  have KP := @amem_at w ab mb _ hM.c0 j hj
  have KW := dlasts_any (hM.dk j hj)
  have m0 := hM.m0 j hj
  clear hM ok
  go_enter Try.func21, Try.ntmps21
  go_wp2_with fail
  refine KP.mono ?_
  rintro _ wq ⟨rfl, hwq⟩
  rw [hwq]
  clear hwq wq KP
  go_wp2_with fail
  refine KW.mono ?_
  rintro _ w1 ⟨v, rfl, O1, B1⟩
  go_wp2
  go_ret
  exact ⟨_, rfl, O1, B1⟩
theorem alasts_no (h : ArAt w ab GA a) {i : Int} (hi : ¬ thA a i) : Calls Try.prog 21 #[.pointer (some ⟨ab, 0, none⟩), .int .i64 i] w fun e w' => e = .returned (.slice none 0 0) ∧ w' = w := by
  obtain ⟨mb, db, GD, hM, ok⟩ := h
  have K := @amem_no w ab mb _ hM.c0 i hi
  clear hM ok
  go_enter Try.func21, Try.ntmps21
  go_wp2_with fail
  refine K.mono ?_
  rintro _ wq ⟨rfl, hwq⟩
  rw [hwq]
  clear hwq wq K
  go_wp2
  go_ret
  exact ⟨rfl, rfl⟩
theorem alasts_nil {i : Int} : Calls Try.prog 21 #[.pointer none, .int .i64 i] w fun e w' => e = .returned (.slice none 0 0) ∧ w' = w := by
  have K := @amem_nil w i
  go_enter Try.func21, Try.ntmps21
  go_wp2_with fail
  refine K.mono ?_
  rintro _ wq ⟨rfl, hwq⟩
  rw [hwq]
  clear hwq wq K
  go_wp2
  go_ret
  exact ⟨rfl, rfl⟩
theorem awaits_at (h : ArAt w ab GA a) {j : Nat} (hj : j < a.D.length) : Calls Try.prog 20 #[.pointer (some ⟨ab, 0, none⟩), .int .i64 (j : Int)] w fun e w' => ∃ v, e = .returned v ∧ OwnH w' w.heap.size v (heldL (a.D.getD j default).wait (a.D.getD j default).s) ∧ Below w.heap.size w w' := by
  obtain ⟨mb, db, GD, hM, ok⟩ := h
  have KP := @amem_at w ab mb _ hM.c0 j hj
  have KW := dwaits_any (hM.dk j hj)
  have m0 := hM.m0 j hj
  clear hM ok
  go_enter Try.func20, Try.ntmps20
  go_wp2_with fail
  refine KP.mono ?_
  rintro _ wq ⟨rfl, hwq⟩
  rw [hwq]
  clear hwq wq KP
  go_wp2_with fail
  refine KW.mono ?_
  rintro _ w1 ⟨v, rfl, O1, B1⟩
  go_wp2
  go_ret
  exact ⟨_, rfl, O1, B1⟩
theorem awaits_no (h : ArAt w ab GA a) {i : Int} (hi : ¬ thA a i) : Calls Try.prog 20 #[.pointer (some ⟨ab, 0, none⟩), .int .i64 i] w fun e w' => e = .returned (.slice none 0 0) ∧ w' = w := by
  obtain ⟨mb, db, GD, hM, ok⟩ := h
  have K := @amem_no w ab mb _ hM.c0 i hi
  clear hM ok
  go_enter Try.func20, Try.ntmps20
  go_wp2_with fail
  refine K.mono ?_
  rintro _ wq ⟨rfl, hwq⟩
  rw [hwq]
  clear hwq wq K
  go_wp2
  go_ret
  exact ⟨rfl, rfl⟩
theorem awaits_nil {i : Int} : Calls Try.prog 20 #[.pointer none, .int .i64 i] w fun e w' => e = .returned (.slice none 0 0) ∧ w' = w := by
  have K := @amem_nil w i
  go_enter Try.func20, Try.ntmps20
  go_wp2_with fail
  refine K.mono ?_
  rintro _ wq ⟨rfl, hwq⟩
  rw [hwq]
  clear hwq wq K
  go_wp2
  go_ret
  exact ⟨rfl, rfl⟩
end
end Go.Proofs.Ytpijncnpicgjeaa.Gf

/-
  THE DOCUMENT's DISK FOR LAYER 12 (package aumbryref12) BY CONTRACT: Write, Read.
-/

namespace Go.Proofs.Ytpijncnpicgjeaa.Gf
set_option linter.unusedVariables false
set_option linter.unusedSimpArgs false
open Go.RowKit

theorem run_append_b {P : Program} (w : World) (t ty : TypeId) (base : Nat) (e : TypeId) (i : TypeInfo) (ht : P.underlying t = some (.slice e)) (hi : P.info? e = some i) (hz : i.zero = some (.int .u8 0)) (hsize : i.size = 1) (hby : i.bytes = 1)
    (v : Value) (n : Nat) (xs : List Value) (hown : w.ownsRow base e 1 v n xs) (va : Value) (p : List UInt8) (hr : Rd w va p) (hl : n + p.length ≤ 1000000) (hbase : base ≤ w.heap.size) :
    ∃ v' w', (Builtin.append_ #[t, t] ty #[v, va]).run P w = .ok v' w' ∧ w'.ownsRow base e 1 v' (n + p.length) (xs ++ p.map vb) ∧ w.grownBy w' v.ownBlock := by
  rcases hr with ⟨ao, cap, rfl, rfl, hc, hn⟩ | ⟨b, off, cap, hp0, rfl, h1, h2, h3, hpc⟩
  · rcases ao with _ | ad
    · have := hn rfl
      subst this
      exact ⟨v, w, run_append_owned_none (P := P) (w := w) base t ty e i 1 ht hi v n xs hown, by simpa using hown, World.grownBy.refl _ _⟩
    · obtain ⟨v', w', hr, h2, h3, _⟩ := run_append_own_at (P := P) w base t ty e i (.int .u8 0) 1 1 ht hi hz hsize hby rfl (by decide) v n xs hown ad 0 cap [] rfl (by intro j u hj; simp at hj) (by intro u hu; simp at hu) (by unfold maxLen; omega) (by omega) hbase
      exact ⟨v', w', hr, by simpa using h2, h3⟩
  · obtain ⟨v', w', hr, h2, h3, _⟩ := run_append_own_at (P := P) w base t ty e i (.int .u8 0) 1 1 ht hi hz hsize hby rfl (by decide) v n xs hown ⟨b, off, none⟩ p.length cap ((p.take p.length).map vb) (by simp) (news_of hpc) (vb_one _) (by unfold maxLen; omega) (by omega) hbase
    exact ⟨v', w', hr, by simpa using h2, h3⟩
theorem step_append_b {P : Program} {w : World} {ops : Array Oper} {o : Oper} {a : Act} {K : Act → World → Prop} {Q : Exit → Act → World → Prop} {E : Prop} (hgd : o.guard = none) (s x : Operand) (t : TypeId)
    (ho : o.op = .call { callee := .builtin .append, args := #[s, x], argTypes := #[t, t] })
    (base : Nat) (e : TypeId) (i : TypeInfo) (ht : P.underlying t = some (.slice e)) (hi : P.info? e = some i) (hz : i.zero = some (.int .u8 0)) (hsize : i.size = 1) (hby : i.bytes = 1)
    (v : Value) (n : Nat) (xs : List Value) (hs : a.eval s = v) (hown : w.ownsRow base e 1 v n xs) (va : Value) (p : List UInt8) (hx : a.eval x = va) (hr : Rd w va p) (hl : n + p.length ≤ 1000000) (hbase : base ≤ w.heap.size)
    (h : ∀ v' w', w'.ownsRow base e 1 v' (n + p.length) (xs ++ p.map vb) → w.grownBy w' v.ownBlock → K (a.put o.dst v') w') :
    if Region.wanted o (yielded ops a.tmps) = true then Oper.wp P o a w K Q else E := by
  have hw : Region.wanted o (yielded ops a.tmps) = true := by simp [Region.wanted, hgd]
  rw [if_pos hw]
  obtain ⟨v', w', hrun, h2, h3⟩ := run_append_b w t o.type base e i ht hi hz hsize hby v n xs hown va p hr hl hbase
  unfold Oper.wp execOp
  simp only [ho, resolve, invoke, builtin, Sem.run_bind, Sem.run_pure, Result.andThen_ok, List.map_toArray, List.map_cons, List.map_nil, hs, hx, hrun]
  exact h v' w' h2 h3
section
variable {w w' : World} {rb : Nat} {vl vw : Value} {Tl Tw : List TH} {H : Nat → Prop} {d : DkS}
/-- 'with', at a list that holds what f tells -/
def WithH (w : World) (H : Nat → Prop) (f : Int → Option (List UInt8)) (s : Nat) (e : Ending) (w' : World) : Prop := ∃ v T, e = .returned v ∧ ToldT w' H v T ∧ CapOk v ∧ bareT T = heldL f s ∧ Below w.heap.size w w'
theorem with_is {v : Value} {T : List TH} {f : Int → Option (List UInt8)} {s : Nat} (ht : ToldT w H v T) (hc : CapOk v) (he : bareT T = heldL f s) (hs : s ≤ 4096) (hl : ∀ k, H k → k < w.heap.size) {x : Int} (h0 : 0 ≤ x) (h1 : x < (s : Int)) {p : List UInt8} {vb : Value} (hp : Told w H vb p) :
    Calls Try.prog 74 #[v, .agg #[.int .i64 x, vb]] w (WithH w H (putB f x p) s) := by
  obtain ⟨k0, k1, hk, hlo, hhi, hb⟩ := with_place he h0 h1 p vb
  have hlen : T.length ≤ 4096 := by rw [← bareT_length, he]; exact Nat.le_trans (heldL_length _ _) hs
  refine (with_any ht.rd hc hp.rd (by omega) k0 k1 hk hlo hhi).mono ?_
  rintro e w' ⟨v', rfl, hrow, hbel⟩
  have hmem : ∀ t ∈ T.take k0 ++ (x, p, vb) :: T.drop k1, (t ∈ T ∨ t = (x, p, vb)) := by
    intro t ht2
    rcases List.mem_append.1 ht2 with h | h
    · exact Or.inl (List.mem_of_mem_take h)
    · rcases List.mem_cons.1 h with h | h
      · exact Or.inr h
      · exact Or.inl (List.mem_of_mem_drop h)
  have hlen2 : (T.take k0 ++ (x, p, vb) :: T.drop k1).length ≤ 100000 := by simp; omega
  refine ⟨v', _, rfl, ⟨rdT_row hrow (fun t ht2 => ?_) hlen2, ?_, fun t ht2 => ?_⟩, cap_row hrow, hb, hbel⟩
  · rcases hmem t ht2 with h | h
    · exact (ht.rd.each t h).below hbel
    · rw [h]; exact hp.rd.below hbel
  · intro y n c e
    right
    intro hg
    have h2 := row_at hrow (g := y.block) (by rw [e]; rfl)
    have h3 := hl _ hg
    omega
  · rcases hmem t ht2 with h | h
    · exact ht.each t h
    · rw [h]; exact hp.ap
set_option maxRecDepth 100000 in
set_option maxHeartbeats 1000000 in
theorem rwrite_any (h : RefIn w rb vl vw Tl Tw H d) {a : Int} {v : Value} {p : List UInt8} (hp : Rd w v p) :
    Calls Try.prog 59 #[.pointer (some ⟨rb, 0, none⟩), .int .i64 a, v] w (LeavesR w rb H (wrS d a p) (.int .i64 (wrX d a p))) := by
  have K := rfault_any h (a := a)
  have hpl := hp.len
  obtain ⟨ad, cp, rfl⟩ := hp.form
  obtain ⟨i0, hi, hz0, hz1, hz2⟩ := info_parts info_u8
  by_cases hf : faX d a = 0
  · by_cases hb : OkB p
    · have eX : wrX d a p = 0 := by unfold wrX; rw [if_pos hf, if_pos hb]
      obtain ⟨hb1, hb2⟩ := hb
      have q0 : ¬ (p.length : Int) < 1 := by omega
      have q3 : ¬ (p.length : Int) > 4108 := by omega
      have c2 := h.c2
      rw [eX]
      rw [hf] at K
      go_enter Try.func59, Try.ntmps59
      go_wp2_with fail
      refine K.mono ?_
      rintro _ wq ⟨rfl, hwq⟩
      rw [hwq]
      clear hwq wq
      go_wp2_with fail
      obtain ⟨fz1, fz2, fz3⟩ := faX_zero hf
      have bA : Below w.heap.size w (w.alloc (.cells #[] 5)).drew := (belA _ _).drew
      have oA : (w.alloc (.cells #[] 5)).drew.ownsRow w.heap.size 5 1 (.slice (some ⟨w.heap.size, 0, none⟩) 0 0) 0 [] := World.ownsRow.drew (own_new12 w 5)
      have pA := hp.below bA
      have hl0 : 0 + p.length ≤ 1000000 := by omega
      have c0 := h.c0
      have c0A := (h.below bA).c0
      have c2A := (h.below bA).c2
      have eS : { d with wait := putB d.wait a p } = wrS d a p := by unfold wrS; rw [if_pos ⟨hf, hb1, hb2⟩]
      clear K eX
      go_region_law (first
        | (refine step_append_b rfl (.tmp 28) (.tmp 29) 32 rfl w.heap.size 5 i0 Try.underlying32 hi hz0 hz1 hz2 (.slice (some ⟨w.heap.size, 0, none⟩) 0 0) 0 [] rfl oA _ p rfl pA hl0 bA.size ?_; intro v4 w4 h4 g4; have C4 : Below w.heap.size w w4 := bA.grown g4 bA.size (fun q hq => by cases hq; exact Nat.le_refl _); have I4 := h.below C4; have O4 : w4.ownsRow w.heap.size 5 1 v4 p.length (p.map vb) := (by rw [Nat.zero_add, List.nil_append] at h4; exact h4); have T4 : Told w4 H v4 p := ⟨Rd.owned O4, ApartG.own O4 h.lt⟩; have c04 := I4.c0; have c24 := I4.c2; obtain ⟨a4, k4, rfl⟩ := owns_slice O4)
        | (go_simp; go_at_call 74; (refine (with_is I4.tw h.kw h.ew h.s2 I4.lt fz2 fz3 T4).mono ?_); rintro _ w5 ⟨v5, T5, rfl, t5, k5, e5, b5⟩; have I5 := I4.below b5; have c05 := I5.c0; have c25 := I5.c2; have f25 := I5.f2; have I6 := I5.setW t5 k5 e5; have c06 := I6.c0; have B5 := C4.step12 b5 C4.size; obtain ⟨a5, m5, rfl⟩ := t5.rd.form; dsimp only))
      all_goals
        have FIN : Hid (RefAt (w5.setCell ⟨rb, 2, none⟩ (.slice a5 T5.length m5)) rb H (wrS d a p) ∧ TurnG (fun k => k = rb) w (w5.setCell ⟨rb, 2, none⟩ (.slice a5 T5.length m5))) := ⟨⟨_, _, _, _, by rw [← eS]; exact I6⟩, (Below.turnG B5 _).trans (turnR_set 2 _)⟩
        clear I6 c06 c05 c25 f25 I5 b5 t5 k5 e5 B5 c04 c24 T4 O4 I4 C4 g4 h4 h hp pA oA bA c0 c0A c2A c2 eS
        go_wp2
        go_ret
        exact ⟨rfl, FIN.out⟩
    · have eX : wrX d a p = 1 := by unfold wrX; rw [if_pos hf, if_neg hb]
      have eS : wrS d a p = d := by unfold wrS; rw [if_neg (fun h => hb h.2)]
      have FIN : Hid (RefAt w rb H (wrS d a p) ∧ TurnG (fun k => k = rb) w w) := by
        show _ ∧ _
        rw [eS]
        exact ⟨⟨_, _, _, _, h⟩, TurnG.refl _ _⟩
      rw [eX]
      rw [hf] at K
      clear eX eS h hp
      by_cases g1 : p.length < 1
      · have q0 : (p.length : Int) < 1 := by omega
        go_enter Try.func59, Try.ntmps59
        go_wp2_with fail
        refine K.mono ?_
        rintro _ wq ⟨rfl, hwq⟩
        rw [hwq]
        clear hwq wq K
        go_wp2
        go_ret
        exact ⟨rfl, FIN.out⟩
      · have q0 : ¬ (p.length : Int) < 1 := by omega
        have q3 : (p.length : Int) > 4108 := by have : ¬ (1 ≤ p.length ∧ p.length ≤ 4108) := hb; omega
        go_enter Try.func59, Try.ntmps59
        go_wp2_with fail
        refine K.mono ?_
        rintro _ wq ⟨rfl, hwq⟩
        rw [hwq]
        clear hwq wq K
        go_wp2
        go_ret
        exact ⟨rfl, FIN.out⟩
  · have eX : wrX d a p = faX d a := by unfold wrX; rw [if_neg hf]
    have eS : wrS d a p = d := by unfold wrS; rw [if_neg (fun h => hf h.1)]
    have FIN : Hid (RefAt w rb H (wrS d a p) ∧ TurnG (fun k => k = rb) w w) := by
      show _ ∧ _
      rw [eS]
      exact ⟨⟨_, _, _, _, h⟩, TurnG.refl _ _⟩
    rw [eX]
    obtain ⟨x, hx⟩ : ∃ x, x = faX d a := ⟨_, rfl⟩
    rw [← hx] at hf K ⊢
    clear eX eS h hp hx
    have q1 : (x == 0) = false := beq_eq_false_iff_ne.2 hf
    go_enter Try.func59, Try.ntmps59
    go_wp2_with fail
    refine K.mono ?_
    rintro _ wq ⟨rfl, hwq⟩
    rw [hwq]
    clear hwq wq K
    go_wp2
    go_ret
    exact ⟨rfl, FIN.out⟩
/-- what the document's Read answers -/
def TellsR (w : World) (x : Int) (p : List UInt8) (e : Ending) (w' : World) : Prop := ∃ v, e = .returned (.tuple #[v, .int .i64 x]) ∧ Rd w' v p ∧ Below w.heap.size w w'
theorem ref_look (h : RefIn w rb vl vw Tl Tw H d) (ok : d.Ok) (x : Int) : lookL (bareT Tw) x = d.wait x ∧ lookL (bareT Tl) x = d.last x := by
  rw [h.ew, h.el]
  exact ⟨lookL_held ok.iw x, lookL_held ok.il x⟩
set_option maxRecDepth 100000 in
set_option maxHeartbeats 1000000 in
theorem rread_any (h : RefIn w rb vl vw Tl Tw H d) (ok : d.Ok) {a : Int} : Calls Try.prog 60 #[.pointer (some ⟨rb, 0, none⟩), .int .i64 a] w (TellsR w (faX d a) (rdB d a)) := by
  have K := rfault_any h (a := a)
  obtain ⟨i0, hi, hz0, hz1, hz2⟩ := info_parts info_u8
  have c1 := h.c1
  have c2 := h.c2
  have KW := find_any h.tw.rd (x := a)
  have KL := find_any h.tl.rd (x := a)
  obtain ⟨LW, LL⟩ := ref_look h ok a
  by_cases hf : faX d a = 0
  · have eR : rdB d a = (atD d a).getD [] := by unfold rdB; rw [if_pos hf]
    rw [hf] at K ⊢
    rw [eR]
    obtain ⟨aw, cw, rfl⟩ := h.tw.rd.form
    obtain ⟨al, cl, rfl⟩ := h.tl.rd.form
    cases hw : d.wait a with
    | some p =>
      have eA : (atD d a).getD [] = p := by unfold atD; rw [hw]; rfl
      rw [eA]
      rw [hw] at LW
      go_enter Try.func60, Try.ntmps60
      go_wp2_with fail
      refine K.mono ?_
      rintro _ wq ⟨rfl, hwq⟩
      rw [hwq]
      clear hwq wq K
      go_wp2_with fail
      refine KW.mono ?_
      rintro _ wq ⟨hwq, ⟨rfl, e1⟩ | ⟨k, rfl, hk, e1⟩⟩
      · rw [LW] at e1; cases e1
      · rw [hwq]
        rw [LW] at e1
        cases e1
        clear hwq wq KW KL
        obtain ⟨b, off, rfl, x0, x1, r1⟩ := h.tw.rd.at hk
        have hkw := h.len_w
        have hk' : (k : Int) < (Tw.length : Int) := by omega
        have hk0 : (k : Int) ≥ 0 := by omega
        have hin : (Tw.getD k default).2.1.length ≤ 100000 := by
          have h5 := ok.iw a _ hw
          omega
        obtain ⟨t3, ht3⟩ : ∃ t, t = (Tw.getD k default).2.2 := ⟨_, rfl⟩
        obtain ⟨t2, ht2⟩ : ∃ t, t = (Tw.getD k default).2.1 := ⟨_, rfl⟩
        rw [← ht3] at x1 r1
        rw [← ht2] at r1 hin
        obtain ⟨ta, tc, rfl⟩ := r1.form
        have bA : Below w.heap.size w (w.alloc (.cells #[] 5)) := belA _ _
        have HT2 : Hid _ := ht2
        have oA := own_new12 w 5
        have I1 := h.below bA
        have y2 := I1.c2
        have hlt : b < w.heap.size := by
          have e := x1
          unfold World.cell? at e
          by_cases hb : b < w.heap.size
          · exact hb
          · rw [Array.getElem?_eq_none (by show w.heap.size ≤ b; omega)] at e; cases e
        have y9 := (bA.cell (p := ⟨b, off + k * 2 + 1, none⟩) hlt).trans x1
        have r9 := r1.below bA
        have hl9 : 0 + t2.length ≤ 1000000 := by omega
        clear h LW LL hw x0 x1 r1 I1 ht3 ht2 eR eA 
        go_wp2_with (first | (at_builtin; go_loud (refine wpList_append_rd _ rfl _ _ 32 rfl w.heap.size 5 i0 Try.underlying32 hi hz0 hz1 hz2 (.slice (some ⟨w.heap.size, 0, none⟩) 0 0) 0 [] rfl oA (.slice ta t2.length tc) t2 rfl r9 hl9 bA.size ?_); intro v4 w4 h4 g4))
        have FIN : Hid (Rd w4 v4 t2 ∧ Below w.heap.size w w4) := by
          rw [Nat.zero_add, List.nil_append] at h4
          exact ⟨Rd.owned h4, bA.grown g4 bA.size (fun q hq => by cases hq; exact Nat.le_refl _)⟩
        clear h4 g4 oA r9
        go_wp2
        refine bodyPost_ret (v := .tuple #[v4, .int .i64 0]) (by simp [results, Try.results60, go_sem]) rfl ?_
        exact ⟨_, rfl, by rw [← HT2.out]; exact FIN.out⟩
    | none =>
      rw [hw] at LW
      cases hl : d.last a with
      | some p =>
        have eA : (atD d a).getD [] = p := by unfold atD; rw [hw, hl]; rfl
        rw [eA]
        rw [hl] at LL
        go_enter Try.func60, Try.ntmps60
        go_wp2_with fail
        refine K.mono ?_
        rintro _ wq ⟨rfl, hwq⟩
        rw [hwq]
        clear hwq wq K
        go_wp2_with fail
        refine KW.mono ?_
        rintro _ wq ⟨hwq, ⟨rfl, e1⟩ | ⟨k, rfl, hk, e1⟩⟩
        · rw [hwq]
          clear hwq wq KW e1
          go_wp2_with fail
          refine KL.mono ?_
          rintro _ wq ⟨hwq, ⟨rfl, e1⟩ | ⟨k, rfl, hk, e1⟩⟩
          · rw [LL] at e1; cases e1
          · rw [hwq]
            rw [LL] at e1
            cases e1
            clear hwq wq KL
            obtain ⟨b, off, rfl, x0, x1, r1⟩ := h.tl.rd.at hk
            have hkw := h.len_l
            have hk' : (k : Int) < (Tl.length : Int) := by omega
            have hk0 : (k : Int) ≥ 0 := by omega
            have hin : (Tl.getD k default).2.1.length ≤ 100000 := by
              have h5 := ok.il a _ hl
              omega
            obtain ⟨t3, ht3⟩ : ∃ t, t = (Tl.getD k default).2.2 := ⟨_, rfl⟩
            obtain ⟨t2, ht2⟩ : ∃ t, t = (Tl.getD k default).2.1 := ⟨_, rfl⟩
            rw [← ht3] at x1 r1
            rw [← ht2] at r1 hin
            obtain ⟨ta, tc, rfl⟩ := r1.form
            have bA : Below w.heap.size w (w.alloc (.cells #[] 5)) := belA _ _
            have HT2 : Hid _ := ht2
            have oA := own_new12 w 5
            have I1 := h.below bA
            have y1 := I1.c1
            have hlt : b < w.heap.size := by
              have e := x1
              unfold World.cell? at e
              by_cases hb : b < w.heap.size
              · exact hb
              · rw [Array.getElem?_eq_none (by show w.heap.size ≤ b; omega)] at e; cases e
            have y9 := (bA.cell (p := ⟨b, off + k * 2 + 1, none⟩) hlt).trans x1
            have r9 := r1.below bA
            have hl9 : 0 + t2.length ≤ 1000000 := by omega
            clear h LW LL hw x0 x1 r1 I1 ht3 ht2 eR eA hl
            go_wp2_with (first | (at_builtin; go_loud (refine wpList_append_rd _ rfl _ _ 32 rfl w.heap.size 5 i0 Try.underlying32 hi hz0 hz1 hz2 (.slice (some ⟨w.heap.size, 0, none⟩) 0 0) 0 [] rfl oA (.slice ta t2.length tc) t2 rfl r9 hl9 bA.size ?_); intro v4 w4 h4 g4))
            have FIN : Hid (Rd w4 v4 t2 ∧ Below w.heap.size w w4) := by
              rw [Nat.zero_add, List.nil_append] at h4
              exact ⟨Rd.owned h4, bA.grown g4 bA.size (fun q hq => by cases hq; exact Nat.le_refl _)⟩
            clear h4 g4 oA r9
            go_wp2
            refine bodyPost_ret (v := .tuple #[v4, .int .i64 0]) (by simp [results, Try.results60, go_sem]) rfl ?_
            exact ⟨_, rfl, by rw [← HT2.out]; exact FIN.out⟩
        · rw [LW] at e1; cases e1
      | none =>
        have eA : (atD d a).getD [] = [] := by unfold atD; rw [hw, hl]; rfl
        rw [eA]
        rw [hl] at LL
        go_enter Try.func60, Try.ntmps60
        go_wp2_with fail
        refine K.mono ?_
        rintro _ wq ⟨rfl, hwq⟩
        rw [hwq]
        clear hwq wq K
        go_wp2_with fail
        refine KW.mono ?_
        rintro _ wq ⟨hwq, ⟨rfl, e1⟩ | ⟨k, rfl, hk, e1⟩⟩
        · rw [hwq]
          clear hwq wq KW e1
          go_wp2_with fail
          refine KL.mono ?_
          rintro _ wq ⟨hwq, ⟨rfl, e1⟩ | ⟨k, rfl, hk, e1⟩⟩
          · rw [hwq]
            clear hwq wq KL e1
            go_wp2
            refine bodyPost_ret (v := .tuple #[.slice none 0 0, .int .i64 0]) (by simp [results, Try.results60, go_sem]) rfl ?_
            exact ⟨_, rfl, Or.inl ⟨none, 0, rfl, rfl, Nat.zero_le _, fun _ => rfl⟩, Below.refl _ _⟩
          · rw [LL] at e1; cases e1
        · rw [LW] at e1; cases e1
  · have eR : rdB d a = [] := by unfold rdB; rw [if_neg hf]
    rw [eR]
    obtain ⟨x, hx⟩ : ∃ x, x = faX d a := ⟨_, rfl⟩
    rw [← hx] at hf K ⊢
    clear eR h hx KW KL
    have q1 : (x == 0) = false := beq_eq_false_iff_ne.2 hf
    go_enter Try.func60, Try.ntmps60
    go_wp2_with fail
    refine K.mono ?_
    rintro _ wq ⟨rfl, hwq⟩
    rw [hwq]
    clear hwq wq K
    go_wp2
    refine bodyPost_ret (v := .tuple #[.slice none 0 0, .int .i64 x]) (by simp [results, Try.results60, go_sem]) rfl ?_
    exact ⟨_, rfl, Or.inl ⟨none, 0, rfl, rfl, Nat.zero_le _, fun _ => rfl⟩, Below.refl _ _⟩
end
end Go.Proofs.Ytpijncnpicgjeaa.Gf

/-
  THE DOCUMENT's DISK FOR LAYER 12 (package aumbryref12) BY CONTRACT: Flush, Crash.
-/

namespace Go.Proofs.Ytpijncnpicgjeaa.Gf
set_option linter.unusedVariables false
set_option linter.unusedSimpArgs false
open Go.RowKit

/-- some sectors, one behind another -/
def putsL (f : Int → Option (List UInt8)) (M : List (Int × List UInt8)) : Int → Option (List UInt8) := M.foldl (fun f t => putB f t.1 t.2) f
theorem putsL_none {M : List (Int × List UInt8)} {y : Int} (h : ∀ t ∈ M, t.1 ≠ y) (f : Int → Option (List UInt8)) : putsL f M y = f y := by
  induction M generalizing f with
  | nil => rfl
  | cons t M ih =>
    show putsL (putB f t.1 t.2) M y = f y
    rw [ih (fun u hu => h u (List.mem_cons_of_mem _ hu))]
    exact if_neg (fun e => h t (List.mem_cons_self ..) e.symm)
theorem putsL_some {M : List (Int × List UInt8)} (hs : Sorted12 M) {y : Int} {b : List UInt8} (h : (y, b) ∈ M) (f : Int → Option (List UInt8)) : putsL f M y = some b := by
  induction M generalizing f with
  | nil => cases h
  | cons t M ih =>
    obtain ⟨h1, h2⟩ := List.pairwise_cons.1 hs
    show putsL (putB f t.1 t.2) M y = some b
    rcases List.mem_cons.1 h with e | h3
    · subst e
      rw [putsL_none (fun u hu => by have := h1 u hu; simp at this; omega)]
      exact if_pos rfl
    · exact ih h2 h3 _
theorem puts_all {f : Int → Option (List UInt8)} {g : Int → Option (List UInt8)} {s : Nat} (hg : InS s g) (y : Int) : putsL f (heldL g s) y = overB g f y := by
  unfold overB
  cases hy : g y with
  | some b => exact putsL_some (heldL_sorted g s) (heldL_mem.2 ⟨(hg y b hy).1, (hg y b hy).2.1, hy⟩) f
  | none =>
    refine putsL_none (fun t ht e => ?_) f
    have := (heldL_mem (x := t.1) (b := t.2)).1 ht
    rw [e, hy] at this
    cases this.2.2
theorem held_only (g : Int → Option (List UInt8)) (K : List Int) (s : Nat) : (heldL g s).filter (fun t => decide (t.1 ∈ K)) = heldL (onlyB g K) s := by
  refine sorted_ext ((heldL_sorted g s).filter _) (heldL_sorted _ _) fun z => ?_
  obtain ⟨y, q⟩ := z
  rw [List.mem_filter, heldL_mem, heldL_mem]
  unfold onlyB
  by_cases h : y ∈ K
  · simp [h]
  · simp [h]
theorem puts_snoc (f : Int → Option (List UInt8)) (M : List (Int × List UInt8)) (t : Int × List UInt8) : putsL f (M ++ [t]) = putB (putsL f M) t.1 t.2 := by unfold putsL; rw [List.foldl_append]; rfl
theorem take_snoc {M : List (Int × List UInt8)} {i : Nat} (h : i < M.length) : M.take (i + 1) = M.take i ++ [M[i]] := by rw [List.take_add_one, List.getElem?_eq_getElem h]; rfl
section
variable {w w' : World} {rb : Nat} {vl vw : Value} {Tl Tw : List TH} {H : Nat → Prop} {d : DkS}
/-- the document's loop over what waits, under way -/
def FlR (w0 : World) (rb : Nat) (vw : Value) (Tw : List TH) (H : Nat → Prop) (d : DkS) (f : Int → Option (List UInt8)) (wr : World) : Prop := ∃ vl Tl, RefIn wr rb vl vw Tl Tw H { d with last := f } ∧ TurnG (fun k => k = rb) w0 wr
theorem RefIn.entry (h : RefIn w rb vl vw Tl Tw H d) {i : Nat} (hi : i < Tw.length) : ∃ hi2 : i < (heldL d.wait d.s).length, (heldL d.wait d.s)[i] = ((Tw.getD i default).1, (Tw.getD i default).2.1) ∧ 0 ≤ (Tw.getD i default).1 ∧ (Tw.getD i default).1 < (d.s : Int) := by
  have hi2 : i < (heldL d.wait d.s).length := by rw [← h.ew, bareT_length]; exact hi
  have hi3 : i < (bareT Tw).length := by rw [bareT_length]; exact hi
  have e : (heldL d.wait d.s)[i] = (bareT Tw)[i] := by simp only [h.ew]
  rw [bare_at hi3] at e
  have hm : ((Tw.getD i default).1, (Tw.getD i default).2.1) ∈ heldL d.wait d.s := by rw [← e]; exact List.getElem_mem hi2
  have := heldL_mem.1 hm
  exact ⟨hi2, e, this.1, this.2.1⟩
set_option maxRecDepth 100000 in
set_option maxHeartbeats 1000000 in
theorem rflush_any (h : RefIn w rb vl vw Tl Tw H d) (ok : d.Ok) : Calls Try.prog 61 #[.pointer (some ⟨rb, 0, none⟩)] w (LeavesR w rb H (flS d) (.int .i64 (flX d))) := by
  have c3 := h.c3
  cases hd : d.dead with
  | true =>
    have e1 : flX d = 120 := if_pos hd
    have FIN : Hid (RefAt w rb H (flS d) ∧ TurnG (fun k => k = rb) w w) := by
      show _ ∧ _
      rw [show flS d = d from if_pos hd]
      exact ⟨⟨_, _, _, _, h⟩, TurnG.refl _ _⟩
    rw [hd] at c3
    rw [e1]
    clear e1 h
    go_enter Try.func61, Try.ntmps61
    go_wp2
    go_ret
    exact ⟨rfl, FIN.out⟩
  | false =>
    have e1 : flX d = 0 := by unfold flX; rw [if_neg (by rw [hd]; decide)]
    rw [hd] at c3
    rw [e1]
    have START : Hid (FlR w rb vw Tw H d (putsL d.last ((heldL d.wait d.s).take 0)) w) := ⟨vl, Tl, h, TurnG.refl _ _⟩
    have ENT : Hid (∀ i, i < Tw.length → ∃ hi2 : i < (heldL d.wait d.s).length, (heldL d.wait d.s)[i] = ((Tw.getD i default).1, (Tw.getD i default).2.1) ∧ 0 ≤ (Tw.getD i default).1 ∧ (Tw.getD i default).1 < (d.s : Int)) := fun i hi => h.entry hi
    have hlw := h.len_w
    obtain ⟨aw, cw, rfl⟩ := h.tw.rd.form
    have hel : Hid (Tw.length = (heldL d.wait d.s).length) := by show _ = _; rw [← h.ew, bareT_length]
    clear h
    go_enter Try.func61, Try.ntmps61
    go_wp2
    go_loopw [3] (fun i wr => ∃ k : Nat, k ≤ Tw.length ∧ i = .int .i64 (k : Int) ∧ FlR w rb (.slice aw Tw.length cw) Tw H d (putsL d.last ((heldL d.wait d.s).take k)) wr) (fun i _ => Tw.length - (intOf i).toNat)
    case atStart => exact ⟨0, Nat.zero_le _, rfl, START.out⟩
    case round =>
      obtain ⟨k, hk, rfl, vl, Tl, hI, hT⟩ := hrel
      clear START
      have c2 := hI.c2
      by_cases hlt : k < Tw.length
      · have hlt' : (k : Int) < (Tw.length : Int) := by omega
        have g1 : IntKind.i64.wrap ((k : Int) + 1) = ((k + 1 : Nat) : Int) := by rw [IntKind.wrap_i64]; omega
        obtain ⟨hi2, e2, e3, e4⟩ := ENT.out k hlt
        obtain ⟨b, off, rfl, x0, x1, r1⟩ := hI.tw.rd.at hlt
        have c1 := hI.c1
        have f1 := hI.f1
        have HN : Hid (putB (putsL d.last ((heldL d.wait d.s).take k)) (Tw.getD k default).1 (Tw.getD k default).2.1 = putsL d.last ((heldL d.wait d.s).take (k + 1))) := by
          show _ = _
          rw [take_snoc hi2, puts_snoc, e2]
        have tm := getD_mem12 hlt
        have TB : Told wr H (Tw.getD k default).2.2 (Tw.getD k default).2.1 := ⟨r1, hI.tw.each _ tm⟩
        obtain ⟨f, hf⟩ : ∃ f, f = putsL d.last ((heldL d.wait d.s).take k) := ⟨_, rfl⟩
        rw [← hf] at hI HN
        obtain ⟨t, ht⟩ : ∃ t, t = Tw.getD k default := ⟨_, rfl⟩
        rw [← ht] at x0 x1 TB HN e3 e4
        obtain ⟨q1, q2, q3⟩ := t
        simp only at x0 x1 TB e3 e4
        obtain ⟨qa, qc, rfl⟩ := TB.rd.form
        obtain ⟨al, cl, rfl⟩ := hI.tl.rd.form
        clear r1 e2 hf ht tm c3
        have bD : Below wr.heap.size wr wr.drew := (Below.refl _ _).drew
        have I0 := hI.below bD
        have TB0 := TB.below bD
        have hTl : Hid (TurnG (fun k => k = rb) w wr) := hT
        clear hT
        go_wp2_with fail
        go_region_law (first
          | (go_simp; go_at_call 74; (refine (with_is I0.tl I0.kl I0.el I0.s2 I0.lt e3 e4 TB0).mono ?_); rintro _ w5 ⟨v5, T5, rfl, t5, k5, e5, b5⟩; have I5 := I0.below b5; have c15 := I5.c1; have f15 := I5.f1; have I6 := I5.setL t5 k5 e5; have B5 := bD.step12 b5 bD.size; obtain ⟨a5, m5, rfl⟩ := t5.rd.form; dsimp only))
        all_goals
          have E3 : Hid (FlR w rb (.slice (some ⟨b, off, none⟩) Tw.length cw) Tw H d (putsL d.last ((heldL d.wait d.s).take (k + 1))) (w5.setCell ⟨rb, 1, none⟩ (.slice a5 T5.length m5))) := ⟨_, _, by rw [← HN.out]; exact I6, (hTl.out.trans (Below.turnG B5 _)).trans (turnR_set 1 _)⟩
          clear I6 c15 f15 I5 b5 t5 k5 e5 B5 I0 TB0 hI TB x0 x1 c1 f1 c2 bD hTl HN
          go_wp2
          go_roundw
          case rel => exact ⟨k + 1, by omega, by go_num, E3.out⟩
          case measure => simp [intOf]; omega
      · have hge : ¬ (k : Int) < (Tw.length : Int) := by omega
        have hk' : k = Tw.length := by omega
        have f2 := hI.f2
        have I6 := hI.setW (told_nil _ H) cap_nil (f := noneI) (by rw [heldL_none]; rfl)
        have eS : ({ ({ d with last := putsL d.last ((heldL d.wait d.s).take k) } : DkS) with wait := noneI } : DkS) = flS d := by
          rw [hk', hel.out, List.take_length]
          unfold flS
          rw [if_neg (by rw [hd]; decide), DkS.mk.injEq]
          exact ⟨rfl, funext fun y => puts_all ok.iw y, rfl, rfl⟩
        have FIN : Hid (RefAt (wr.setCell ⟨rb, 2, none⟩ (.slice none 0 0)) rb H (flS d) ∧ TurnG (fun k => k = rb) w (wr.setCell ⟨rb, 2, none⟩ (.slice none 0 0))) := ⟨⟨_, _, _, _, by rw [← eS]; exact I6⟩, hT.trans (turnR_set 2 _)⟩
        clear I6 eS hI hT ENT hel hk' c3
        go_wp2
        go_ret
        exact ⟨rfl, FIN.out⟩
set_option maxRecDepth 100000 in
set_option maxHeartbeats 2000000 in
theorem rcrash_any (h : RefIn w rb vl vw Tl Tw H d) (ok : d.Ok) {v : Value} {K : List Int} (hK : RdI w v K) (hA : ApartG (fun k => k = rb) v) (hl : K.length ≤ 1000000) : Calls Try.prog 62 #[.pointer (some ⟨rb, 0, none⟩), v] w (LeavesR w rb H (crS d K) (.tuple #[])) := by
  obtain ⟨ad, cp, rfl⟩ := hK.form
  have START : Hid (FlR w rb vw Tw H d (putsL d.last (((heldL d.wait d.s).take 0).filter (fun t => decide (t.1 ∈ K)))) w) := ⟨vl, Tl, h, TurnG.refl _ _⟩
  have ENT : Hid (∀ i, i < Tw.length → ∃ hi2 : i < (heldL d.wait d.s).length, (heldL d.wait d.s)[i] = ((Tw.getD i default).1, (Tw.getD i default).2.1) ∧ 0 ≤ (Tw.getD i default).1 ∧ (Tw.getD i default).1 < (d.s : Int)) := fun i hi => h.entry hi
  have hcell : Hid (∀ W, TurnG (fun k => k = rb) w W → ∀ k, k < K.length → ∃ b o, ad = some ⟨b, o, none⟩ ∧ W.cell? ⟨b, o + k, none⟩ = some (.int .i64 (K.getD k 0))) := by
    intro W hW k hk
    rcases hK with ⟨_, _, h1, _⟩ | ⟨b, o, c, h1, h2, h3, h4, h5⟩
    · rw [h1] at hk; simp at hk
    · have e : ad = some ⟨b, o, none⟩ := by simp at h2; exact h2.1
      refine ⟨b, o, e, ?_⟩
      rw [← h5 k hk]
      refine hW.cell (p := ⟨b, o + k, none⟩) h4 ?_
      rcases hA _ _ _ h2 with h6 | h6
      · omega
      · exact h6
  have hlw := h.len_w
  obtain ⟨aw, cw, rfl⟩ := h.tw.rd.form
  have hel : Hid (Tw.length = (heldL d.wait d.s).length) := by show _ = _; rw [← h.ew, bareT_length]
  clear h hK hA
  go_enter Try.func62, Try.ntmps62
  go_wp2
  go_loopw [4] (fun i wr => ∃ k : Nat, k ≤ Tw.length ∧ i = .int .i64 (k : Int) ∧ FlR w rb (.slice aw Tw.length cw) Tw H d (putsL d.last (((heldL d.wait d.s).take k).filter (fun t => decide (t.1 ∈ K)))) wr) (fun i _ => Tw.length - (intOf i).toNat)
  case atStart => exact ⟨0, Nat.zero_le _, rfl, START.out⟩
  case round =>
    obtain ⟨k, hk, rfl, vl, Tl, hI, hT⟩ := hrel
    clear START
    have c2 := hI.c2
    by_cases hlt : k < Tw.length
    · have hlt' : (k : Int) < (Tw.length : Int) := by omega
      have g1 : IntKind.i64.wrap ((k : Int) + 1) = ((k + 1 : Nat) : Int) := by rw [IntKind.wrap_i64]; omega
      obtain ⟨hi2, e2, e3, e4⟩ := ENT.out k hlt
      obtain ⟨b, off, rfl, x0, x1, r1⟩ := hI.tw.rd.at hlt
      have HN : Hid (putsL d.last (((heldL d.wait d.s).take (k + 1)).filter (fun t => decide (t.1 ∈ K))) = if (Tw.getD k default).1 ∈ K then putB (putsL d.last (((heldL d.wait d.s).take k).filter (fun t => decide (t.1 ∈ K)))) (Tw.getD k default).1 (Tw.getD k default).2.1 else putsL d.last (((heldL d.wait d.s).take k).filter (fun t => decide (t.1 ∈ K)))) := by
        show _ = _
        rw [take_snoc hi2, List.filter_append, e2]
        by_cases hm : (Tw.getD k default).1 ∈ K
        · rw [if_pos hm, List.filter_cons_of_pos (by simpa using hm), List.filter_nil, puts_snoc]
        · rw [if_neg hm, List.filter_cons_of_neg (by simpa using hm), List.filter_nil, List.append_nil]
      have tm := getD_mem12 hlt
      have TB : Told wr H (Tw.getD k default).2.2 (Tw.getD k default).2.1 := ⟨r1, hI.tw.each _ tm⟩
      obtain ⟨f, hf⟩ : ∃ f, f = putsL d.last (((heldL d.wait d.s).take k).filter (fun t => decide (t.1 ∈ K))) := ⟨_, rfl⟩
      rw [← hf] at hI HN
      obtain ⟨t, ht⟩ : ∃ t, t = Tw.getD k default := ⟨_, rfl⟩
      rw [← ht] at x0 x1 TB HN e3 e4
      obtain ⟨q1, q2, q3⟩ := t
      simp only at x0 x1 TB e3 e4 HN
      obtain ⟨qa, qc, rfl⟩ := TB.rd.form
      obtain ⟨al, cl, rfl⟩ := hI.tl.rd.form
      obtain ⟨wo, hwo⟩ : ∃ x, x = wr := ⟨wr, rfl⟩
      subst hwo
      have hck : Hid (∀ k, k < K.length → ∃ b o, ad = some ⟨b, o, none⟩ ∧ wo.cell? ⟨b, o + k, none⟩ = some (.int .i64 (K.getD k 0))) := hcell.out _ hT
      have hTl : Hid (TurnG (fun k => k = rb) w wo) := hT
      have HI : Hid (RefIn wo rb (.slice al Tl.length cl) (.slice (some ⟨b, off, none⟩) Tw.length cw) Tl Tw H { d with last := f }) := hI
      have HTB : Hid (Told wo H (.slice qa q2.length qc) q2) := TB
      clear r1 e2 hf ht tm hT hI TB
      go_wp2
      go_loopw [5, 6] (fun kp i wx => ∃ j : Nat, j ≤ K.length ∧ i = .int .i64 (j : Int) ∧ kp = .bool (decide (q1 ∈ K.take j)) ∧ ∃ m, Hid (wx = wo.drewN m)) (fun _ i _ => K.length - (intOf i).toNat)
      case atStart => exact ⟨0, Nat.zero_le _, rfl, by simp, 0, rfl⟩
      case round =>
        obtain ⟨j, hj, rfl, rfl, m, hwx⟩ := hrel
        have z2 : wr.cell? ⟨rb, 2, none⟩ = some (.slice (some ⟨b, off, none⟩) Tw.length cw) := by rw [hwx.out]; exact c2
        have z0 : wr.cell? ⟨b, off + k * 2, none⟩ = some (.int .i64 q1) := by rw [hwx.out]; exact x0
        have z1 : wr.cell? ⟨b, off + k * 2 + 1, none⟩ = some (.slice qa q2.length qc) := by rw [hwx.out]; exact x1
        by_cases hjl : j < K.length
        · have hjl' : (j : Int) < (K.length : Int) := by omega
          have g2 : IntKind.i64.wrap ((j : Int) + 1) = ((j + 1 : Nat) : Int) := by rw [IntKind.wrap_i64]; omega
          obtain ⟨bk, okk, rfl, cj⟩ := hck.out j hjl
          have cj' : wr.cell? ⟨bk, okk + j, none⟩ = some (.int .i64 (K.getD j 0)) := by rw [hwx.out]; exact cj
          have M := mem_take hjl q1
          have HM : Hid (decide (q1 ∈ K.take (j + 1)) = (decide (q1 ∈ K.take j) || (K.getD j 0 == q1))) := M
          clear M hck cj c2 x0 x1
          cases hm : decide (q1 ∈ K.take j) with
          | true =>
            rw [hm] at HM
            go_wp2
            go_quiet (fail)
            go_wp2
            go_roundw
            case rel => exact ⟨j + 1, by omega, by go_num, by rw [HM.out]; rfl, _, by show _ = _; rw [hwx.out, World.drewN_drewN]⟩
            case measure => simp [intOf]; omega
          | false =>
            rw [hm] at HM
            obtain ⟨z, hz⟩ : ∃ z, z = K.getD j 0 := ⟨_, rfl⟩
            rw [← hz] at cj' HM
            clear hz
            cases hq : (z == q1) with
            | true =>
              rw [hq] at HM
              have hq' := beq_iff_eq.1 hq
              go_wp2
              go_quiet (fail)
              go_wp2
              go_roundw
              case rel => exact ⟨j + 1, by omega, by go_num, by rw [HM.out]; simp [hq'], _, by show _ = _; rw [hwx.out, World.drewN_drewN]⟩
              case measure => simp [intOf]; omega
            | false =>
              rw [hq] at HM
              go_wp2
              go_quiet (fail)
              go_wp2
              go_roundw
              case rel => exact ⟨j + 1, by omega, by go_num, by rw [HM.out]; rfl, _, by show _ = _; rw [hwx.out, World.drewN_drewN]⟩
              case measure => simp [intOf]; omega
        · have hjl' : ¬ (j : Int) < (K.length : Int) := by omega
          have hjK : j = K.length := by omega
          rw [hjK, List.take_length]
          rw [hjK] at hjl'
          clear hjK hjl hj hck
          have bW : Below wo.heap.size wo wr := by rw [hwx.out]; exact (Below.refl _ _).drewN _
          have I1 := HI.out.below bW
          have TB := HTB.out.below bW
          have hT1 := hTl.out.trans (Below.turnG bW _)
          have hTw : Hid (TurnG (fun k => k = rb) w wr) := hT1
          clear hT1 hTl HI HTB hwx bW c2 x0 x1
          by_cases hm : q1 ∈ K
          · rw [decide_eq_true hm]
            rw [if_pos hm] at HN
            have c1 := I1.c1
            have f1 := I1.f1
            have bD : Below wr.heap.size wr wr.drew := (Below.refl _ _).drew
            have I0 := I1.below bD
            have TB0 := TB.below bD
            go_wp2_with fail
            go_region_law (first
              | (go_simp; go_at_call 74; (refine (with_is I0.tl I0.kl I0.el I0.s2 I0.lt e3 e4 TB0).mono ?_); rintro _ w5 ⟨v5, T5, rfl, t5, k5, e5, b5⟩; have I5 := I0.below b5; have c15 := I5.c1; have f15 := I5.f1; have I6 := I5.setL t5 k5 e5; have B5 := bD.step12 b5 bD.size; obtain ⟨a5, m5, rfl⟩ := t5.rd.form; dsimp only))
            all_goals
              have E3 : Hid (FlR w rb (.slice (some ⟨b, off, none⟩) Tw.length cw) Tw H d (putsL d.last (((heldL d.wait d.s).take (k + 1)).filter (fun t => decide (t.1 ∈ K)))) (w5.setCell ⟨rb, 1, none⟩ (.slice a5 T5.length m5))) := ⟨_, _, by rw [HN.out]; exact I6, (hTw.out.trans (Below.turnG B5 _)).trans (turnR_set 1 _)⟩
              clear I6 c15 f15 I5 b5 t5 k5 e5 B5 I0 TB0 I1 TB z0 z1 z2 c1 f1 bD hTw HN
              go_wp2
              go_roundw
              case rel => exact ⟨k + 1, by omega, by go_num, E3.out⟩
              case measure => simp [intOf]; omega
          · rw [decide_eq_false hm]
            rw [if_neg hm] at HN
            have E3 : Hid (FlR w rb (.slice (some ⟨b, off, none⟩) Tw.length cw) Tw H d (putsL d.last (((heldL d.wait d.s).take (k + 1)).filter (fun t => decide (t.1 ∈ K)))) wr) := ⟨_, _, by rw [HN.out]; exact I1, hTw.out⟩
            clear I1 TB z0 z1 z2 hTw HN
            go_wp2
            go_roundw
            case rel => exact ⟨k + 1, by omega, by go_num, E3.out⟩
            case measure => simp [intOf]; omega
    · have hge : ¬ (k : Int) < (Tw.length : Int) := by omega
      have hk' : k = Tw.length := by omega
      have f2 := hI.f2
      have I6 := hI.setW (told_nil _ H) cap_nil (f := noneI) (by rw [heldL_none]; rfl)
      have eS : ({ ({ d with last := putsL d.last (((heldL d.wait d.s).take k).filter (fun t => decide (t.1 ∈ K))) } : DkS) with wait := noneI } : DkS) = crS d K := by
        rw [hk', hel.out, List.take_length, held_only]
        unfold crS
        rw [DkS.mk.injEq]
        exact ⟨rfl, funext fun y => puts_all (onlyB_in ok.iw K) y, rfl, rfl⟩
      have FIN : Hid (RefAt (wr.setCell ⟨rb, 2, none⟩ (.slice none 0 0)) rb H (crS d K) ∧ TurnG (fun k => k = rb) w (wr.setCell ⟨rb, 2, none⟩ (.slice none 0 0))) := ⟨⟨_, _, _, _, by rw [← eS]; exact I6⟩, hT.trans (turnR_set 2 _)⟩
      clear I6 eS hI hT ENT hel hk' hcell
      go_wp2
      go_end0
      exact ⟨rfl, FIN.out⟩
end
end Go.Proofs.Ytpijncnpicgjeaa.Gf

/-
  THE DOCUMENT's DISK FOR LAYER 12 (package aumbryref12) BY CONTRACT: Corrupt.
-/

namespace Go.Proofs.Ytpijncnpicgjeaa.Gf
set_option linter.unusedVariables false
set_option linter.unusedSimpArgs false
open Go.RowKit

section
variable {w w' : World} {rb : Nat} {vl vw : Value} {Tl Tw : List TH} {H : Nat → Prop} {d : DkS}
set_option maxRecDepth 100000 in
set_option maxHeartbeats 2000000 in
theorem rcorr_any (h : RefIn w rb vl vw Tl Tw H d) (ok : d.Ok) {a at_ : Int} (hat : (Lit.int .i64 at_).wf = true) (y : UInt8) :
    Calls Try.prog 65 #[.pointer (some ⟨rb, 0, none⟩), .int .i64 a, .int .i64 at_, .int .u8 ((y.toNat : Nat) : Int)] w (LeavesR w rb H (coS d a at_ y) (.int .i64 (coX d a))) := by
  have K := rfault_any h (a := a)
  have KW := find_any h.tw.rd (x := a)
  have KL := find_any h.tl.rd (x := a)
  obtain ⟨LW, LL⟩ := ref_look h ok a
  by_cases hf : faX d a = 0
  · rw [hf] at K
    obtain ⟨fz1, fz2, fz3⟩ := faX_zero hf
    obtain ⟨aw, cw, rfl⟩ := h.tw.rd.form
    obtain ⟨al, cl, rfl⟩ := h.tl.rd.form
    have c1 := h.c1
    have c2 := h.c2
    cases hw : d.wait a with
    | some p =>
      rw [hw] at LW
      have eX : coX d a = 0 := by unfold coX atD; rw [if_pos hf, hw]; rfl
      have eS : coS d a at_ y = { d with wait := putB d.wait a (chB p at_ y) } := by unfold coS; rw [if_pos hf, hw]
      rw [eX]
      go_enter Try.func65, Try.ntmps65
      go_wp2_with fail
      refine K.mono ?_
      rintro _ wq ⟨rfl, hwq⟩
      rw [hwq]
      clear hwq wq K
      go_wp2_with fail
      refine KW.mono ?_
      rintro _ wq ⟨hwq, ⟨rfl, e1⟩ | ⟨k, rfl, hk, e1⟩⟩
      · rw [LW] at e1; cases e1
      · rw [hwq]
        rw [LW] at e1
        have hpin := ok.iw a p hw
        obtain ⟨b, off, rfl, x0, x1, r1⟩ := h.tw.rd.at hk
        have hkw := h.len_w
        have hk' : (k : Int) < (Tw.length : Int) := by omega
        have hk0 : (k : Int) ≥ 0 := by omega
        have hk1 : ¬ (k : Int) < 0 := by omega
        have e2 : (Tw.getD k default).2.1 = p := by simpa using e1.symm
        rw [e2] at r1
        obtain ⟨t3, ht3⟩ : ∃ t, t = (Tw.getD k default).2.2 := ⟨_, rfl⟩
        rw [← ht3] at x1 r1
        obtain ⟨ta, tc, rfl⟩ := r1.form
        have bD : Below w.heap.size w w.drew := (Below.refl _ _).drew
        have I0 := h.below bD
        have r0 := r1.below bD
        have z2 := I0.c2
        have z1 := I0.c1
        have HES : Hid _ := eS
        have FH : Hid (∀ k, H k → k < w.heap.size) := h.lt
        clear LW LL ht3 e1 e2 hwq wq KW eS
        go_wp2_with fail
        go_region_law (first
          | (go_simp; go_at_call 76; (refine (changed_any r0 hpin.2.2.1 (by omega) hat y).mono ?_); rintro _ w4 ⟨v4, rfl, O4, b4⟩; have I4 := I0.below b4; have c24 := I4.c2; have c14 := I4.c1; have O4' : w4.ownsRow w.drew.heap.size 5 1 v4 (chB p at_ y).length ((chB p at_ y).map vb) := (by rw [chB_length]; exact O4); have T4 : Told w4 H v4 (chB p at_ y) := ⟨Rd.owned O4', ApartG.own O4' FH.out⟩; obtain ⟨a4, k4, rfl⟩ := owns_slice O4; dsimp only)
          | (go_simp; go_at_call 74; (refine (with_is I4.tw I4.kw I4.ew I4.s2 I4.lt fz2 fz3 T4).mono ?_); rintro _ w5 ⟨v5, T5, rfl, t5, k5, e5, b5⟩; have I5 := I4.below b5; have c25 := I5.c2; have f25 := I5.f2; have c15 := I5.c1; have f15 := I5.f1; have I6 := I5.setW t5 k5 e5; have B5 := (bD.step12 b4 bD.size).step12 b5 (bD.step12 b4 bD.size).size; obtain ⟨a5, m5, rfl⟩ := t5.rd.form; dsimp only))
        all_goals
          have FIN : Hid (RefAt (w5.setCell ⟨rb, 2, none⟩ (.slice a5 T5.length m5)) rb H (coS d a at_ y) ∧ TurnG (fun k => k = rb) w (w5.setCell ⟨rb, 2, none⟩ (.slice a5 T5.length m5))) := ⟨⟨_, _, _, _, by rw [HES.out]; exact I6⟩, (Below.turnG B5 _).trans (turnR_set 2 _)⟩
          clear I6 c15 f15 c25 f25 I5 b5 t5 k5 e5 B5 I4 c24 c14 O4 O4' T4 b4 I0 r0 r1 h x0 x1 bD HES FH
          go_wp2
          go_ret
          exact ⟨rfl, FIN.out⟩
    | none =>
      rw [hw] at LW
      cases hl : d.last a with
      | some p =>
        rw [hl] at LL
        have eX : coX d a = 0 := by unfold coX atD; rw [if_pos hf, hw, hl]; rfl
        have eS : coS d a at_ y = { d with last := putB d.last a (chB p at_ y) } := by unfold coS; rw [if_pos hf, hw, hl]
        rw [eX]
        go_enter Try.func65, Try.ntmps65
        go_wp2_with fail
        refine K.mono ?_
        rintro _ wq ⟨rfl, hwq⟩
        rw [hwq]
        clear hwq wq K
        go_wp2_with fail
        refine KW.mono ?_
        rintro _ wq ⟨hwq, ⟨rfl, e1⟩ | ⟨k, rfl, hk, e1⟩⟩
        · rw [hwq]
          clear hwq wq KW e1
          go_wp2_with fail
          refine KL.mono ?_
          rintro _ wq ⟨hwq, ⟨rfl, e1⟩ | ⟨k, rfl, hk, e1⟩⟩
          · rw [LL] at e1; cases e1
          · rw [hwq]
            rw [LL] at e1
            have hpin := ok.il a p hl
            have KW := KL
            obtain ⟨b, off, rfl, x0, x1, r1⟩ := h.tl.rd.at hk
            have hkw := h.len_l
            have hk' : (k : Int) < (Tl.length : Int) := by omega
            have hk0 : (k : Int) ≥ 0 := by omega
            have hk1 : ¬ (k : Int) < 0 := by omega
            have e2 : (Tl.getD k default).2.1 = p := by simpa using e1.symm
            rw [e2] at r1
            obtain ⟨t3, ht3⟩ : ∃ t, t = (Tl.getD k default).2.2 := ⟨_, rfl⟩
            rw [← ht3] at x1 r1
            obtain ⟨ta, tc, rfl⟩ := r1.form
            have bD : Below w.heap.size w w.drew := (Below.refl _ _).drew
            have I0 := h.below bD
            have r0 := r1.below bD
            have z2 := I0.c2
            have z1 := I0.c1
            have HES : Hid _ := eS
            have FH : Hid (∀ k, H k → k < w.heap.size) := h.lt
            clear LW LL ht3 e1 e2 hwq wq KW eS
            go_wp2_with fail
            go_region_law (first
              | (go_simp; go_at_call 76; (refine (changed_any r0 hpin.2.2.1 (by omega) hat y).mono ?_); rintro _ w4 ⟨v4, rfl, O4, b4⟩; have I4 := I0.below b4; have c24 := I4.c2; have c14 := I4.c1; have O4' : w4.ownsRow w.drew.heap.size 5 1 v4 (chB p at_ y).length ((chB p at_ y).map vb) := (by rw [chB_length]; exact O4); have T4 : Told w4 H v4 (chB p at_ y) := ⟨Rd.owned O4', ApartG.own O4' FH.out⟩; obtain ⟨a4, k4, rfl⟩ := owns_slice O4; dsimp only)
              | (go_simp; go_at_call 74; (refine (with_is I4.tl I4.kl I4.el I4.s2 I4.lt fz2 fz3 T4).mono ?_); rintro _ w5 ⟨v5, T5, rfl, t5, k5, e5, b5⟩; have I5 := I4.below b5; have c25 := I5.c2; have f25 := I5.f2; have c15 := I5.c1; have f15 := I5.f1; have I6 := I5.setL t5 k5 e5; have B5 := (bD.step12 b4 bD.size).step12 b5 (bD.step12 b4 bD.size).size; obtain ⟨a5, m5, rfl⟩ := t5.rd.form; dsimp only))
            all_goals
              have FIN : Hid (RefAt (w5.setCell ⟨rb, 1, none⟩ (.slice a5 T5.length m5)) rb H (coS d a at_ y) ∧ TurnG (fun k => k = rb) w (w5.setCell ⟨rb, 1, none⟩ (.slice a5 T5.length m5))) := ⟨⟨_, _, _, _, by rw [HES.out]; exact I6⟩, (Below.turnG B5 _).trans (turnR_set 1 _)⟩
              clear I6 c15 f15 c25 f25 I5 b5 t5 k5 e5 B5 I4 c24 c14 O4 O4' T4 b4 I0 r0 r1 h x0 x1 bD HES FH
              go_wp2
              go_ret
              exact ⟨rfl, FIN.out⟩
        · rw [LW] at e1; cases e1
      | none =>
        rw [hl] at LL
        have eX : coX d a = 1 := by unfold coX atD; rw [if_pos hf, hw, hl]; rfl
        have eS : coS d a at_ y = d := by unfold coS; rw [if_pos hf, hw, hl]
        have FIN : Hid (RefAt w rb H (coS d a at_ y) ∧ TurnG (fun k => k = rb) w w) := by
          show _ ∧ _
          rw [eS]
          exact ⟨⟨_, _, _, _, h⟩, TurnG.refl _ _⟩
        rw [eX]
        go_enter Try.func65, Try.ntmps65
        go_wp2_with fail
        refine K.mono ?_
        rintro _ wq ⟨rfl, hwq⟩
        rw [hwq]
        clear hwq wq K
        go_wp2_with fail
        refine KW.mono ?_
        rintro _ wq ⟨hwq, ⟨rfl, e1⟩ | ⟨k, rfl, hk, e1⟩⟩
        · rw [hwq]
          clear hwq wq KW e1
          go_wp2_with fail
          refine KL.mono ?_
          rintro _ wq ⟨hwq, ⟨rfl, e1⟩ | ⟨k, rfl, hk, e1⟩⟩
          · rw [hwq]
            clear hwq wq KL e1 h
            go_wp2
            go_ret
            exact ⟨rfl, FIN.out⟩
          · rw [LL] at e1; cases e1
        · rw [LW] at e1; cases e1
  · have eX : coX d a = faX d a := by unfold coX; rw [if_neg hf]
    have eS : coS d a at_ y = d := by unfold coS; rw [if_neg hf]
    have FIN : Hid (RefAt w rb H (coS d a at_ y) ∧ TurnG (fun k => k = rb) w w) := by
      show _ ∧ _
      rw [eS]
      exact ⟨⟨_, _, _, _, h⟩, TurnG.refl _ _⟩
    rw [eX]
    obtain ⟨x, hx⟩ : ∃ x, x = faX d a := ⟨_, rfl⟩
    rw [← hx] at hf K ⊢
    clear eX eS h hx KW KL
    have q1 : (x == 0) = false := beq_eq_false_iff_ne.2 hf
    go_enter Try.func65, Try.ntmps65
    go_wp2_with fail
    refine K.mono ?_
    rintro _ wq ⟨rfl, hwq⟩
    rw [hwq]
    clear hwq wq K
    go_wp2
    go_ret
    exact ⟨rfl, FIN.out⟩
end
end Go.Proofs.Ytpijncnpicgjeaa.Gf

