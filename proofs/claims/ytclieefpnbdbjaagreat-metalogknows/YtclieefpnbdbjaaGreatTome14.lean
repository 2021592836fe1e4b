/- TEXTS JOINED: ArCB, ArCC, ArCL. -/
import Derived.Test.YtclieefpnbdbjaaGreatTome13
import Derived.Test.YtclieefpnbdbjaaGreatTome12
import Derived.Deep.OwnRows
namespace Go.Proofs.YtclieefpnbdbjaaGreat.Gf
set_option linter.unusedVariables false
set_option linter.unusedSimpArgs false
open Go.RowKit
section
variable {w : World} {ab : Nat} {GA : Nat → Prop} {a : ArS}
theorem th_at {a : ArS} {i : Int} (h : thA a i) : ∃ j : Nat, i = (j : Int) ∧ j < a.D.length := ⟨i.toNat, by have := h.1; omega, by have := h.1; have := h.2; omega⟩
theorem wrS_no {d : DkS} {x : Int} {b : List UInt8} (h : ¬ wrX d x b = 0) : wrS d x b = d := by
  unfold wrS
  rw [if_neg]
  rintro ⟨h1, h2⟩
  exact h (by unfold wrX; rw [if_pos h1, if_pos h2])
theorem set_self {α : Type} (l : List α) (j : Nat) (d : α) (h : j < l.length) : l.set j (l.getD j d) = l := by
  rw [show l.getD j d = l[j] by simp [List.getD, h]]
  exact List.set_getElem_self h
theorem setA_same {a : ArS} {j : Nat} (h : j < a.D.length) : ({ a with D := a.D.set j (a.D.getD j default) } : ArS) = a := by rw [set_self _ _ _ h]
theorem stays {a' : ArS} (h : ArAt w ab GA a) (e : a' = a) : ∃ GA', ArAt w ab GA' a' ∧ Grew GA w GA' w := ⟨GA, by rw [e]; exact h, Grew.refl _ _⟩
set_option maxRecDepth 100000 in
theorem awrite_any (h : ArAt w ab GA a) {i ad : Int} (hi : (Lit.int .i64 i).wf = true) (ha : (Lit.int .i64 ad).wf = true) {v : Value} {p : List UInt8} (hp : Rd w v p) :
    Calls Tryz.prog 81 #[.pointer (some ⟨ab, 0, none⟩), .int .i64 i, .int .i64 ad, v] w (LeavesA w ab GA (wrAS a i ad p) (.int .i64 (wrAX a i ad p))) := by
  have h0 := h
  obtain ⟨mb, db, GD, hM, ok⟩ := h
  obtain ⟨va, vc, rfl⟩ := hp.form
  cases ho : a.off with
  | true =>
    have c2 := hM.c2
    rw [ho] at c2
    have K := @apow_off w ab c2 i
    rw [show wrAX a i ad p = 130 from if_pos ho]
    have FIN : Hid (∃ GA', ArAt w ab GA' (wrAS a i ad p) ∧ Grew GA w GA' w) := stays h0 (if_pos ho)
    clear h0 hM ok c2
    go_enter Tryz.func81, Tryz.ntmps81
    go_wp2_with fail
    refine K.mono ?_
    rintro _ wq ⟨rfl, hwq⟩
    rw [hwq]
    clear hwq wq K
    go_wp2
    go_ret
    exact ⟨rfl, FIN.out⟩
  | false =>
    have no : ¬ a.off = true := by rw [ho]; simp
    have c0 := hM.c0
    have c2 := hM.c2
    rw [ho] at c2
    by_cases ht : thA a i
    · have eX : wrAX a i ad p = wrX (diA a i) ad p := by unfold wrAX; rw [if_neg no, if_pos ht]
      have eS : wrAS a i ad p = if wrX (diA a i) ad p = 0 then tickA (setA a i (wrS (diA a i) ad p)) else a := by unfold wrAS; rw [if_neg no, if_pos ht]
      have okS := wrAS_ok ok i ad p
      obtain ⟨j, rfl, hj⟩ := th_at ht
      have KP := @apow_at w ab mb _ c0 c2 j hj
      have KW := dwrite_any (hM.dk j hj) ha hp
      have m0 := hM.m0 j hj
      have eD : diA a (j : Int) = a.D.getD j default := rfl
      rw [eX, eS]
      rw [eS] at okS
      rw [eD] at okS ⊢
      clear eX eS eD
      obtain ⟨d, hd⟩ : ∃ d, d = a.D.getD j default := ⟨_, rfl⟩
      rw [← hd] at KW okS ⊢
      by_cases hx : wrX d ad p = 0
      · rw [hx] at KW ⊢
        rw [if_pos rfl]
        rw [hx, if_pos rfl] at okS
        go_enter Tryz.func81, Tryz.ntmps81
        go_wp2_with fail
        refine KP.mono ?_
        rintro _ wq ⟨rfl, hwq⟩
        rw [hwq]
        clear hwq wq KP
        go_wp2_with fail
        refine KW.mono ?_
        rintro _ w1 ⟨rfl, G1, D1, g1⟩
        obtain ⟨M1, gg1⟩ := hM.disk hj D1 g1
        have KC := acount_any M1
        have FIN : Hid (∀ w2, ArM w2 ab mb db (fun k => if k = j then G1 else GD k) (fun k => GA k ∨ G1 k) (tickA { a with D := a.D.set j (wrS d ad p) }) → TurnG (fun k => GA k ∨ G1 k) w1 w2 → ∃ GA', ArAt w2 ab GA' (tickA (setA a (j : Int) (wrS d ad p))) ∧ Grew GA w GA' w2) := fun w2 M2 t2 =>
          ⟨_, ⟨mb, db, _, M2, okS⟩, gg1.trans (Grew.of_turn t2)⟩
        clear M1 gg1 D1 g1 KW hM ok h0 okS c0 c2 m0 hp hd
        go_wp2_with fail
        refine KC.mono ?_
        rintro _ w2 ⟨rfl, M2, t2⟩
        have F2 : Hid (∃ GA', ArAt w2 ab GA' (tickA (setA a (j : Int) (wrS d ad p))) ∧ Grew GA w GA' w2) := FIN.out w2 M2 t2
        clear M2 t2 FIN KC
        go_wp2
        go_ret
        exact ⟨rfl, F2.out⟩
      · rw [if_neg hx]
        have eQ : wrS d ad p = d := wrS_no hx
        rw [eQ] at KW
        obtain ⟨x, hxx⟩ : ∃ x, x = wrX d ad p := ⟨_, rfl⟩
        rw [← hxx] at KW hx ⊢
        have q1 : (x == 0) = false := beq_eq_false_iff_ne.2 hx
        go_enter Tryz.func81, Tryz.ntmps81
        go_wp2_with fail
        refine KP.mono ?_
        rintro _ wq ⟨rfl, hwq⟩
        rw [hwq]
        clear hwq wq KP
        go_wp2_with fail
        refine KW.mono ?_
        rintro _ w1 ⟨rfl, G1, D1, g1⟩
        obtain ⟨M1, gg1⟩ := hM.disk hj D1 g1
        have F2 : Hid (∃ GA', ArAt w1 ab GA' a ∧ Grew GA w GA' w1) := ⟨_, ⟨mb, db, _, by
          have e2 : ({ a with D := a.D.set j d } : ArS) = a := by rw [hd]; exact setA_same hj
          rw [e2] at M1
          exact M1, ok⟩, gg1⟩
        clear M1 gg1 D1 g1 KW hM ok h0 okS c0 c2 m0 hp hd hxx eQ
        go_wp2
        go_ret
        exact ⟨rfl, F2.out⟩
    · have K := @apow_no w ab mb _ c0 c2 i ht
      rw [show wrAX a i ad p = 1 by unfold wrAX; rw [if_neg no, if_neg ht]]
      have FIN : Hid (∃ GA', ArAt w ab GA' (wrAS a i ad p) ∧ Grew GA w GA' w) := stays h0 (by unfold wrAS; rw [if_neg no, if_neg ht])
      clear h0 hM ok c2 c0
      go_enter Tryz.func81, Tryz.ntmps81
      go_wp2_with fail
      refine K.mono ?_
      rintro _ wq ⟨rfl, hwq⟩
      rw [hwq]
      clear hwq wq K
      go_wp2
      go_ret
      exact ⟨rfl, FIN.out⟩
theorem aread_any (h : ArAt w ab GA a) {i ad : Int} (hi : (Lit.int .i64 i).wf = true) (ha : (Lit.int .i64 ad).wf = true) :
    Calls Tryz.prog 59 #[.pointer (some ⟨ab, 0, none⟩), .int .i64 i, .int .i64 ad] w (Tells w (rdAX a i ad) (rdAB a i ad)) := by
  obtain ⟨mb, db, GD, hM, ok⟩ := h
  cases ho : a.off with
  | true =>
    have c2 := hM.c2
    rw [ho] at c2
    have K := @apow_off w ab c2 i
    rw [show rdAX a i ad = 130 from if_pos ho, show rdAB a i ad = [] from if_pos ho]
    clear hM ok c2
    go_enter Tryz.func59, Tryz.ntmps59
    go_wp2_with fail
    refine K.mono ?_
    rintro _ wq ⟨rfl, hwq⟩
    rw [hwq]
    clear hwq wq K
    go_wp2
    refine bodyPost_ret (v := .tuple #[.slice none 0 0, .int .i64 130]) (by simp [results, Tryz.results59, go_sem]) rfl ?_
    exact ⟨_, rfl, own_none _ _ _, Below.refl _ _⟩
  | false =>
    have no : ¬ a.off = true := by rw [ho]; simp
    have c0 := hM.c0
    have c2 := hM.c2
    rw [ho] at c2
    by_cases ht : thA a i
    · rw [show rdAX a i ad = faX (diA a i) ad by unfold rdAX; rw [if_neg no, if_pos ht], show rdAB a i ad = rdB (diA a i) ad by unfold rdAB; rw [if_neg no, if_pos ht]]
      obtain ⟨j, rfl, hj⟩ := th_at ht
      have KP := @apow_at w ab mb _ c0 c2 j hj
      have KR := dread_any (hM.dk j hj) ha
      have m0 := hM.m0 j hj
      rw [show diA a (j : Int) = a.D.getD j default from rfl]
      obtain ⟨x, hx⟩ : ∃ x, x = faX (a.D.getD j default) ad := ⟨_, rfl⟩
      obtain ⟨r, hr⟩ : ∃ r, r = rdB (a.D.getD j default) ad := ⟨_, rfl⟩
      rw [← hx, ← hr] at KR ⊢
      clear hM ok hx hr ht c0 c2
      go_enter Tryz.func59, Tryz.ntmps59
      go_wp2_with fail
      refine KP.mono ?_
      rintro _ wq ⟨rfl, hwq⟩
      rw [hwq]
      clear hwq wq KP
      go_wp2_with fail
      refine KR.mono ?_
      rintro _ w1 ⟨v, rfl, O1, B1⟩
      go_wp2
      refine bodyPost_ret (v := .tuple #[v, .int .i64 x]) (by simp [results, Tryz.results59, go_sem]) rfl ?_
      exact ⟨_, rfl, O1, B1⟩
    · have K := @apow_no w ab mb _ c0 c2 i ht
      rw [show rdAX a i ad = 1 by unfold rdAX; rw [if_neg no, if_neg ht], show rdAB a i ad = [] by unfold rdAB; rw [if_neg no, if_neg ht]]
      clear hM ok c2 c0
      go_enter Tryz.func59, Tryz.ntmps59
      go_wp2_with fail
      refine K.mono ?_
      rintro _ wq ⟨rfl, hwq⟩
      rw [hwq]
      clear hwq wq K
      go_wp2
      refine bodyPost_ret (v := .tuple #[.slice none 0 0, .int .i64 1]) (by simp [results, Tryz.results59, go_sem]) rfl ?_
      exact ⟨_, rfl, own_none _ _ _, Below.refl _ _⟩
theorem afail_any (h : ArAt w ab GA a) {i : Int} (hi : (Lit.int .i64 i).wf = true) :
    Calls Tryz.prog 16 #[.pointer (some ⟨ab, 0, none⟩), .int .i64 i] w (LeavesA w ab GA (faAS a i) (.int .i64 (thX a i))) := by
  have h0 := h
  obtain ⟨mb, db, GD, hM, ok⟩ := h
  have c0 := hM.c0
  by_cases ht : thA a i
  · have okS := faAS_ok ok i
    have eS : faAS a i = bornA (setA a i (faS (diA a i))) i := if_pos ht
    rw [show thX a i = 0 from if_pos ht]
    rw [eS] at okS ⊢
    obtain ⟨j, rfl, hj⟩ := th_at ht
    have KP := @amem_at w ab mb _ c0 j hj
    have KW := dfail_any (hM.dk j hj)
    have m0 := hM.m0 j hj
    rw [show diA a (j : Int) = a.D.getD j default from rfl] at okS ⊢
    obtain ⟨d, hd⟩ : ∃ d, d = a.D.getD j default := ⟨_, rfl⟩
    rw [← hd] at KW okS ⊢
    go_enter Tryz.func16, Tryz.ntmps16
    go_wp2_with fail
    refine KP.mono ?_
    rintro _ wq ⟨rfl, hwq⟩
    rw [hwq]
    clear hwq wq KP
    go_wp2_with fail
    refine KW.mono ?_
    rintro _ w1 ⟨rfl, G1, D1, g1⟩
    obtain ⟨M1, gg1⟩ := hM.disk hj D1 g1
    have hj1 : j < (a.D.set j (faS d)).length := by simpa using hj
    have m1 : w1.cell? ⟨mb, j * 2 + 1, none⟩ = some (.int .i64 (a.B.getD j 0)) := M1.m1 j hj1
    have fm := M1.fm j hj1
    have M2 := M1.setBorn hj1 (IntKind.i64.wrap (a.B.getD j 0 + 1))
    have FIN : Hid (∃ GA', ArAt (w1.setCell ⟨mb, j * 2 + 1, none⟩ (.int .i64 (IntKind.i64.wrap (a.B.getD j 0 + 1)))) ab GA' (bornA (setA a (j : Int) (faS d)) (j : Int)) ∧ Grew GA w GA' (w1.setCell ⟨mb, j * 2 + 1, none⟩ (.int .i64 (IntKind.i64.wrap (a.B.getD j 0 + 1))))) :=
      ⟨_, ⟨mb, db, _, M2, okS⟩, gg1.trans (Grew.of_turn (setCell_turnG (Or.inl hM.gm)))⟩
    obtain ⟨z, hz⟩ : ∃ z, z = a.B.getD j 0 := ⟨_, rfl⟩
    rw [← hz] at m1 FIN
    obtain ⟨z1, gz⟩ : ∃ z1, IntKind.i64.wrap (z + 1) = z1 := ⟨_, rfl⟩
    rw [gz] at FIN
    clear M1 M2 gg1 D1 g1 KW hM ok h0 okS c0 m0 hd hj1 hz
    go_wp2
    go_ret
    exact ⟨rfl, FIN.out⟩
  · have K := @amem_no w ab mb _ c0 i ht
    rw [show thX a i = 1 from if_neg ht]
    have FIN : Hid (∃ GA', ArAt w ab GA' (faAS a i) ∧ Grew GA w GA' w) := stays h0 (if_neg ht)
    clear h0 hM ok c0
    go_enter Tryz.func16, Tryz.ntmps16
    go_wp2_with fail
    refine K.mono ?_
    rintro _ wq ⟨rfl, hwq⟩
    rw [hwq]
    clear hwq wq K
    go_wp2
    go_ret
    exact ⟨rfl, FIN.out⟩
theorem arepl_any (h : ArAt w ab GA a) {i : Int} (hi : (Lit.int .i64 i).wf = true) :
    Calls Tryz.prog 17 #[.pointer (some ⟨ab, 0, none⟩), .int .i64 i] w (LeavesA w ab GA (rpAS a i) (.int .i64 (thX a i))) := by
  have h0 := h
  obtain ⟨mb, db, GD, hM, ok⟩ := h
  have c0 := hM.c0
  by_cases ht : thA a i
  · have okS := rpAS_ok ok i
    have eS : rpAS a i = bornA (setA a i (reS (diA a i))) i := if_pos ht
    rw [show thX a i = 0 from if_pos ht]
    rw [eS] at okS ⊢
    obtain ⟨j, rfl, hj⟩ := th_at ht
    have KP := @amem_at w ab mb _ c0 j hj
    have KW := drepl_any (hM.dk j hj)
    have m0 := hM.m0 j hj
    rw [show diA a (j : Int) = a.D.getD j default from rfl] at okS ⊢
    obtain ⟨d, hd⟩ : ∃ d, d = a.D.getD j default := ⟨_, rfl⟩
    rw [← hd] at KW okS ⊢
    go_enter Tryz.func17, Tryz.ntmps17
    go_wp2_with fail
    refine KP.mono ?_
    rintro _ wq ⟨rfl, hwq⟩
    rw [hwq]
    clear hwq wq KP
    go_wp2_with fail
    refine KW.mono ?_
    rintro _ w1 ⟨rfl, G1, D1, g1⟩
    obtain ⟨M1, gg1⟩ := hM.disk hj D1 g1
    have hj1 : j < (a.D.set j (reS d)).length := by simpa using hj
    have m1 : w1.cell? ⟨mb, j * 2 + 1, none⟩ = some (.int .i64 (a.B.getD j 0)) := M1.m1 j hj1
    have fm := M1.fm j hj1
    have M2 := M1.setBorn hj1 (IntKind.i64.wrap (a.B.getD j 0 + 1))
    have FIN : Hid (∃ GA', ArAt (w1.setCell ⟨mb, j * 2 + 1, none⟩ (.int .i64 (IntKind.i64.wrap (a.B.getD j 0 + 1)))) ab GA' (bornA (setA a (j : Int) (reS d)) (j : Int)) ∧ Grew GA w GA' (w1.setCell ⟨mb, j * 2 + 1, none⟩ (.int .i64 (IntKind.i64.wrap (a.B.getD j 0 + 1))))) :=
      ⟨_, ⟨mb, db, _, M2, okS⟩, gg1.trans (Grew.of_turn (setCell_turnG (Or.inl hM.gm)))⟩
    obtain ⟨z, hz⟩ : ∃ z, z = a.B.getD j 0 := ⟨_, rfl⟩
    rw [← hz] at m1 FIN
    obtain ⟨z1, gz⟩ : ∃ z1, IntKind.i64.wrap (z + 1) = z1 := ⟨_, rfl⟩
    rw [gz] at FIN
    clear M1 M2 gg1 D1 g1 KW hM ok h0 okS c0 m0 hd hj1 hz
    go_wp2
    go_ret
    exact ⟨rfl, FIN.out⟩
  · have K := @amem_no w ab mb _ c0 i ht
    rw [show thX a i = 1 from if_neg ht]
    have FIN : Hid (∃ GA', ArAt w ab GA' (rpAS a i) ∧ Grew GA w GA' w) := stays h0 (if_neg ht)
    clear h0 hM ok c0
    go_enter Tryz.func17, Tryz.ntmps17
    go_wp2_with fail
    refine K.mono ?_
    rintro _ wq ⟨rfl, hwq⟩
    rw [hwq]
    clear hwq wq K
    go_wp2
    go_ret
    exact ⟨rfl, FIN.out⟩
theorem acorr_any (h : ArAt w ab GA a) {i ad at_ : Int} (hi : (Lit.int .i64 i).wf = true) (ha : (Lit.int .i64 ad).wf = true) (hat : (Lit.int .i64 at_).wf = true) (y : UInt8) :
    Calls Tryz.prog 31 #[.pointer (some ⟨ab, 0, none⟩), .int .i64 i, .int .i64 ad, .int .i64 at_, .int .u8 ((y.toNat : Nat) : Int)] w (LeavesA w ab GA (coAS a i ad at_ y) (.int .i64 (coAX a i ad))) := by
  have h0 := h
  obtain ⟨mb, db, GD, hM, ok⟩ := h
  have c0 := hM.c0
  by_cases ht : thA a i
  · have okS := coAS_ok ok i ad at_ y
    have eS : coAS a i ad at_ y = setA a i (coS (diA a i) ad at_ y) := if_pos ht
    rw [show coAX a i ad = coX (diA a i) ad from if_pos ht]
    rw [eS] at okS ⊢
    obtain ⟨j, rfl, hj⟩ := th_at ht
    have KP := @amem_at w ab mb _ c0 j hj
    have KW := dcorr_any (hM.dk j hj) ha hat y
    have m0 := hM.m0 j hj
    rw [show diA a (j : Int) = a.D.getD j default from rfl] at okS ⊢
    obtain ⟨x, hx⟩ : ∃ x, x = coX (a.D.getD j default) ad := ⟨_, rfl⟩
    rw [← hx] at KW ⊢
    obtain ⟨d, hd⟩ : ∃ d, d = a.D.getD j default := ⟨_, rfl⟩
    rw [← hd] at KW okS ⊢
    clear hx
    go_enter Tryz.func31, Tryz.ntmps31
    go_wp2_with fail
    refine KP.mono ?_
    rintro _ wq ⟨rfl, hwq⟩
    rw [hwq]
    clear hwq wq KP
    go_wp2_with fail
    refine KW.mono ?_
    rintro _ w1 ⟨rfl, G1, D1, g1⟩
    obtain ⟨M1, gg1⟩ := hM.disk hj D1 g1
    have FIN : Hid (∃ GA', ArAt w1 ab GA' (setA a (j : Int) (coS d ad at_ y)) ∧ Grew GA w GA' w1) := ⟨_, ⟨mb, db, _, M1, okS⟩, gg1⟩
    clear M1 gg1 D1 g1 KW hM ok h0 okS c0 m0 hd
    go_wp2
    go_ret
    exact ⟨rfl, FIN.out⟩
  · have K := @amem_no w ab mb _ c0 i ht
    rw [show coAX a i ad = 1 from if_neg ht]
    have FIN : Hid (∃ GA', ArAt w ab GA' (coAS a i ad at_ y) ∧ Grew GA w GA' w) := stays h0 (if_neg ht)
    clear h0 hM ok c0
    go_enter Tryz.func31, Tryz.ntmps31
    go_wp2_with fail
    refine K.mono ?_
    rintro _ wq ⟨rfl, hwq⟩
    rw [hwq]
    clear hwq wq K
    go_wp2
    go_ret
    exact ⟨rfl, FIN.out⟩
end
end Go.Proofs.YtclieefpnbdbjaaGreat.Gf

namespace Go.Proofs.YtclieefpnbdbjaaGreat.Gf
set_option linter.unusedVariables false
set_option linter.unusedSimpArgs false
open Go.RowKit
section
variable {w : World} {ab : Nat} {GA : Nat → Prop} {a : ArS}
theorem aflush_off (h : ArAt w ab GA a) (ho : a.off = true) : Calls Tryz.prog 82 #[.pointer (some ⟨ab, 0, none⟩)] w (LeavesA w ab GA (flAS a) (.int .i64 (flAX a))) := by
  have h0 := h
  obtain ⟨mb, db, GD, hM, ok⟩ := h
  have c2 := hM.c2
  rw [ho] at c2
  have K := aref_any c2
  simp only [if_true] at K
  rw [show flAX a = 130 from if_pos ho]
  have FIN : Hid (∃ GA', ArAt w ab GA' (flAS a) ∧ Grew GA w GA' w) := stays h0 (if_pos ho)
  clear h0 hM ok c2
  go_enter Tryz.func82, Tryz.ntmps82
  go_wp2_with fail
  refine K.mono ?_
  rintro _ wq ⟨rfl, hwq⟩
  rw [hwq]
  clear hwq wq K
  go_wp2
  go_ret
  exact ⟨rfl, FIN.out⟩
/-- the first k disks changed by a function -/
def firstF (f : Nat → DkS → DkS) (L : List DkS) (k : Nat) : List DkS := L.mapIdx fun i d => if i < k then f i d else d
section
variable {f : Nat → DkS → DkS} {L : List DkS} {k : Nat}
theorem firstF_len : (firstF f L k).length = L.length := by simp [firstF]
theorem firstF_zero : firstF f L 0 = L := by
  unfold firstF
  apply List.ext_getElem (by simp)
  intro i h1 h2
  simp
theorem firstF_all : firstF f L L.length = L.mapIdx f := by
  unfold firstF
  apply List.ext_getElem (by simp)
  intro i h1 h2
  have : i < L.length := by simpa using h1
  simp [this]
theorem firstF_at (hk : k < L.length) : (firstF f L k).getD k default = L.getD k default := by simp [firstF, List.getD, hk]
theorem firstF_succ (hk : k < L.length) : (firstF f L k).set k (f k (L.getD k default)) = firstF f L (k + 1) := by
  unfold firstF
  apply List.ext_getElem (by simp)
  intro i h1 h2
  have h3 : i < L.length := by simpa using h1
  simp only [List.getElem_set, List.getElem_mapIdx]
  by_cases e : k = i
  · subst e
    simp [List.getD, h3]
  · rw [if_neg e]
    by_cases e2 : i < k
    · rw [if_pos e2, if_pos (by omega)]
    · rw [if_neg e2, if_neg (by omega)]
end
theorem aflush_on (h : ArAt w ab GA a) (ho : a.off = false) : Calls Tryz.prog 82 #[.pointer (some ⟨ab, 0, none⟩)] w (LeavesA w ab GA (flAS a) (.int .i64 (flAX a))) := by
  have h0 := h
  obtain ⟨mb, db, GD, hM, ok⟩ := h
  have c0 := hM.c0
  have c2 := hM.c2
  rw [ho] at c2
  have K := aref_any c2
  simp only [Bool.false_eq_true, if_false] at K
  have no : ¬ a.off = true := by rw [ho]; simp
  rw [show flAX a = 0 from if_neg no]
  have okS := flAS_ok ok
  have eS : flAS a = { a with D := a.D.mapIdx (fun _ d => flS d) } := by
    unfold flAS
    rw [if_neg no]
    congr 1
    apply List.ext_getElem (by simp)
    intro i h1 h2
    simp
  have START : Hid (∃ GD' GA', ArM w ab mb db GD' GA' { a with D := firstF (fun _ d => flS d) a.D 0 } ∧ Grew GA w GA' w) := ⟨GD, GA, by rw [firstF_zero]; exact hM, Grew.refl _ _⟩
  have FINI : Hid (∀ wr GD' GA', ArM wr ab mb db GD' GA' { a with D := firstF (fun _ d => flS d) a.D a.D.length } → Grew GA w GA' wr → ∃ GA', ArAt wr ab GA' (flAS a) ∧ Grew GA w GA' wr) := fun wr GD' GA' hM' g' => by
    rw [firstF_all] at hM'
    exact ⟨GA', ⟨mb, db, GD', by rw [eS]; exact hM', okS⟩, g'⟩
  clear h0 hM ok c2 eS okS
  go_enter Tryz.func82, Tryz.ntmps82
  go_wp2_with fail
  refine K.mono ?_
  rintro _ wq ⟨rfl, hwq⟩
  rw [hwq]
  clear hwq wq K
  go_wp2
  go_loopw [16] (fun i wr => ∃ k : Nat, k ≤ a.D.length ∧ i = .int .i64 (k : Int) ∧ ∃ GD' GA', ArM wr ab mb db GD' GA' { a with D := firstF (fun _ d => flS d) a.D k } ∧ Grew GA w GA' wr) (fun i _ => a.D.length - (intOf i).toNat)
  case atStart => exact ⟨0, Nat.zero_le _, rfl, START.out⟩
  case round =>
    clear START
    obtain ⟨k, hk, rfl, GD', GA', hM, hg⟩ := hrel
    by_cases hlt : k < a.D.length
    · have hlt' : (k : Int) < (a.D.length : Int) := by omega
      have g1 : IntKind.i64.wrap ((k : Int) + 1) = ((k + 1 : Nat) : Int) := by rw [IntKind.wrap_i64]; have := hM.d2; have e : ({ a with D := firstF (fun _ d => flS d) a.D k } : ArS).D.length = a.D.length := firstF_len; omega
      have hk2 : k < (firstF (fun _ d => flS d) a.D k).length := by rw [firstF_len]; exact hlt
      have m0 := hM.m0 k hk2
      have m1 := hM.m1 k hk2
      have dk : DiskAt wr (db k) (GD' k) ((firstF (fun _ d => flS d) a.D k).getD k default) := hM.dk k hk2
      have hsu : (firstF (fun _ d => flS d) a.D k).set k (flS (a.D.getD k default)) = firstF (fun _ d => flS d) a.D (k + 1) := firstF_succ (f := fun _ d => flS d) hlt
      rw [firstF_at hlt] at dk
      obtain ⟨d, hd⟩ : ∃ d, d = a.D.getD k default := ⟨_, rfl⟩
      rw [← hd] at dk hsu
      obtain ⟨z, hz⟩ : ∃ z, z = (({ a with D := firstF (fun _ d => flS d) a.D k } : ArS).B.getD k 0) := ⟨_, rfl⟩
      rw [← hz] at m1
      have KD := fun o => @ddead_any (wr.alloc o) (db k) d.dead (dk.below (belA wr o)).dead
      cases hdd : d.dead with
      | true =>
        have E2 : Hid (∀ o, ∃ GD' GA', ArM (wr.alloc o) ab mb db GD' GA' { a with D := firstF (fun _ d => flS d) a.D (k + 1) } ∧ Grew GA w GA' (wr.alloc o)) := by
          intro o
          refine ⟨GD', GA', ?_, hg.trans (Grew.of_below (belA wr o))⟩
          rw [← hsu, show flS d = d from if_pos hdd, hd, ← firstF_at (f := fun _ d => flS d) hlt, set_self _ _ _ hk2]
          exact hM.below (belA wr o)
        rw [hdd] at KD
        clear hM hg dk hsu hd hz hk2
        go_wp2_with fail
        refine (KD _).mono ?_
        rintro _ wq ⟨rfl, hwq⟩
        rw [hwq]
        clear hwq wq KD
        go_wp2
        go_roundw
        case rel => exact ⟨k + 1, by omega, by go_num, E2.out _⟩
        case measure => simp [intOf]; omega
      | false =>
        rw [hdd] at KD
        have KF := fun o => dflush_any (dk.below (belA wr o))
        have HM := fun o => hM.below (belA wr o)
        clear hz
        go_wp2_with fail
        refine (KD _).mono ?_
        rintro _ wq ⟨rfl, hwq⟩
        rw [hwq]
        clear hwq wq KD
        go_wp2_with fail
        refine (KF _).mono ?_
        rintro _ w1 ⟨rfl, G1, D1, gr1⟩
        obtain ⟨M1, gg1⟩ := (HM _).disk hk2 D1 gr1
        have E2 : Hid (∃ GD' GA', ArM w1 ab mb db GD' GA' { a with D := firstF (fun _ d => flS d) a.D (k + 1) } ∧ Grew GA w GA' w1) := by
          rw [← hsu]
          exact ⟨_, _, M1, (hg.trans (Grew.of_below (belA wr _))).trans gg1⟩
        clear hM hg dk hsu hd hk2 M1 gg1 D1 gr1 KF HM
        go_wp2
        go_roundw
        case rel => exact ⟨k + 1, by omega, by go_num, E2.out⟩
        case measure => simp [intOf]; omega
    · have hlt' : ¬ (k : Int) < (a.D.length : Int) := by omega
      have hkn : k = a.D.length := by omega
      rw [hkn] at hM
      have E2 : Hid (∃ GA', ArAt wr ab GA' (flAS a) ∧ Grew GA w GA' wr) := FINI.out wr GD' GA' hM hg
      clear hM hg FINI
      go_wp2
      go_ret
      exact ⟨rfl, E2.out⟩
theorem aflush_any (h : ArAt w ab GA a) : Calls Tryz.prog 82 #[.pointer (some ⟨ab, 0, none⟩)] w (LeavesA w ab GA (flAS a) (.int .i64 (flAX a))) := by
  cases ho : a.off with
  | true => exact aflush_off h ho
  | false => exact aflush_on h ho
theorem RdI.turnG {G : Nat → Prop} {w w' : World} {v : Value} {p : List Int} (h : RdI w v p) (ha : ApartG G v) (ho : TurnG G w w') : RdI w' v p := by
  rcases h with h | ⟨b, off, cap, h1, h2, h3, h5, h6⟩
  · exact Or.inl h
  · have hb : ¬ G b := by
      rcases ha _ _ _ h2 with e | e
      · exact absurd (List.length_eq_zero_iff.1 e) h1
      · exact e
    exact Or.inr ⟨b, off, cap, h1, h2, h3, Nat.lt_of_lt_of_le h5 ho.size, fun i hi => (ho.cell (p := ⟨b, off + i, none⟩) h5 hb).trans (h6 i hi)⟩
end
end Go.Proofs.YtclieefpnbdbjaaGreat.Gf

namespace Go.Proofs.YtclieefpnbdbjaaGreat.Gf
set_option linter.unusedVariables false
set_option linter.unusedSimpArgs false
open Go.RowKit
theorem info_bool13 : (Tryz.prog.info? 4).map (fun i => (i.zero, i.size, i.bytes)) = some (some (.bool false), 1, 1) := by kernel_rfl
/-- a row of the call's own -/
def MadeRow (w : World) (t n : Nat) (f : Nat → Value) (e : Ending) (w' : World) : Prop := ∃ g, e = .returned (.slice (some ⟨g, 0, none⟩) n n) ∧ w'.rowIs g t n f ∧ w.heap.size ≤ g ∧ Below w.heap.size w w'
section
variable {w : World} {ab : Nat} {GA : Nat → Prop} {a : ArS}
set_option maxRecDepth 100000 in
theorem alive_any (h : ArAt w ab GA a) : Calls Tryz.prog 46 #[.pointer (some ⟨ab, 0, none⟩)] w (MadeRow w 4 a.D.length (fun i => .bool (!(a.D.getD i default).dead))) := by
  obtain ⟨mb, db, GD, hM, ok⟩ := h
  have c0 := hM.c0
  have d2 := hM.d2
  have mk1 := run_make_row' (P := Tryz.prog) 36 4 (.bool false) 1 Tryz.underlying36 info_bool13 rfl .i64 .i64 a.D.length (by omega) (by omega)
  obtain ⟨u, hu⟩ : ∃ u, u = w.alloc (Obj.cells (madeCells #[Value.bool false] a.D.length) 4) := ⟨_, rfl⟩
  have hub : Below w.heap.size w u := by rw [hu]; exact belA _ _
  have hur : u.rowIs w.heap.size 4 a.D.length (fun _ => .bool false) := by rw [hu]; exact World.rowIs_made _ _ _ _
  have hM1 := hM.below hub
  have c0m := hM1.c0
  have mk2 := mk1 w
  obtain ⟨g, hg⟩ : ∃ g, Hid (g = w.heap.size) := ⟨_, rfl⟩
  rw [← hu, ← hg.out] at mk2
  rw [← hg.out] at hur
  clear mk1 hu
  go_enter Tryz.func46, Tryz.ntmps46
  go_wp2
  have START : Hid (u.rowIs g 4 a.D.length (fun j => if j < 0 then .bool (!(a.D.getD j default).dead) else .bool false) ∧ Below w.heap.size w u) := ⟨hur, hub⟩
  clear hM1 c0m mk2 hub hur ok c0
  go_loopw [19] (fun i wr => ∃ k : Nat, k ≤ a.D.length ∧ i = .int .i64 (k : Int) ∧ wr.rowIs g 4 a.D.length (fun j => if j < k then .bool (!(a.D.getD j default).dead) else .bool false) ∧ Below w.heap.size w wr) (fun i _ => a.D.length - (intOf i).toNat)
  case atStart => exact ⟨0, Nat.zero_le _, rfl, START.out⟩
  case round =>
    clear START
    obtain ⟨k, hk, rfl, hr, hb⟩ := hrel
    by_cases hlt : k < a.D.length
    · have hlt' : (k : Int) < (a.D.length : Int) := by omega
      have g1 : IntKind.i64.wrap ((k : Int) + 1) = ((k + 1 : Nat) : Int) := by rw [IntKind.wrap_i64]; omega
      have hMr := hM.below hb
      have m0 := hMr.m0 k hlt
      have m1 := hMr.m1 k hlt
      have KD := fun o => @ddead_any (wr.alloc o) (db k) (a.D.getD k default).dead ((hMr.dk k hlt).below (belA wr o)).dead
      have R1 : Hid (∀ o, (wr.alloc o).rowIs g 4 a.D.length (fun j => if j < k then .bool (!(a.D.getD j default).dead) else .bool false) ∧ Below w.heap.size w (wr.alloc o)) := fun o => ⟨hr.alloc o, hb.trans ((belA wr o).mono hb.size)⟩
      obtain ⟨z, hz⟩ : ∃ z, z = a.B.getD k 0 := ⟨_, rfl⟩
      rw [← hz] at m1
      obtain ⟨x, hx⟩ : ∃ x, Hid (x = (a.D.getD k default).dead) := ⟨_, rfl⟩
      rw [← hx.out] at KD
      clear hz hMr hr hb
      go_wp2_with fail
      refine (KD _).mono ?_
      rintro _ wq ⟨rfl, hwq⟩
      obtain ⟨R2, B2⟩ := R1.out (Obj.cells #[Value.pointer (some ⟨db k, 0, none⟩), .int .i64 z] 84)
      rw [← hwq] at R2 B2
      have cq := R2.cell hlt
      have fq := R2.frozen k
      have R3 := R2.set k (.bool (!x))
      have E2 : Hid ((wq.setCell ⟨g, k, none⟩ (.bool (!x))).rowIs g 4 a.D.length (fun j => if j < k + 1 then .bool (!(a.D.getD j default).dead) else .bool false) ∧ Below w.heap.size w (wq.setCell ⟨g, k, none⟩ (.bool (!x)))) := by
        refine ⟨R3.congr fun j hj => ?_, B2.setCell (by rw [hg.out]; exact Nat.le_refl _) _⟩
        by_cases e : j = k
        · rw [if_pos e, if_pos (by omega), e, hx.out]
        · rw [if_neg e]
          by_cases e2 : j < k
          · rw [if_pos e2, if_pos (by omega)]
          · rw [if_neg e2, if_neg (by omega)]
      clear KD R1 R2 B2 R3 hwq m0 m1
      cases x <;> simp only [Bool.not_true, Bool.not_false] at E2
      all_goals
        go_wp2
        go_roundw
        case rel => exact ⟨k + 1, by omega, by go_num, E2.out⟩
        case measure => simp [intOf]; omega
    · have hlt' : ¬ (k : Int) < (a.D.length : Int) := by omega
      have hkn : k = a.D.length := by omega
      have FIN : Hid (wr.rowIs g 4 a.D.length (fun j => .bool (!(a.D.getD j default).dead)) ∧ w.heap.size ≤ g ∧ Below w.heap.size w wr) := ⟨hr.congr fun j hj => if_pos (by omega), by rw [hg.out]; exact Nat.le_refl _, hb⟩
      clear hr hb
      go_wp2
      go_ret
      exact ⟨g, rfl, FIN.out⟩
end
end Go.Proofs.YtclieefpnbdbjaaGreat.Gf
