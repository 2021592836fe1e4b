/- TEXTS JOINED: ArCB, ArCL. -/
import Derived.Test.YtgahaebfgmbckaaTome13
import Derived.Test.YtgahaebfgmbckaaTome11
import Derived.Deep.OwnRows
namespace Go.Proofs.Ytgahaebfgmbckaa.Gf
set_option linter.unusedVariables false
set_option linter.unusedSimpArgs false
open Go.RowKit
section
variable {w : World} {ab : Nat} {GA : Nat → Prop} {a : ArS}
theorem th_at {a : ArS} {i : Int} (h : thA a i) : ∃ j : Nat, i = (j : Int) ∧ j < a.D.length := ⟨i.toNat, by have := h.1; omega, by have := h.1; have := h.2; omega⟩
theorem wrS_no {d : DkS} {x : Int} {b : List UInt8} (h : ¬ wrX d x b = 0) : wrS d x b = d := by
  unfold wrS
  rw [if_neg]
  rintro ⟨h1, h2⟩
  exact h (by unfold wrX; rw [if_pos h1, if_pos h2])
theorem set_self {α : Type} (l : List α) (j : Nat) (d : α) (h : j < l.length) : l.set j (l.getD j d) = l := by
  rw [show l.getD j d = l[j] by simp [List.getD, h]]
  exact List.set_getElem_self h
theorem setA_same {a : ArS} {j : Nat} (h : j < a.D.length) : ({ a with D := a.D.set j (a.D.getD j default) } : ArS) = a := by rw [set_self _ _ _ h]
theorem stays {a' : ArS} (h : ArAt w ab GA a) (e : a' = a) : ∃ GA', ArAt w ab GA' a' ∧ Grew GA w GA' w := ⟨GA, by rw [e]; exact h, Grew.refl _ _⟩
set_option maxRecDepth 100000 in
theorem awrite_any (h : ArAt w ab GA a) {i ad : Int} (hi : (Lit.int .i64 i).wf = true) (ha : (Lit.int .i64 ad).wf = true) {v : Value} {p : List UInt8} (hp : Rd w v p) :
    Calls Try.prog 36 #[.pointer (some ⟨ab, 0, none⟩), .int .i64 i, .int .i64 ad, v] w (LeavesA w ab GA (wrAS a i ad p) (.int .i64 (wrAX a i ad p))) := by
  have h0 := h
  obtain ⟨mb, db, GD, hM, ok⟩ := h
  obtain ⟨va, vc, rfl⟩ := hp.form
  cases ho : a.off with
  | true =>
    have c2 := hM.c2
    rw [ho] at c2
    have K := @apow_off w ab c2 i
    rw [show wrAX a i ad p = 130 from if_pos ho]
    have FIN : Hid (∃ GA', ArAt w ab GA' (wrAS a i ad p) ∧ Grew GA w GA' w) := stays h0 (if_pos ho)
    clear h0 hM ok c2
    go_enter Try.func36, Try.ntmps36
    go_wp2_with fail
    refine K.mono ?_
    rintro _ wq ⟨rfl, hwq⟩
    rw [hwq]
    clear hwq wq K
    go_wp2
    go_ret
    exact ⟨rfl, FIN.out⟩
  | false =>
    have no : ¬ a.off = true := by rw [ho]; simp
    have c0 := hM.c0
    have c2 := hM.c2
    rw [ho] at c2
    by_cases ht : thA a i
    · have eX : wrAX a i ad p = wrX (diA a i) ad p := by unfold wrAX; rw [if_neg no, if_pos ht]
      have eS : wrAS a i ad p = if wrX (diA a i) ad p = 0 then tickA (setA a i (wrS (diA a i) ad p)) else a := by unfold wrAS; rw [if_neg no, if_pos ht]
      have okS := wrAS_ok ok i ad p
      obtain ⟨j, rfl, hj⟩ := th_at ht
      have KP := @apow_at w ab mb _ c0 c2 j hj
      have KW := dwrite_any (hM.dk j hj) ha hp
      have m0 := hM.m0 j hj
      have eD : diA a (j : Int) = a.D.getD j default := rfl
      rw [eX, eS]
      rw [eS] at okS
      rw [eD] at okS ⊢
      clear eX eS eD
      obtain ⟨d, hd⟩ : ∃ d, d = a.D.getD j default := ⟨_, rfl⟩
      rw [← hd] at KW okS ⊢
      by_cases hx : wrX d ad p = 0
      · rw [hx] at KW ⊢
        rw [if_pos rfl]
        rw [hx, if_pos rfl] at okS
        go_enter Try.func36, Try.ntmps36
        go_wp2_with fail
        refine KP.mono ?_
        rintro _ wq ⟨rfl, hwq⟩
        rw [hwq]
        clear hwq wq KP
        go_wp2_with fail
        refine KW.mono ?_
        rintro _ w1 ⟨rfl, G1, D1, g1⟩
        obtain ⟨M1, gg1⟩ := hM.disk hj D1 g1
        have KC := acount_any M1
        have FIN : Hid (∀ w2, ArM w2 ab mb db (fun k => if k = j then G1 else GD k) (fun k => GA k ∨ G1 k) (tickA { a with D := a.D.set j (wrS d ad p) }) → TurnG (fun k => GA k ∨ G1 k) w1 w2 → ∃ GA', ArAt w2 ab GA' (tickA (setA a (j : Int) (wrS d ad p))) ∧ Grew GA w GA' w2) := fun w2 M2 t2 =>
          ⟨_, ⟨mb, db, _, M2, okS⟩, gg1.trans (Grew.of_turn t2)⟩
        clear M1 gg1 D1 g1 KW hM ok h0 okS c0 c2 m0 hp hd
        go_wp2_with fail
        refine KC.mono ?_
        rintro _ w2 ⟨rfl, M2, t2⟩
        have F2 : Hid (∃ GA', ArAt w2 ab GA' (tickA (setA a (j : Int) (wrS d ad p))) ∧ Grew GA w GA' w2) := FIN.out w2 M2 t2
        clear M2 t2 FIN KC
        go_wp2
        go_ret
        exact ⟨rfl, F2.out⟩
      · rw [if_neg hx]
        have eQ : wrS d ad p = d := wrS_no hx
        rw [eQ] at KW
        obtain ⟨x, hxx⟩ : ∃ x, x = wrX d ad p := ⟨_, rfl⟩
        rw [← hxx] at KW hx ⊢
        have q1 : (x == 0) = false := beq_eq_false_iff_ne.2 hx
        go_enter Try.func36, Try.ntmps36
        go_wp2_with fail
        refine KP.mono ?_
        rintro _ wq ⟨rfl, hwq⟩
        rw [hwq]
        clear hwq wq KP
        go_wp2_with fail
        refine KW.mono ?_
        rintro _ w1 ⟨rfl, G1, D1, g1⟩
        obtain ⟨M1, gg1⟩ := hM.disk hj D1 g1
        have F2 : Hid (∃ GA', ArAt w1 ab GA' a ∧ Grew GA w GA' w1) := ⟨_, ⟨mb, db, _, by
          have e2 : ({ a with D := a.D.set j d } : ArS) = a := by rw [hd]; exact setA_same hj
          rw [e2] at M1
          exact M1, ok⟩, gg1⟩
        clear M1 gg1 D1 g1 KW hM ok h0 okS c0 c2 m0 hp hd hxx eQ
        go_wp2
        go_ret
        exact ⟨rfl, F2.out⟩
    · have K := @apow_no w ab mb _ c0 c2 i ht
      rw [show wrAX a i ad p = 1 by unfold wrAX; rw [if_neg no, if_neg ht]]
      have FIN : Hid (∃ GA', ArAt w ab GA' (wrAS a i ad p) ∧ Grew GA w GA' w) := stays h0 (by unfold wrAS; rw [if_neg no, if_neg ht])
      clear h0 hM ok c2 c0
      go_enter Try.func36, Try.ntmps36
      go_wp2_with fail
      refine K.mono ?_
      rintro _ wq ⟨rfl, hwq⟩
      rw [hwq]
      clear hwq wq K
      go_wp2
      go_ret
      exact ⟨rfl, FIN.out⟩
theorem aread_any (h : ArAt w ab GA a) {i ad : Int} (hi : (Lit.int .i64 i).wf = true) (ha : (Lit.int .i64 ad).wf = true) :
    Calls Try.prog 19 #[.pointer (some ⟨ab, 0, none⟩), .int .i64 i, .int .i64 ad] w (Tells w (rdAX a i ad) (rdAB a i ad)) := by
  obtain ⟨mb, db, GD, hM, ok⟩ := h
  cases ho : a.off with
  | true =>
    have c2 := hM.c2
    rw [ho] at c2
    have K := @apow_off w ab c2 i
    rw [show rdAX a i ad = 130 from if_pos ho, show rdAB a i ad = [] from if_pos ho]
    clear hM ok c2
    go_enter Try.func19, Try.ntmps19
    go_wp2_with fail
    refine K.mono ?_
    rintro _ wq ⟨rfl, hwq⟩
    rw [hwq]
    clear hwq wq K
    go_wp2
    refine bodyPost_ret (v := .tuple #[.slice none 0 0, .int .i64 130]) (by simp [results, Try.results19, go_sem]) rfl ?_
    exact ⟨_, rfl, own_none _ _ _, Below.refl _ _⟩
  | false =>
    have no : ¬ a.off = true := by rw [ho]; simp
    have c0 := hM.c0
    have c2 := hM.c2
    rw [ho] at c2
    by_cases ht : thA a i
    · rw [show rdAX a i ad = faX (diA a i) ad by unfold rdAX; rw [if_neg no, if_pos ht], show rdAB a i ad = rdB (diA a i) ad by unfold rdAB; rw [if_neg no, if_pos ht]]
      obtain ⟨j, rfl, hj⟩ := th_at ht
      have KP := @apow_at w ab mb _ c0 c2 j hj
      have KR := dread_any (hM.dk j hj) ha
      have m0 := hM.m0 j hj
      rw [show diA a (j : Int) = a.D.getD j default from rfl]
      obtain ⟨x, hx⟩ : ∃ x, x = faX (a.D.getD j default) ad := ⟨_, rfl⟩
      obtain ⟨r, hr⟩ : ∃ r, r = rdB (a.D.getD j default) ad := ⟨_, rfl⟩
      rw [← hx, ← hr] at KR ⊢
      clear hM ok hx hr ht c0 c2
      go_enter Try.func19, Try.ntmps19
      go_wp2_with fail
      refine KP.mono ?_
      rintro _ wq ⟨rfl, hwq⟩
      rw [hwq]
      clear hwq wq KP
      go_wp2_with fail
      refine KR.mono ?_
      rintro _ w1 ⟨v, rfl, O1, B1⟩
      go_wp2
      refine bodyPost_ret (v := .tuple #[v, .int .i64 x]) (by simp [results, Try.results19, go_sem]) rfl ?_
      exact ⟨_, rfl, O1, B1⟩
    · have K := @apow_no w ab mb _ c0 c2 i ht
      rw [show rdAX a i ad = 1 by unfold rdAX; rw [if_neg no, if_neg ht], show rdAB a i ad = [] by unfold rdAB; rw [if_neg no, if_neg ht]]
      clear hM ok c2 c0
      go_enter Try.func19, Try.ntmps19
      go_wp2_with fail
      refine K.mono ?_
      rintro _ wq ⟨rfl, hwq⟩
      rw [hwq]
      clear hwq wq K
      go_wp2
      refine bodyPost_ret (v := .tuple #[.slice none 0 0, .int .i64 1]) (by simp [results, Try.results19, go_sem]) rfl ?_
      exact ⟨_, rfl, own_none _ _ _, Below.refl _ _⟩
theorem afail_any (h : ArAt w ab GA a) {i : Int} (hi : (Lit.int .i64 i).wf = true) :
    Calls Try.prog 39 #[.pointer (some ⟨ab, 0, none⟩), .int .i64 i] w (LeavesA w ab GA (faAS a i) (.int .i64 (thX a i))) := by
  have h0 := h
  obtain ⟨mb, db, GD, hM, ok⟩ := h
  have c0 := hM.c0
  by_cases ht : thA a i
  · have okS := faAS_ok ok i
    have eS : faAS a i = bornA (setA a i (faS (diA a i))) i := if_pos ht
    rw [show thX a i = 0 from if_pos ht]
    rw [eS] at okS ⊢
    obtain ⟨j, rfl, hj⟩ := th_at ht
    have KP := @amem_at w ab mb _ c0 j hj
    have KW := dfail_any (hM.dk j hj)
    have m0 := hM.m0 j hj
    rw [show diA a (j : Int) = a.D.getD j default from rfl] at okS ⊢
    obtain ⟨d, hd⟩ : ∃ d, d = a.D.getD j default := ⟨_, rfl⟩
    rw [← hd] at KW okS ⊢
    go_enter Try.func39, Try.ntmps39
    go_wp2_with fail
    refine KP.mono ?_
    rintro _ wq ⟨rfl, hwq⟩
    rw [hwq]
    clear hwq wq KP
    go_wp2_with fail
    refine KW.mono ?_
    rintro _ w1 ⟨rfl, G1, D1, g1⟩
    obtain ⟨M1, gg1⟩ := hM.disk hj D1 g1
    have hj1 : j < (a.D.set j (faS d)).length := by simpa using hj
    have m1 : w1.cell? ⟨mb, j * 2 + 1, none⟩ = some (.int .i64 (a.B.getD j 0)) := M1.m1 j hj1
    have fm := M1.fm j hj1
    have M2 := M1.setBorn hj1 (IntKind.i64.wrap (a.B.getD j 0 + 1))
    have FIN : Hid (∃ GA', ArAt (w1.setCell ⟨mb, j * 2 + 1, none⟩ (.int .i64 (IntKind.i64.wrap (a.B.getD j 0 + 1)))) ab GA' (bornA (setA a (j : Int) (faS d)) (j : Int)) ∧ Grew GA w GA' (w1.setCell ⟨mb, j * 2 + 1, none⟩ (.int .i64 (IntKind.i64.wrap (a.B.getD j 0 + 1))))) :=
      ⟨_, ⟨mb, db, _, M2, okS⟩, gg1.trans (Grew.of_turn (setCell_turnG (Or.inl hM.gm)))⟩
    obtain ⟨z, hz⟩ : ∃ z, z = a.B.getD j 0 := ⟨_, rfl⟩
    rw [← hz] at m1 FIN
    obtain ⟨z1, gz⟩ : ∃ z1, IntKind.i64.wrap (z + 1) = z1 := ⟨_, rfl⟩
    rw [gz] at FIN
    clear M1 M2 gg1 D1 g1 KW hM ok h0 okS c0 m0 hd hj1 hz
    go_wp2
    go_ret
    exact ⟨rfl, FIN.out⟩
  · have K := @amem_no w ab mb _ c0 i ht
    rw [show thX a i = 1 from if_neg ht]
    have FIN : Hid (∃ GA', ArAt w ab GA' (faAS a i) ∧ Grew GA w GA' w) := stays h0 (if_neg ht)
    clear h0 hM ok c0
    go_enter Try.func39, Try.ntmps39
    go_wp2_with fail
    refine K.mono ?_
    rintro _ wq ⟨rfl, hwq⟩
    rw [hwq]
    clear hwq wq K
    go_wp2
    go_ret
    exact ⟨rfl, FIN.out⟩
theorem arepl_any (h : ArAt w ab GA a) {i : Int} (hi : (Lit.int .i64 i).wf = true) :
    Calls Try.prog 12 #[.pointer (some ⟨ab, 0, none⟩), .int .i64 i] w (LeavesA w ab GA (rpAS a i) (.int .i64 (thX a i))) := by
  have h0 := h
  obtain ⟨mb, db, GD, hM, ok⟩ := h
  have c0 := hM.c0
  by_cases ht : thA a i
  · have okS := rpAS_ok ok i
    have eS : rpAS a i = bornA (setA a i (reS (diA a i))) i := if_pos ht
    rw [show thX a i = 0 from if_pos ht]
    rw [eS] at okS ⊢
    obtain ⟨j, rfl, hj⟩ := th_at ht
    have KP := @amem_at w ab mb _ c0 j hj
    have KW := drepl_any (hM.dk j hj)
    have m0 := hM.m0 j hj
    rw [show diA a (j : Int) = a.D.getD j default from rfl] at okS ⊢
    obtain ⟨d, hd⟩ : ∃ d, d = a.D.getD j default := ⟨_, rfl⟩
    rw [← hd] at KW okS ⊢
    go_enter Try.func12, Try.ntmps12
    go_wp2_with fail
    refine KP.mono ?_
    rintro _ wq ⟨rfl, hwq⟩
    rw [hwq]
    clear hwq wq KP
    go_wp2_with fail
    refine KW.mono ?_
    rintro _ w1 ⟨rfl, G1, D1, g1⟩
    obtain ⟨M1, gg1⟩ := hM.disk hj D1 g1
    have hj1 : j < (a.D.set j (reS d)).length := by simpa using hj
    have m1 : w1.cell? ⟨mb, j * 2 + 1, none⟩ = some (.int .i64 (a.B.getD j 0)) := M1.m1 j hj1
    have fm := M1.fm j hj1
    have M2 := M1.setBorn hj1 (IntKind.i64.wrap (a.B.getD j 0 + 1))
    have FIN : Hid (∃ GA', ArAt (w1.setCell ⟨mb, j * 2 + 1, none⟩ (.int .i64 (IntKind.i64.wrap (a.B.getD j 0 + 1)))) ab GA' (bornA (setA a (j : Int) (reS d)) (j : Int)) ∧ Grew GA w GA' (w1.setCell ⟨mb, j * 2 + 1, none⟩ (.int .i64 (IntKind.i64.wrap (a.B.getD j 0 + 1))))) :=
      ⟨_, ⟨mb, db, _, M2, okS⟩, gg1.trans (Grew.of_turn (setCell_turnG (Or.inl hM.gm)))⟩
    obtain ⟨z, hz⟩ : ∃ z, z = a.B.getD j 0 := ⟨_, rfl⟩
    rw [← hz] at m1 FIN
    obtain ⟨z1, gz⟩ : ∃ z1, IntKind.i64.wrap (z + 1) = z1 := ⟨_, rfl⟩
    rw [gz] at FIN
    clear M1 M2 gg1 D1 g1 KW hM ok h0 okS c0 m0 hd hj1 hz
    go_wp2
    go_ret
    exact ⟨rfl, FIN.out⟩
  · have K := @amem_no w ab mb _ c0 i ht
    rw [show thX a i = 1 from if_neg ht]
    have FIN : Hid (∃ GA', ArAt w ab GA' (rpAS a i) ∧ Grew GA w GA' w) := stays h0 (if_neg ht)
    clear h0 hM ok c0
    go_enter Try.func12, Try.ntmps12
    go_wp2_with fail
    refine K.mono ?_
    rintro _ wq ⟨rfl, hwq⟩
    rw [hwq]
    clear hwq wq K
    go_wp2
    go_ret
    exact ⟨rfl, FIN.out⟩
theorem acorr_any (h : ArAt w ab GA a) {i ad at_ : Int} (hi : (Lit.int .i64 i).wf = true) (ha : (Lit.int .i64 ad).wf = true) (hat : (Lit.int .i64 at_).wf = true) (y : UInt8) :
    Calls Try.prog 13 #[.pointer (some ⟨ab, 0, none⟩), .int .i64 i, .int .i64 ad, .int .i64 at_, .int .u8 ((y.toNat : Nat) : Int)] w (LeavesA w ab GA (coAS a i ad at_ y) (.int .i64 (coAX a i ad))) := by
  have h0 := h
  obtain ⟨mb, db, GD, hM, ok⟩ := h
  have c0 := hM.c0
  by_cases ht : thA a i
  · have okS := coAS_ok ok i ad at_ y
    have eS : coAS a i ad at_ y = setA a i (coS (diA a i) ad at_ y) := if_pos ht
    rw [show coAX a i ad = coX (diA a i) ad from if_pos ht]
    rw [eS] at okS ⊢
    obtain ⟨j, rfl, hj⟩ := th_at ht
    have KP := @amem_at w ab mb _ c0 j hj
    have KW := dcorr_any (hM.dk j hj) ha hat y
    have m0 := hM.m0 j hj
    rw [show diA a (j : Int) = a.D.getD j default from rfl] at okS ⊢
    obtain ⟨x, hx⟩ : ∃ x, x = coX (a.D.getD j default) ad := ⟨_, rfl⟩
    rw [← hx] at KW ⊢
    obtain ⟨d, hd⟩ : ∃ d, d = a.D.getD j default := ⟨_, rfl⟩
    rw [← hd] at KW okS ⊢
    clear hx
    go_enter Try.func13, Try.ntmps13
    go_wp2_with fail
    refine KP.mono ?_
    rintro _ wq ⟨rfl, hwq⟩
    rw [hwq]
    clear hwq wq KP
    go_wp2_with fail
    refine KW.mono ?_
    rintro _ w1 ⟨rfl, G1, D1, g1⟩
    obtain ⟨M1, gg1⟩ := hM.disk hj D1 g1
    have FIN : Hid (∃ GA', ArAt w1 ab GA' (setA a (j : Int) (coS d ad at_ y)) ∧ Grew GA w GA' w1) := ⟨_, ⟨mb, db, _, M1, okS⟩, gg1⟩
    clear M1 gg1 D1 g1 KW hM ok h0 okS c0 m0 hd
    go_wp2
    go_ret
    exact ⟨rfl, FIN.out⟩
  · have K := @amem_no w ab mb _ c0 i ht
    rw [show coAX a i ad = 1 from if_neg ht]
    have FIN : Hid (∃ GA', ArAt w ab GA' (coAS a i ad at_ y) ∧ Grew GA w GA' w) := stays h0 (if_neg ht)
    clear h0 hM ok c0
    go_enter Try.func13, Try.ntmps13
    go_wp2_with fail
    refine K.mono ?_
    rintro _ wq ⟨rfl, hwq⟩
    rw [hwq]
    clear hwq wq K
    go_wp2
    go_ret
    exact ⟨rfl, FIN.out⟩
end
end Go.Proofs.Ytgahaebfgmbckaa.Gf

namespace Go.Proofs.Ytgahaebfgmbckaa.Gf
set_option linter.unusedVariables false
set_option linter.unusedSimpArgs false
open Go.RowKit
theorem info_bool13 : (Try.prog.info? 4).map (fun i => (i.zero, i.size, i.bytes)) = some (some (.bool false), 1, 1) := by kernel_rfl
/-- a row of the call's own -/
def MadeRow (w : World) (t n : Nat) (f : Nat → Value) (e : Ending) (w' : World) : Prop := ∃ g, e = .returned (.slice (some ⟨g, 0, none⟩) n n) ∧ w'.rowIs g t n f ∧ w.heap.size ≤ g ∧ Below w.heap.size w w'
section
variable {w : World} {ab : Nat} {GA : Nat → Prop} {a : ArS}
set_option maxRecDepth 100000 in
theorem alive_any (h : ArAt w ab GA a) : Calls Try.prog 23 #[.pointer (some ⟨ab, 0, none⟩)] w (MadeRow w 4 a.D.length (fun i => .bool (!(a.D.getD i default).dead))) := by
  obtain ⟨mb, db, GD, hM, ok⟩ := h
  have c0 := hM.c0
  have d2 := hM.d2
  have mk1 := run_make_row' (P := Try.prog) 40 4 (.bool false) 1 Try.underlying40 info_bool13 rfl .i64 .i64 a.D.length (by omega) (by omega)
  obtain ⟨u, hu⟩ : ∃ u, u = w.alloc (Obj.cells (madeCells #[Value.bool false] a.D.length) 4) := ⟨_, rfl⟩
  have hub : Below w.heap.size w u := by rw [hu]; exact belA _ _
  have hur : u.rowIs w.heap.size 4 a.D.length (fun _ => .bool false) := by rw [hu]; exact World.rowIs_made _ _ _ _
  have hM1 := hM.below hub
  have c0m := hM1.c0
  have mk2 := mk1 w
  obtain ⟨g, hg⟩ : ∃ g, Hid (g = w.heap.size) := ⟨_, rfl⟩
  rw [← hu, ← hg.out] at mk2
  rw [← hg.out] at hur
  clear mk1 hu
  go_enter Try.func23, Try.ntmps23
  go_wp2
  have START : Hid (u.rowIs g 4 a.D.length (fun j => if j < 0 then .bool (!(a.D.getD j default).dead) else .bool false) ∧ Below w.heap.size w u) := ⟨hur, hub⟩
  clear hM1 c0m mk2 hub hur ok c0
  go_loopw [19] (fun i wr => ∃ k : Nat, k ≤ a.D.length ∧ i = .int .i64 (k : Int) ∧ wr.rowIs g 4 a.D.length (fun j => if j < k then .bool (!(a.D.getD j default).dead) else .bool false) ∧ Below w.heap.size w wr) (fun i _ => a.D.length - (intOf i).toNat)
  case atStart => exact ⟨0, Nat.zero_le _, rfl, START.out⟩
  case round =>
    clear START
    obtain ⟨k, hk, rfl, hr, hb⟩ := hrel
    by_cases hlt : k < a.D.length
    · have hlt' : (k : Int) < (a.D.length : Int) := by omega
      have g1 : IntKind.i64.wrap ((k : Int) + 1) = ((k + 1 : Nat) : Int) := by rw [IntKind.wrap_i64]; omega
      have hMr := hM.below hb
      have m0 := hMr.m0 k hlt
      have m1 := hMr.m1 k hlt
      have KD := fun o => @ddead_any (wr.alloc o) (db k) (a.D.getD k default).dead ((hMr.dk k hlt).below (belA wr o)).dead
      have R1 : Hid (∀ o, (wr.alloc o).rowIs g 4 a.D.length (fun j => if j < k then .bool (!(a.D.getD j default).dead) else .bool false) ∧ Below w.heap.size w (wr.alloc o)) := fun o => ⟨hr.alloc o, hb.trans ((belA wr o).mono hb.size)⟩
      obtain ⟨z, hz⟩ : ∃ z, z = a.B.getD k 0 := ⟨_, rfl⟩
      rw [← hz] at m1
      obtain ⟨x, hx⟩ : ∃ x, Hid (x = (a.D.getD k default).dead) := ⟨_, rfl⟩
      rw [← hx.out] at KD
      clear hz hMr hr hb
      go_wp2_with fail
      refine (KD _).mono ?_
      rintro _ wq ⟨rfl, hwq⟩
      obtain ⟨R2, B2⟩ := R1.out (Obj.cells #[Value.pointer (some ⟨db k, 0, none⟩), .int .i64 z] 67)
      rw [← hwq] at R2 B2
      have cq := R2.cell hlt
      have fq := R2.frozen k
      have R3 := R2.set k (.bool (!x))
      have E2 : Hid ((wq.setCell ⟨g, k, none⟩ (.bool (!x))).rowIs g 4 a.D.length (fun j => if j < k + 1 then .bool (!(a.D.getD j default).dead) else .bool false) ∧ Below w.heap.size w (wq.setCell ⟨g, k, none⟩ (.bool (!x)))) := by
        refine ⟨R3.congr fun j hj => ?_, B2.setCell (by rw [hg.out]; exact Nat.le_refl _) _⟩
        by_cases e : j = k
        · rw [if_pos e, if_pos (by omega), e, hx.out]
        · rw [if_neg e]
          by_cases e2 : j < k
          · rw [if_pos e2, if_pos (by omega)]
          · rw [if_neg e2, if_neg (by omega)]
      clear KD R1 R2 B2 R3 hwq m0 m1
      cases x <;> simp only [Bool.not_true, Bool.not_false] at E2
      all_goals
        go_wp2
        go_roundw
        case rel => exact ⟨k + 1, by omega, by go_num, E2.out⟩
        case measure => simp [intOf]; omega
    · have hlt' : ¬ (k : Int) < (a.D.length : Int) := by omega
      have hkn : k = a.D.length := by omega
      have FIN : Hid (wr.rowIs g 4 a.D.length (fun j => .bool (!(a.D.getD j default).dead)) ∧ w.heap.size ≤ g ∧ Below w.heap.size w wr) := ⟨hr.congr fun j hj => if_pos (by omega), by rw [hg.out]; exact Nat.le_refl _, hb⟩
      clear hr hb
      go_wp2
      go_ret
      exact ⟨g, rfl, FIN.out⟩
end
end Go.Proofs.Ytgahaebfgmbckaa.Gf
