/- TEXTS JOINED: ArCB, ArCD, ArNew. -/
import Derived.Test.YtddnfhfangfgeaaGreatChecked
import GoSem.Claim
import GoSem.ClaimJoined
import GoSem.ClaimMapViews
import Derived.JoinedTies
import Derived.KernelRfl
import Derived.WalkKit
import Derived.Deep.QuietTactic
import Derived.BigQuiet
import Derived.WalkLawsBesides
import Derived.WalkSpells
import Derived.OpenShut
import Derived.Deep.Slices
import Derived.Lib.SmallJoins
import Derived.Laws.CopyOwn
import Derived.Deep.AppendLies
import Derived.Maps.OwnSet
import Derived.Maps.Ext
import Derived.Laws.AppendOwnNone
import Derived.Lib.SliceRun
import Derived.Deep.RegionHeld3
import Derived.Maps.RangeWalk
import Derived.Shelf.SlIterI.Nil
import Derived.Shelf.SortM.Plain
import Derived.Shelf.SortM.SortNone
import Derived.Ground.GgzProg
import Derived.Ground.SlgmProg
import Derived.Test.YtddnfhfangfgeaaGreatRows
import Derived.Test.YtddnfhfangfgeaaGreatTome2
import Derived.Test.YtddnfhfangfgeaaGreatTome31
import Derived.Test.YtddnfhfangfgeaaGreatTome34
import Derived.Test.YtddnfhfangfgeaaGreatTome32
import Derived.Test.YtddnfhfangfgeaaGreatTome33
import Derived.Deep.OwnRows
namespace Go.Proofs.YtddnfhfangfgeaaGreat.Gf
set_option linter.unusedVariables false
set_option linter.unusedSimpArgs false
open Go.RowKit
section
variable {w : World} {ab : Nat} {GA : Nat → Prop} {a : ArS}
theorem th_at {a : ArS} {i : Int} (h : thA a i) : ∃ j : Nat, i = (j : Int) ∧ j < a.D.length := ⟨i.toNat, by have := h.1; omega, by have := h.1; have := h.2; omega⟩
theorem wrS_no {d : DkS} {x : Int} {b : List UInt8} (h : ¬ wrX d x b = 0) : wrS d x b = d := by
  unfold wrS
  rw [if_neg]
  rintro ⟨h1, h2⟩
  exact h (by unfold wrX; rw [if_pos h1, if_pos h2])
theorem set_self {α : Type} (l : List α) (j : Nat) (d : α) (h : j < l.length) : l.set j (l.getD j d) = l := by
  rw [show l.getD j d = l[j] by simp [List.getD, h]]
  exact List.set_getElem_self h
theorem setA_same {a : ArS} {j : Nat} (h : j < a.D.length) : ({ a with D := a.D.set j (a.D.getD j default) } : ArS) = a := by rw [set_self _ _ _ h]
theorem stays {a' : ArS} (h : ArAt w ab GA a) (e : a' = a) : ∃ GA', ArAt w ab GA' a' ∧ Grew GA w GA' w := ⟨GA, by rw [e]; exact h, Grew.refl _ _⟩
set_option maxRecDepth 100000 in
theorem awrite_any (h : ArAt w ab GA a) {i ad : Int} (hi : (Lit.int .i64 i).wf = true) (ha : (Lit.int .i64 ad).wf = true) {v : Value} {p : List UInt8} (hp : Rd w v p) :
    Calls Tryz.prog 70 #[.pointer (some ⟨ab, 0, none⟩), .int .i64 i, .int .i64 ad, v] w (LeavesA w ab GA (wrAS a i ad p) (.int .i64 (wrAX a i ad p))) := by
  have h0 := h
  obtain ⟨mb, db, GD, hM, ok⟩ := h
  obtain ⟨va, vc, rfl⟩ := hp.form
  cases ho : a.off with
  | true =>
    have c2 := hM.c2
    rw [ho] at c2
    have K := @apow_off w ab c2 i
    rw [show wrAX a i ad p = 130 from if_pos ho]
    have FIN : Hid (∃ GA', ArAt w ab GA' (wrAS a i ad p) ∧ Grew GA w GA' w) := stays h0 (if_pos ho)
    clear h0 hM ok c2
    go_enter Tryz.func70, Tryz.ntmps70
    go_wp2_with fail
    refine K.mono ?_
    rintro _ wq ⟨rfl, hwq⟩
    rw [hwq]
    clear hwq wq K
    go_wp2
    go_ret
    exact ⟨rfl, FIN.out⟩
  | false =>
    have no : ¬ a.off = true := by rw [ho]; simp
    have c0 := hM.c0
    have c2 := hM.c2
    rw [ho] at c2
    by_cases ht : thA a i
    · have eX : wrAX a i ad p = wrX (diA a i) ad p := by unfold wrAX; rw [if_neg no, if_pos ht]
      have eS : wrAS a i ad p = if wrX (diA a i) ad p = 0 then tickA (setA a i (wrS (diA a i) ad p)) else a := by unfold wrAS; rw [if_neg no, if_pos ht]
      have okS := wrAS_ok ok i ad p
      obtain ⟨j, rfl, hj⟩ := th_at ht
      have KP := @apow_at w ab mb _ c0 c2 j hj
      have KW := dwrite_any (hM.dk j hj) ha hp
      have m0 := hM.m0 j hj
      have eD : diA a (j : Int) = a.D.getD j default := rfl
      rw [eX, eS]
      rw [eS] at okS
      rw [eD] at okS ⊢
      clear eX eS eD
      obtain ⟨d, hd⟩ : ∃ d, d = a.D.getD j default := ⟨_, rfl⟩
      rw [← hd] at KW okS ⊢
      by_cases hx : wrX d ad p = 0
      · rw [hx] at KW ⊢
        rw [if_pos rfl]
        rw [hx, if_pos rfl] at okS
        go_enter Tryz.func70, Tryz.ntmps70
        go_wp2_with fail
        refine KP.mono ?_
        rintro _ wq ⟨rfl, hwq⟩
        rw [hwq]
        clear hwq wq KP
        go_wp2_with fail
        refine KW.mono ?_
        rintro _ w1 ⟨rfl, G1, D1, g1⟩
        obtain ⟨M1, gg1⟩ := hM.disk hj D1 g1
        have KC := acount_any M1
        have FIN : Hid (∀ w2, ArM w2 ab mb db (fun k => if k = j then G1 else GD k) (fun k => GA k ∨ G1 k) (tickA { a with D := a.D.set j (wrS d ad p) }) → TurnG (fun k => GA k ∨ G1 k) w1 w2 → ∃ GA', ArAt w2 ab GA' (tickA (setA a (j : Int) (wrS d ad p))) ∧ Grew GA w GA' w2) := fun w2 M2 t2 =>
          ⟨_, ⟨mb, db, _, M2, okS⟩, gg1.trans (Grew.of_turn t2)⟩
        clear M1 gg1 D1 g1 KW hM ok h0 okS c0 c2 m0 hp hd
        go_wp2_with fail
        refine KC.mono ?_
        rintro _ w2 ⟨rfl, M2, t2⟩
        have F2 : Hid (∃ GA', ArAt w2 ab GA' (tickA (setA a (j : Int) (wrS d ad p))) ∧ Grew GA w GA' w2) := FIN.out w2 M2 t2
        clear M2 t2 FIN KC
        go_wp2
        go_ret
        exact ⟨rfl, F2.out⟩
      · rw [if_neg hx]
        have eQ : wrS d ad p = d := wrS_no hx
        rw [eQ] at KW
        obtain ⟨x, hxx⟩ : ∃ x, x = wrX d ad p := ⟨_, rfl⟩
        rw [← hxx] at KW hx ⊢
        have q1 : (x == 0) = false := beq_eq_false_iff_ne.2 hx
        go_enter Tryz.func70, Tryz.ntmps70
        go_wp2_with fail
        refine KP.mono ?_
        rintro _ wq ⟨rfl, hwq⟩
        rw [hwq]
        clear hwq wq KP
        go_wp2_with fail
        refine KW.mono ?_
        rintro _ w1 ⟨rfl, G1, D1, g1⟩
        obtain ⟨M1, gg1⟩ := hM.disk hj D1 g1
        have F2 : Hid (∃ GA', ArAt w1 ab GA' a ∧ Grew GA w GA' w1) := ⟨_, ⟨mb, db, _, by
          have e2 : ({ a with D := a.D.set j d } : ArS) = a := by rw [hd]; exact setA_same hj
          rw [e2] at M1
          exact M1, ok⟩, gg1⟩
        clear M1 gg1 D1 g1 KW hM ok h0 okS c0 c2 m0 hp hd hxx eQ
        go_wp2
        go_ret
        exact ⟨rfl, F2.out⟩
    · have K := @apow_no w ab mb _ c0 c2 i ht
      rw [show wrAX a i ad p = 1 by unfold wrAX; rw [if_neg no, if_neg ht]]
      have FIN : Hid (∃ GA', ArAt w ab GA' (wrAS a i ad p) ∧ Grew GA w GA' w) := stays h0 (by unfold wrAS; rw [if_neg no, if_neg ht])
      clear h0 hM ok c2 c0
      go_enter Tryz.func70, Tryz.ntmps70
      go_wp2_with fail
      refine K.mono ?_
      rintro _ wq ⟨rfl, hwq⟩
      rw [hwq]
      clear hwq wq K
      go_wp2
      go_ret
      exact ⟨rfl, FIN.out⟩
theorem aread_any (h : ArAt w ab GA a) {i ad : Int} (hi : (Lit.int .i64 i).wf = true) (ha : (Lit.int .i64 ad).wf = true) :
    Calls Tryz.prog 72 #[.pointer (some ⟨ab, 0, none⟩), .int .i64 i, .int .i64 ad] w (Tells w (rdAX a i ad) (rdAB a i ad)) := by
  obtain ⟨mb, db, GD, hM, ok⟩ := h
  cases ho : a.off with
  | true =>
    have c2 := hM.c2
    rw [ho] at c2
    have K := @apow_off w ab c2 i
    rw [show rdAX a i ad = 130 from if_pos ho, show rdAB a i ad = [] from if_pos ho]
    clear hM ok c2
    go_enter Tryz.func72, Tryz.ntmps72
    go_wp2_with fail
    refine K.mono ?_
    rintro _ wq ⟨rfl, hwq⟩
    rw [hwq]
    clear hwq wq K
    go_wp2
    refine bodyPost_ret (v := .tuple #[.slice none 0 0, .int .i64 130]) (by simp [results, Tryz.results72, go_sem]) rfl ?_
    exact ⟨_, rfl, own_none _ _ _, Below.refl _ _⟩
  | false =>
    have no : ¬ a.off = true := by rw [ho]; simp
    have c0 := hM.c0
    have c2 := hM.c2
    rw [ho] at c2
    by_cases ht : thA a i
    · rw [show rdAX a i ad = faX (diA a i) ad by unfold rdAX; rw [if_neg no, if_pos ht], show rdAB a i ad = rdB (diA a i) ad by unfold rdAB; rw [if_neg no, if_pos ht]]
      obtain ⟨j, rfl, hj⟩ := th_at ht
      have KP := @apow_at w ab mb _ c0 c2 j hj
      have KR := dread_any (hM.dk j hj) ha
      have m0 := hM.m0 j hj
      rw [show diA a (j : Int) = a.D.getD j default from rfl]
      obtain ⟨x, hx⟩ : ∃ x, x = faX (a.D.getD j default) ad := ⟨_, rfl⟩
      obtain ⟨r, hr⟩ : ∃ r, r = rdB (a.D.getD j default) ad := ⟨_, rfl⟩
      rw [← hx, ← hr] at KR ⊢
      clear hM ok hx hr ht c0 c2
      go_enter Tryz.func72, Tryz.ntmps72
      go_wp2_with fail
      refine KP.mono ?_
      rintro _ wq ⟨rfl, hwq⟩
      rw [hwq]
      clear hwq wq KP
      go_wp2_with fail
      refine KR.mono ?_
      rintro _ w1 ⟨v, rfl, O1, B1⟩
      go_wp2
      refine bodyPost_ret (v := .tuple #[v, .int .i64 x]) (by simp [results, Tryz.results72, go_sem]) rfl ?_
      exact ⟨_, rfl, O1, B1⟩
    · have K := @apow_no w ab mb _ c0 c2 i ht
      rw [show rdAX a i ad = 1 by unfold rdAX; rw [if_neg no, if_neg ht], show rdAB a i ad = [] by unfold rdAB; rw [if_neg no, if_neg ht]]
      clear hM ok c2 c0
      go_enter Tryz.func72, Tryz.ntmps72
      go_wp2_with fail
      refine K.mono ?_
      rintro _ wq ⟨rfl, hwq⟩
      rw [hwq]
      clear hwq wq K
      go_wp2
      refine bodyPost_ret (v := .tuple #[.slice none 0 0, .int .i64 1]) (by simp [results, Tryz.results72, go_sem]) rfl ?_
      exact ⟨_, rfl, own_none _ _ _, Below.refl _ _⟩
theorem afail_any (h : ArAt w ab GA a) {i : Int} (hi : (Lit.int .i64 i).wf = true) :
    Calls Tryz.prog 20 #[.pointer (some ⟨ab, 0, none⟩), .int .i64 i] w (LeavesA w ab GA (faAS a i) (.int .i64 (thX a i))) := by
  have h0 := h
  obtain ⟨mb, db, GD, hM, ok⟩ := h
  have c0 := hM.c0
  by_cases ht : thA a i
  · have okS := faAS_ok ok i
    have eS : faAS a i = bornA (setA a i (faS (diA a i))) i := if_pos ht
    rw [show thX a i = 0 from if_pos ht]
    rw [eS] at okS ⊢
    obtain ⟨j, rfl, hj⟩ := th_at ht
    have KP := @amem_at w ab mb _ c0 j hj
    have KW := dfail_any (hM.dk j hj)
    have m0 := hM.m0 j hj
    rw [show diA a (j : Int) = a.D.getD j default from rfl] at okS ⊢
    obtain ⟨d, hd⟩ : ∃ d, d = a.D.getD j default := ⟨_, rfl⟩
    rw [← hd] at KW okS ⊢
    go_enter Tryz.func20, Tryz.ntmps20
    go_wp2_with fail
    refine KP.mono ?_
    rintro _ wq ⟨rfl, hwq⟩
    rw [hwq]
    clear hwq wq KP
    go_wp2_with fail
    refine KW.mono ?_
    rintro _ w1 ⟨rfl, G1, D1, g1⟩
    obtain ⟨M1, gg1⟩ := hM.disk hj D1 g1
    have hj1 : j < (a.D.set j (faS d)).length := by simpa using hj
    have m1 : w1.cell? ⟨mb, j * 2 + 1, none⟩ = some (.int .i64 (a.B.getD j 0)) := M1.m1 j hj1
    have fm := M1.fm j hj1
    have M2 := M1.setBorn hj1 (IntKind.i64.wrap (a.B.getD j 0 + 1))
    have FIN : Hid (∃ GA', ArAt (w1.setCell ⟨mb, j * 2 + 1, none⟩ (.int .i64 (IntKind.i64.wrap (a.B.getD j 0 + 1)))) ab GA' (bornA (setA a (j : Int) (faS d)) (j : Int)) ∧ Grew GA w GA' (w1.setCell ⟨mb, j * 2 + 1, none⟩ (.int .i64 (IntKind.i64.wrap (a.B.getD j 0 + 1))))) :=
      ⟨_, ⟨mb, db, _, M2, okS⟩, gg1.trans (Grew.of_turn (setCell_turnG (Or.inl hM.gm)))⟩
    obtain ⟨z, hz⟩ : ∃ z, z = a.B.getD j 0 := ⟨_, rfl⟩
    rw [← hz] at m1 FIN
    obtain ⟨z1, gz⟩ : ∃ z1, IntKind.i64.wrap (z + 1) = z1 := ⟨_, rfl⟩
    rw [gz] at FIN
    clear M1 M2 gg1 D1 g1 KW hM ok h0 okS c0 m0 hd hj1 hz
    go_wp2
    go_ret
    exact ⟨rfl, FIN.out⟩
  · have K := @amem_no w ab mb _ c0 i ht
    rw [show thX a i = 1 from if_neg ht]
    have FIN : Hid (∃ GA', ArAt w ab GA' (faAS a i) ∧ Grew GA w GA' w) := stays h0 (if_neg ht)
    clear h0 hM ok c0
    go_enter Tryz.func20, Tryz.ntmps20
    go_wp2_with fail
    refine K.mono ?_
    rintro _ wq ⟨rfl, hwq⟩
    rw [hwq]
    clear hwq wq K
    go_wp2
    go_ret
    exact ⟨rfl, FIN.out⟩
theorem arepl_any (h : ArAt w ab GA a) {i : Int} (hi : (Lit.int .i64 i).wf = true) :
    Calls Tryz.prog 21 #[.pointer (some ⟨ab, 0, none⟩), .int .i64 i] w (LeavesA w ab GA (rpAS a i) (.int .i64 (thX a i))) := by
  have h0 := h
  obtain ⟨mb, db, GD, hM, ok⟩ := h
  have c0 := hM.c0
  by_cases ht : thA a i
  · have okS := rpAS_ok ok i
    have eS : rpAS a i = bornA (setA a i (reS (diA a i))) i := if_pos ht
    rw [show thX a i = 0 from if_pos ht]
    rw [eS] at okS ⊢
    obtain ⟨j, rfl, hj⟩ := th_at ht
    have KP := @amem_at w ab mb _ c0 j hj
    have KW := drepl_any (hM.dk j hj)
    have m0 := hM.m0 j hj
    rw [show diA a (j : Int) = a.D.getD j default from rfl] at okS ⊢
    obtain ⟨d, hd⟩ : ∃ d, d = a.D.getD j default := ⟨_, rfl⟩
    rw [← hd] at KW okS ⊢
    go_enter Tryz.func21, Tryz.ntmps21
    go_wp2_with fail
    refine KP.mono ?_
    rintro _ wq ⟨rfl, hwq⟩
    rw [hwq]
    clear hwq wq KP
    go_wp2_with fail
    refine KW.mono ?_
    rintro _ w1 ⟨rfl, G1, D1, g1⟩
    obtain ⟨M1, gg1⟩ := hM.disk hj D1 g1
    have hj1 : j < (a.D.set j (reS d)).length := by simpa using hj
    have m1 : w1.cell? ⟨mb, j * 2 + 1, none⟩ = some (.int .i64 (a.B.getD j 0)) := M1.m1 j hj1
    have fm := M1.fm j hj1
    have M2 := M1.setBorn hj1 (IntKind.i64.wrap (a.B.getD j 0 + 1))
    have FIN : Hid (∃ GA', ArAt (w1.setCell ⟨mb, j * 2 + 1, none⟩ (.int .i64 (IntKind.i64.wrap (a.B.getD j 0 + 1)))) ab GA' (bornA (setA a (j : Int) (reS d)) (j : Int)) ∧ Grew GA w GA' (w1.setCell ⟨mb, j * 2 + 1, none⟩ (.int .i64 (IntKind.i64.wrap (a.B.getD j 0 + 1))))) :=
      ⟨_, ⟨mb, db, _, M2, okS⟩, gg1.trans (Grew.of_turn (setCell_turnG (Or.inl hM.gm)))⟩
    obtain ⟨z, hz⟩ : ∃ z, z = a.B.getD j 0 := ⟨_, rfl⟩
    rw [← hz] at m1 FIN
    obtain ⟨z1, gz⟩ : ∃ z1, IntKind.i64.wrap (z + 1) = z1 := ⟨_, rfl⟩
    rw [gz] at FIN
    clear M1 M2 gg1 D1 g1 KW hM ok h0 okS c0 m0 hd hj1 hz
    go_wp2
    go_ret
    exact ⟨rfl, FIN.out⟩
  · have K := @amem_no w ab mb _ c0 i ht
    rw [show thX a i = 1 from if_neg ht]
    have FIN : Hid (∃ GA', ArAt w ab GA' (rpAS a i) ∧ Grew GA w GA' w) := stays h0 (if_neg ht)
    clear h0 hM ok c0
    go_enter Tryz.func21, Tryz.ntmps21
    go_wp2_with fail
    refine K.mono ?_
    rintro _ wq ⟨rfl, hwq⟩
    rw [hwq]
    clear hwq wq K
    go_wp2
    go_ret
    exact ⟨rfl, FIN.out⟩
theorem acorr_any (h : ArAt w ab GA a) {i ad at_ : Int} (hi : (Lit.int .i64 i).wf = true) (ha : (Lit.int .i64 ad).wf = true) (hat : (Lit.int .i64 at_).wf = true) (y : UInt8) :
    Calls Tryz.prog 22 #[.pointer (some ⟨ab, 0, none⟩), .int .i64 i, .int .i64 ad, .int .i64 at_, .int .u8 ((y.toNat : Nat) : Int)] w (LeavesA w ab GA (coAS a i ad at_ y) (.int .i64 (coAX a i ad))) := by
  have h0 := h
  obtain ⟨mb, db, GD, hM, ok⟩ := h
  have c0 := hM.c0
  by_cases ht : thA a i
  · have okS := coAS_ok ok i ad at_ y
    have eS : coAS a i ad at_ y = setA a i (coS (diA a i) ad at_ y) := if_pos ht
    rw [show coAX a i ad = coX (diA a i) ad from if_pos ht]
    rw [eS] at okS ⊢
    obtain ⟨j, rfl, hj⟩ := th_at ht
    have KP := @amem_at w ab mb _ c0 j hj
    have KW := dcorr_any (hM.dk j hj) ha hat y
    have m0 := hM.m0 j hj
    rw [show diA a (j : Int) = a.D.getD j default from rfl] at okS ⊢
    obtain ⟨x, hx⟩ : ∃ x, x = coX (a.D.getD j default) ad := ⟨_, rfl⟩
    rw [← hx] at KW ⊢
    obtain ⟨d, hd⟩ : ∃ d, d = a.D.getD j default := ⟨_, rfl⟩
    rw [← hd] at KW okS ⊢
    clear hx
    go_enter Tryz.func22, Tryz.ntmps22
    go_wp2_with fail
    refine KP.mono ?_
    rintro _ wq ⟨rfl, hwq⟩
    rw [hwq]
    clear hwq wq KP
    go_wp2_with fail
    refine KW.mono ?_
    rintro _ w1 ⟨rfl, G1, D1, g1⟩
    obtain ⟨M1, gg1⟩ := hM.disk hj D1 g1
    have FIN : Hid (∃ GA', ArAt w1 ab GA' (setA a (j : Int) (coS d ad at_ y)) ∧ Grew GA w GA' w1) := ⟨_, ⟨mb, db, _, M1, okS⟩, gg1⟩
    clear M1 gg1 D1 g1 KW hM ok h0 okS c0 m0 hd
    go_wp2
    go_ret
    exact ⟨rfl, FIN.out⟩
  · have K := @amem_no w ab mb _ c0 i ht
    rw [show coAX a i ad = 1 from if_neg ht]
    have FIN : Hid (∃ GA', ArAt w ab GA' (coAS a i ad at_ y) ∧ Grew GA w GA' w) := stays h0 (if_neg ht)
    clear h0 hM ok c0
    go_enter Tryz.func22, Tryz.ntmps22
    go_wp2_with fail
    refine K.mono ?_
    rintro _ wq ⟨rfl, hwq⟩
    rw [hwq]
    clear hwq wq K
    go_wp2
    go_ret
    exact ⟨rfl, FIN.out⟩
theorem alasts_at (h : ArAt w ab GA a) {j : Nat} (hj : j < a.D.length) : Calls Tryz.prog 29 #[.pointer (some ⟨ab, 0, none⟩), .int .i64 (j : Int)] w fun e w' => ∃ v, e = .returned v ∧ OwnH w' w.heap.size v (heldL (a.D.getD j default).last (a.D.getD j default).s) ∧ Below w.heap.size w w' := by
  obtain ⟨mb, db, GD, hM, ok⟩ := h
  have KP := @amem_at w ab mb _ hM.c0 j hj
  have KW := dlasts_any (hM.dk j hj)
  have m0 := hM.m0 j hj
  clear hM ok
  go_enter Tryz.func29, Tryz.ntmps29
  go_wp2_with fail
  refine KP.mono ?_
  rintro _ wq ⟨rfl, hwq⟩
  rw [hwq]
  clear hwq wq KP
  go_wp2_with fail
  refine KW.mono ?_
  rintro _ w1 ⟨v, rfl, O1, B1⟩
  go_wp2
  go_ret
  exact ⟨_, rfl, O1, B1⟩
theorem awaits_at (h : ArAt w ab GA a) {j : Nat} (hj : j < a.D.length) : Calls Tryz.prog 27 #[.pointer (some ⟨ab, 0, none⟩), .int .i64 (j : Int)] w fun e w' => ∃ v, e = .returned v ∧ OwnH w' w.heap.size v (heldL (a.D.getD j default).wait (a.D.getD j default).s) ∧ Below w.heap.size w w' := by
  obtain ⟨mb, db, GD, hM, ok⟩ := h
  have KP := @amem_at w ab mb _ hM.c0 j hj
  have KW := dwaits_any (hM.dk j hj)
  have m0 := hM.m0 j hj
  clear hM ok
  go_enter Tryz.func27, Tryz.ntmps27
  go_wp2_with fail
  refine KP.mono ?_
  rintro _ wq ⟨rfl, hwq⟩
  rw [hwq]
  clear hwq wq KP
  go_wp2_with fail
  refine KW.mono ?_
  rintro _ w1 ⟨v, rfl, O1, B1⟩
  go_wp2
  go_ret
  exact ⟨_, rfl, O1, B1⟩
end
end Go.Proofs.YtddnfhfangfgeaaGreat.Gf

namespace Go.Proofs.YtddnfhfangfgeaaGreat.Gf
set_option linter.unusedVariables false
set_option linter.unusedSimpArgs false
open Go.RowKit
theorem info_bool13 : (Tryz.prog.info? 4).map (fun i => (i.zero, i.size, i.bytes)) = some (some (.bool false), 1, 1) := by kernel_rfl
theorem info_int13 : (Tryz.prog.info? 3).map (fun i => (i.zero, i.size, i.bytes)) = some (some (.int .i64 0), 1, 8) := by kernel_rfl
/-- a row of the call's own -/
def MadeRow (w : World) (t n : Nat) (f : Nat → Value) (e : Ending) (w' : World) : Prop := ∃ g, e = .returned (.slice (some ⟨g, 0, none⟩) n n) ∧ w'.rowIs g t n f ∧ w.heap.size ≤ g ∧ Below w.heap.size w w'
section
variable {w : World} {ab : Nat} {GA : Nat → Prop} {a : ArS}
set_option maxRecDepth 100000 in
theorem alive_any (h : ArAt w ab GA a) : Calls Tryz.prog 41 #[.pointer (some ⟨ab, 0, none⟩)] w (MadeRow w 4 a.D.length (fun i => .bool (!(a.D.getD i default).dead))) := by
  obtain ⟨mb, db, GD, hM, ok⟩ := h
  have c0 := hM.c0
  have d2 := hM.d2
  have mk1 := run_make_row' (P := Tryz.prog) 96 4 (.bool false) 1 Tryz.underlying96 info_bool13 rfl .i64 .i64 a.D.length (by omega) (by omega)
  obtain ⟨u, hu⟩ : ∃ u, u = w.alloc (Obj.cells (madeCells #[Value.bool false] a.D.length) 4) := ⟨_, rfl⟩
  have hub : Below w.heap.size w u := by rw [hu]; exact belA _ _
  have hur : u.rowIs w.heap.size 4 a.D.length (fun _ => .bool false) := by rw [hu]; exact World.rowIs_made _ _ _ _
  have hM1 := hM.below hub
  have c0m := hM1.c0
  have mk2 := mk1 w
  obtain ⟨g, hg⟩ : ∃ g, Hid (g = w.heap.size) := ⟨_, rfl⟩
  rw [← hu, ← hg.out] at mk2
  rw [← hg.out] at hur
  clear mk1 hu
  go_enter Tryz.func41, Tryz.ntmps41
  go_wp2
  have START : Hid (u.rowIs g 4 a.D.length (fun j => if j < 0 then .bool (!(a.D.getD j default).dead) else .bool false) ∧ Below w.heap.size w u) := ⟨hur, hub⟩
  clear hM1 c0m mk2 hub hur ok c0
  go_loopw [19] (fun i wr => ∃ k : Nat, k ≤ a.D.length ∧ i = .int .i64 (k : Int) ∧ wr.rowIs g 4 a.D.length (fun j => if j < k then .bool (!(a.D.getD j default).dead) else .bool false) ∧ Below w.heap.size w wr) (fun i _ => a.D.length - (intOf i).toNat)
  case atStart => exact ⟨0, Nat.zero_le _, rfl, START.out⟩
  case round =>
    clear START
    obtain ⟨k, hk, rfl, hr, hb⟩ := hrel
    by_cases hlt : k < a.D.length
    · have hlt' : (k : Int) < (a.D.length : Int) := by omega
      have g1 : IntKind.i64.wrap ((k : Int) + 1) = ((k + 1 : Nat) : Int) := by rw [IntKind.wrap_i64]; omega
      have hMr := hM.below hb
      have m0 := hMr.m0 k hlt
      have m1 := hMr.m1 k hlt
      have KD := fun o => @ddead_any (wr.alloc o) (db k) (a.D.getD k default).dead ((hMr.dk k hlt).below (belA wr o)).dead
      have R1 : Hid (∀ o, (wr.alloc o).rowIs g 4 a.D.length (fun j => if j < k then .bool (!(a.D.getD j default).dead) else .bool false) ∧ Below w.heap.size w (wr.alloc o)) := fun o => ⟨hr.alloc o, hb.trans ((belA wr o).mono hb.size)⟩
      obtain ⟨z, hz⟩ : ∃ z, z = a.B.getD k 0 := ⟨_, rfl⟩
      rw [← hz] at m1
      obtain ⟨x, hx⟩ : ∃ x, Hid (x = (a.D.getD k default).dead) := ⟨_, rfl⟩
      rw [← hx.out] at KD
      clear hz hMr hr hb
      go_wp2_with fail
      refine (KD _).mono ?_
      rintro _ wq ⟨rfl, hwq⟩
      obtain ⟨R2, B2⟩ := R1.out (Obj.cells #[Value.pointer (some ⟨db k, 0, none⟩), .int .i64 z] 81)
      rw [← hwq] at R2 B2
      have cq := R2.cell hlt
      have fq := R2.frozen k
      have R3 := R2.set k (.bool (!x))
      have E2 : Hid ((wq.setCell ⟨g, k, none⟩ (.bool (!x))).rowIs g 4 a.D.length (fun j => if j < k + 1 then .bool (!(a.D.getD j default).dead) else .bool false) ∧ Below w.heap.size w (wq.setCell ⟨g, k, none⟩ (.bool (!x)))) := by
        refine ⟨R3.congr fun j hj => ?_, B2.setCell (by rw [hg.out]; exact Nat.le_refl _) _⟩
        by_cases e : j = k
        · rw [if_pos e, if_pos (by omega), e, hx.out]
        · rw [if_neg e]
          by_cases e2 : j < k
          · rw [if_pos e2, if_pos (by omega)]
          · rw [if_neg e2, if_neg (by omega)]
      clear KD R1 R2 B2 R3 hwq m0 m1
      cases x <;> simp only [Bool.not_true, Bool.not_false] at E2
      all_goals
        go_wp2
        go_roundw
        case rel => exact ⟨k + 1, by omega, by go_num, E2.out⟩
        case measure => simp [intOf]; omega
    · have hlt' : ¬ (k : Int) < (a.D.length : Int) := by omega
      have hkn : k = a.D.length := by omega
      have FIN : Hid (wr.rowIs g 4 a.D.length (fun j => .bool (!(a.D.getD j default).dead)) ∧ w.heap.size ≤ g ∧ Below w.heap.size w wr) := ⟨hr.congr fun j hj => if_pos (by omega), by rw [hg.out]; exact Nat.le_refl _, hb⟩
      clear hr hb
      go_wp2
      go_ret
      exact ⟨g, rfl, FIN.out⟩
end
end Go.Proofs.YtddnfhfangfgeaaGreat.Gf

namespace Go.Proofs.YtddnfhfangfgeaaGreat.Gf
set_option linter.unusedVariables false
set_option linter.unusedSimpArgs false
open Go.RowKit
theorem info_member : (Tryz.prog.info? 81).map (fun i => (i.zero, i.size, i.bytes)) = some (some (.agg #[.pointer none, .int .i64 0]), 2, 16) := by kernel_rfl
/-- a row of members that are not yet -/
theorem run_make_members (n : Nat) (hn : n ≤ 32) (w : World) : (Instr.makeSlice 74 (.int .i64 (n : Int)) (.int .i64 (n : Int))).run Tryz.prog w = .ok (.slice (some ⟨w.heap.size, 0, none⟩) n n) (w.alloc (.cells (madeCells #[.pointer none, .int .i64 0] (n * 2)) 81)) := by
  obtain ⟨i, hi, hzz⟩ := Option.map_eq_some_iff.1 info_member
  simp only [Prod.mk.injEq] at hzz
  obtain ⟨hz, hs, hb⟩ := hzz
  have hr := run_make (P := Tryz.prog) w 74 81 i _ Tryz.underlying74 hi hz .i64 .i64 n n (by omega) (Int.le_refl _) (by rw [hb]; omega) (by omega)
  simp only [Int.toNat_natCast, hs] at hr
  exact hr
/-- a row of members, the first k of which have disks -/
def nfR (db : Nat → Nat) (k : Nat) (j : Nat) : Value := if j % 2 = 0 then (if j / 2 < k then .pointer (some ⟨db (j / 2), 0, none⟩) else .pointer none) else .int .i64 0
def faR (mb n : Nat) (j : Nat) : Value := if j = 0 then .slice (some ⟨mb, 0, none⟩) n n else if j = 1 then .int .i64 0 else .bool false
structure NewI (w wr : World) (ab mb n k s : Nat) (db : Nat → Nat) (GD : Nat → Nat → Prop) : Prop where
  b : Below w.heap.size w wr
  la : w.heap.size ≤ ab
  lm : w.heap.size ≤ mb
  ne : ab ≠ mb
  ra : wr.rowIs ab 76 3 (faR mb n)
  rm : wr.rowIs mb 81 (n * 2) (nfR db k)
  dk : ∀ i, i < k → DiskAt wr (db i) (GD i) (newD s)
  sep : ∀ i j, i < k → j < k → i ≠ j → ∀ x, GD i x → ¬ GD j x
  up : ∀ i, i < k → ∀ x, GD i x → x ≠ ab ∧ x ≠ mb ∧ w.heap.size ≤ x
section
variable {w wr w1 : World} {ab mb n k s : Nat} {db : Nat → Nat} {GD : Nat → Nat → Prop}
theorem NewI.step (h : NewI w wr ab mb n k s db GD) (hk : k < n) {d : Nat} {G : Nat → Prop} (hD : DiskAt w1 d G (newD s)) (hG : ∀ x, G x → wr.heap.size ≤ x) (hb : Below wr.heap.size wr w1) :
    NewI w (w1.setCell ⟨mb, k * 2, none⟩ (.pointer (some ⟨d, 0, none⟩))) ab mb n (k + 1) s (fun i => if i = k then d else db i) (fun i => if i = k then G else GD i) := by
  have lm := h.rm.lt
  have la := h.ra.lt
  have kb : ∀ x, x ≠ mb → (w1.setCell ⟨mb, k * 2, none⟩ (.pointer (some ⟨d, 0, none⟩))).heap[x]? = w1.heap[x]? := fun x hx => Below.heap_setCell w1 ⟨mb, k * 2, none⟩ _ x hx
  refine ⟨(h.b.trans (hb.mono h.b.size)).setCell h.lm _, h.la, h.lm, h.ne, ?_, ?_, ?_, ?_, ?_⟩
  · exact (h.ra.of_block (hb.block ab la)).setOther h.ne _
  · refine ((h.rm.of_block (hb.block mb lm)).set (k * 2) (.pointer (some ⟨d, 0, none⟩))).congr fun j hj => ?_
    unfold nfR
    by_cases e : j = k * 2
    · subst e
      rw [if_pos rfl, if_pos (by omega), if_pos (by omega)]
      show _ = Value.pointer (some ⟨if k * 2 / 2 = k then d else db (k * 2 / 2), 0, none⟩)
      rw [if_pos (by omega)]
    · rw [if_neg e]
      by_cases e1 : j % 2 = 0
      · rw [if_pos e1, if_pos e1]
        by_cases e2 : j / 2 < k
        · rw [if_pos e2, if_pos (by omega)]
          show _ = Value.pointer (some ⟨if j / 2 = k then d else db (j / 2), 0, none⟩)
          rw [if_neg (by omega)]
        · rw [if_neg e2, if_neg (by omega)]
      · rw [if_neg e1, if_neg e1]
  · intro i hi
    show DiskAt _ (if i = k then d else db i) (if i = k then G else GD i) _
    by_cases e : i = k
    · rw [if_pos e, if_pos e]
      exact hD.keep (fun x hx => kb x (fun e2 => by have := hG x hx; omega)) (by simp)
    · rw [if_neg e, if_neg e]
      have h1 := (h.dk i (by omega)).below hb
      exact h1.keep (fun x hx => kb x (h.up i (by omega) x hx).2.1) (by simp)
  · intro i j hi hj hne x hx hx2
    replace hx : (if i = k then G else GD i) x := hx
    replace hx2 : (if j = k then G else GD j) x := hx2
    by_cases e : i = k
    · rw [if_pos e] at hx
      rw [if_neg (by omega)] at hx2
      have h1 := hG x hx
      have h2 := (h.dk j (by omega)).lt x hx2
      omega
    · rw [if_neg e] at hx
      by_cases e2 : j = k
      · rw [if_pos e2] at hx2
        have h1 := hG x hx2
        have h2 := (h.dk i (by omega)).lt x hx
        omega
      · rw [if_neg e2] at hx2
        exact h.sep i j (by omega) (by omega) hne x hx hx2
  · intro i hi x hx
    replace hx : (if i = k then G else GD i) x := hx
    by_cases e : i = k
    · rw [if_pos e] at hx
      have h1 := hG x hx
      have h2 := h.b.size
      exact ⟨by omega, by omega, by omega⟩
    · rw [if_neg e] at hx
      exact h.up i (by omega) x hx
theorem rep_getD {α : Type} {n i : Nat} {x d : α} (h : i < n) : (List.replicate n x).getD i d = x := by simp [List.getD, h]
theorem NewI.done (h : NewI w wr ab mb n n s db GD) (h1 : 1 ≤ n) (h2 : n ≤ 32) (h3 : 1 ≤ s) (h4 : s ≤ 4096) : ArAt wr ab (fun x => x = ab ∨ x = mb ∨ ∃ i, i < n ∧ GD i x) (newA n s) := by
  have hl : (newA n s).D.length = n := by simp [newA]
  refine ⟨mb, db, GD, ⟨?_, h.ra.cell (i := 1) (by omega), h.ra.cell (i := 2) (by omega), h.ra.frozen 1, h.ra.frozen 2, fun i hi => ?_, fun i hi => ?_, fun i hi => h.rm.frozen _, fun i hi => ?_, fun i j hi hj => h.sep i j (hl ▸ hi) (hl ▸ hj), fun i hi => ⟨fun e => (h.up i (hl ▸ hi) _ e).1 rfl, fun e => (h.up i (hl ▸ hi) _ e).2.1 rfl⟩, h.ne, Or.inl rfl, Or.inr (Or.inl rfl), fun i hi x hx => Or.inr (Or.inr ⟨i, hl ▸ hi, hx⟩), fun x hx => ?_, by rw [hl]; exact h1, by rw [hl]; exact h2, by simp [newA], by simp [newA]; decide⟩, newA_ok h1 h2 h3 h4⟩
  · rw [hl]; exact h.ra.cell (i := 0) (by omega)
  · rw [hl] at hi
    rw [h.rm.cell (by omega)]
    unfold nfR
    rw [if_pos (by omega), if_pos (by omega), show i * 2 / 2 = i by omega]
  · rw [hl] at hi
    rw [h.rm.cell (by omega)]
    unfold nfR
    rw [if_neg (by omega)]
    simp only [newA]
    rw [rep_getD hi]
  · rw [hl] at hi
    simp only [newA]
    rw [rep_getD hi]
    exact h.dk i hi
  · rcases hx with h5 | h5 | ⟨i, hi, h5⟩
    · rw [h5]; exact h.ra.lt
    · rw [h5]; exact h.rm.lt
    · exact (h.dk i hi).lt x h5
end
/-- a new array -/
def NewsA (w : World) (n s : Nat) (e : Ending) (w' : World) : Prop := ∃ ab GA, e = .returned (.tuple #[.pointer (some ⟨ab, 0, none⟩), .int .i64 0]) ∧ ArAt w' ab GA (newA n s) ∧ (∀ k, GA k → w.heap.size ≤ k) ∧ Below w.heap.size w w'
theorem made_two (w : World) (n : Nat) (t : TypeId) : (w.alloc (.cells (madeCells #[.pointer none, .int .i64 0] (n * 2)) t)).rowIs w.heap.size t (n * 2) (nfR (fun _ => 0) 0) := by
  have hs : (madeCells #[Value.pointer none, .int .i64 0] (n * 2)).size = n * 2 := size_madeCells _ _
  have h := World.rowIs_alloc w (madeCells #[.pointer none, .int .i64 0] (n * 2)) t (nfR (fun _ => 0) 0) (fun i hi => by
    rw [hs] at hi
    unfold nfR
    rcases Nat.mod_two_eq_zero_or_one i with e | e <;> simp [madeCells, hi, e])
  rw [hs] at h
  exact h
/-- the members of a new array, laid -/
theorem laid_u (w : World) (n : Nat) (h2 : n ≤ 32) : ∃ u, (Instr.makeSlice 74 (.int .i64 (n : Int)) (.int .i64 (n : Int))).run Tryz.prog w = .ok (.slice (some ⟨w.heap.size, 0, none⟩) n n) u ∧ u.rowIs w.heap.size 81 (n * 2) (nfR (fun _ => 0) 0) ∧ Below w.heap.size w u ∧ u.heap.size = w.heap.size + 1 :=
  ⟨_, run_make_members n h2 w, made_two _ _ _, belA _ _, by simp⟩
theorem laid_a (u : World) (g n : Nat) : (u.alloc (.cells #[.slice (some ⟨g, 0, none⟩) n n, .int .i64 0, .bool false] 76)).rowIs u.heap.size 76 3 (faR g n) :=
  World.rowIs_alloc u #[.slice (some ⟨g, 0, none⟩) n n, .int .i64 0, .bool false] 76 (faR g n) (fun i hi => by
    have hi2 : i < 3 := hi
    match i, hi2 with
    | 0, _ => rfl
    | 1, _ => rfl
    | 2, _ => rfl)
set_option maxRecDepth 100000 in
theorem anew_any {w : World} {n : Nat} {s : Int} (h1 : 1 ≤ n) (h2 : n ≤ 32) (h3 : 1 ≤ s) (h4 : s ≤ 4096) : Calls Tryz.prog 12 #[.int .i64 (n : Int), .int .i64 s] w (NewsA w n s.toNat) := by
  have q1 : ¬ (n : Int) < 1 := by omega
  have q2 : ¬ (n : Int) > 32 := by omega
  obtain ⟨u, mk1, hr, hb, hs⟩ := laid_u w n h2
  obtain ⟨g, hg⟩ : ∃ g, Hid (g = w.heap.size) := ⟨_, rfl⟩
  rw [← hg.out] at mk1 hr
  have hs' : Hid (u.heap.size = w.heap.size + 1) := hs
  have LA := laid_a u g n
  have START : Hid (∃ db GD, NewI w (u.alloc (.cells #[.slice (some ⟨g, 0, none⟩) n n, .int .i64 0, .bool false] 76)) u.heap.size g n 0 s.toNat db GD) :=
    ⟨fun _ => 0, fun _ _ => False, (hb.alloc (by have := hb.size; omega) _), by omega, by rw [hg.out]; exact Nat.le_refl _, by rw [hg.out]; omega, LA, hr.alloc _, fun i hi => absurd hi (Nat.not_lt_zero _), fun i j hi => absurd hi (Nat.not_lt_zero _), fun i hi => absurd hi (Nat.not_lt_zero _)⟩
  have c0 := LA.cell (i := 0) (by omega)
  simp only [faR, if_true] at c0
  clear hs LA hb hr
  go_enter Tryz.func12, Tryz.ntmps12
  go_wp2
  obtain ⟨ab, hab⟩ : ∃ ab, Hid (ab = u.heap.size) := ⟨_, rfl⟩
  rw [← hab.out] at START ⊢
  go_loopw [25] (fun i wr => ∃ k : Nat, k ≤ n ∧ i = .int .i64 (k : Int) ∧ ∃ db GD, NewI w wr ab g n k s.toNat db GD) (fun i _ => n - (intOf i).toNat)
  case atStart => exact ⟨0, Nat.zero_le _, rfl, START.out⟩
  case round =>
    clear START
    obtain ⟨k, hk, rfl, db, GD, hN⟩ := hrel
    by_cases hlt : k < n
    · have hlt' : (k : Int) < (n : Int) := by omega
      have g1 : IntKind.i64.wrap ((k : Int) + 1) = ((k + 1 : Nat) : Int) := by rw [IntKind.wrap_i64]; omega
      go_wp2_with fail
      refine (dmake_any h3 h4).mono ?_
      rintro _ w1 ⟨d, G, rfl, D1, H1, B1⟩
      have c1 : w1.cell? ⟨ab, 0, none⟩ = some (.slice (some ⟨g, 0, none⟩) n n) := (B1.cell (p := ⟨ab, 0, none⟩) hN.ra.lt).trans (hN.ra.cell (i := 0) (by omega))
      have R1 := hN.rm.of_block (B1.block g hN.rm.lt)
      have c2 := R1.cell (i := k * 2) (by omega)
      have f2 := R1.frozen (k * 2)
      have E2 : Hid (∃ db GD, NewI w (w1.setCell ⟨g, k * 2, none⟩ (.pointer (some ⟨d, 0, none⟩))) ab g n (k + 1) s.toNat db GD) := ⟨_, _, hN.step hlt D1 H1 B1⟩
      clear hN D1 H1 B1 R1
      go_wp2
      go_roundw
      case rel => exact ⟨k + 1, by omega, by go_num, E2.out⟩
      case measure => simp [intOf]; omega
    · have hlt' : ¬ (k : Int) < (n : Int) := by omega
      have hkn : k = n := by omega
      rw [hkn] at hN
      have FIN : Hid (∃ GA, ArAt wr ab GA (newA n s.toNat) ∧ (∀ k, GA k → w.heap.size ≤ k) ∧ Below w.heap.size w wr) := ⟨_, hN.done h1 h2 (by omega) (by omega), fun x hx => by
        rcases hx with h5 | h5 | ⟨i, hi, h5⟩
        · rw [h5]; exact hN.la
        · rw [h5]; exact hN.lm
        · exact (hN.up i hi x h5).2.2, hN.b⟩
      clear hN
      go_wp2
      refine bodyPost_ret (v := .tuple #[.pointer (some ⟨ab, 0, none⟩), .int .i64 0]) (by simp [results, Tryz.results12, go_sem]) rfl ?_
      obtain ⟨GA, r⟩ := FIN.out
      exact ⟨ab, GA, rfl, r⟩
end Go.Proofs.YtddnfhfangfgeaaGreat.Gf
