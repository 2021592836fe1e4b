/- TEXTS JOINED: ArRA, ArCel. -/
import Derived.Test.YtgahaebfgmbckaaGreatTome22
import Derived.Test.YtgahaebfgmbckaaGreatTome17
namespace Go.Proofs.YtgahaebfgmbckaaGreat.Gf
set_option linter.unusedVariables false
set_option linter.unusedSimpArgs false
open Go.RowKit
section
variable {w : World} {rb : Nat} {HR GA : Nat → Prop} {a : ArS}
theorem rthereA_any {xb n c : Nat} (c0 : w.cell? ⟨rb, 0, none⟩ = some (.slice (some ⟨xb, 0, none⟩) n c)) {i : Int} {x : Bool} (hx : decide (0 ≤ i ∧ i < (n : Int)) = x) : Calls Tryz.prog 79 #[.pointer (some ⟨rb, 0, none⟩), .int .i64 i] w fun e w' => e = .returned (.bool x) ∧ w' = w := by
  by_cases h0 : i ≥ 0
  · by_cases h1 : i < (n : Int)
    · rw [decide_eq_true ⟨h0, h1⟩] at hx
      subst hx
      go_enter Tryz.func79, Tryz.ntmps79
      go_wp2
      go_ret
      exact ⟨rfl, rfl⟩
    · rw [decide_eq_false (fun h => h1 h.2)] at hx
      subst hx
      go_enter Tryz.func79, Tryz.ntmps79
      go_wp2
      go_ret
      exact ⟨rfl, rfl⟩
  · rw [decide_eq_false (fun h => h0 h.1)] at hx
    subst hx
    go_enter Tryz.func79, Tryz.ntmps79
    go_wp2
    go_ret
    exact ⟨rfl, rfl⟩
theorem Rd.nilR {w : World} : Rd w (.slice none 0 0) [] := by
  obtain ⟨p, e, hp⟩ := rd_row (w := w) (a := none) (len := 0) (cap := 0) (zs := []) (Or.inl ⟨rfl, rfl, rfl, rfl⟩)
  have : p = [] := List.length_eq_zero_iff.1 (by simpa using e.symm)
  rw [this] at hp
  exact hp
theorem staysR {a' : ArS} (h : RaAt w rb HR GA a) (e : a' = a) : RaAt w rb HR GA a' ∧ TurnG HR w w := ⟨by rw [e]; exact h, TurnG.refl _ _⟩
theorem rafter_any (h : RaAt w rb HR GA a) {n : Int} (hn : (Lit.int .i64 n).wf = true) : Calls Tryz.prog 50 #[.pointer (some ⟨rb, 0, none⟩), .int .i64 n] w (LeavesRA w rb HR GA (caA a n) (.tuple #[])) := by
  have h0 := h
  obtain ⟨xb, yb, cx, cy, rd, h, ok⟩ := h
  have c2 := h.c2
  have c3 := h.c3
  have f2 := h.f2
  have f3 := h.f3
  cases ho : a.off with
  | true =>
    have FIN : Hid (RaAt w rb HR GA (caA a n) ∧ TurnG HR w w) := staysR h0 (if_pos ho)
    rw [ho] at c3
    clear h ok h0
    go_enter Tryz.func50, Tryz.ntmps50
    go_wp2
    refine bodyPost_ret (v := .tuple #[]) (by simp [results, Tryz.results50, go_sem]) rfl ?_
    exact ⟨rfl, FIN.out⟩
  | false =>
    have eT : caA a n = { { a with left := if 0 ≤ n then n else -1 } with off := decide (n = 0) } := if_neg (by rw [ho]; simp)
    have ok2 := caA_ok ok n
    rw [eT] at ok2
    rw [ho] at c3
    have q2 : (n == 0) = decide (n = 0) := by by_cases e : n = 0 <;> simp [e]
    have M1 := h.setLeft (l := -1) (by decide)
    have t1 : TurnG HR w (w.setCell ⟨rb, 2, none⟩ (.int .i64 (-1))) := setCell_turnG h.hr
    by_cases hge : n ≥ 0
    · have M2 := (M1.setLeft (l := n) hn).setOff (decide (n = 0))
      have FIN : Hid (RaAt (((w.setCell ⟨rb, 2, none⟩ (.int .i64 (-1))).setCell ⟨rb, 2, none⟩ (.int .i64 n)).setCell ⟨rb, 3, none⟩ (.bool (decide (n = 0)))) rb HR GA (caA a n) ∧ TurnG HR w (((w.setCell ⟨rb, 2, none⟩ (.int .i64 (-1))).setCell ⟨rb, 2, none⟩ (.int .i64 n)).setCell ⟨rb, 3, none⟩ (.bool (decide (n = 0))))) := by
        rw [eT]
        rw [if_pos hge] at ok2 ⊢
        exact ⟨⟨xb, yb, cx, cy, rd, M2, ok2⟩, (t1.trans (setCell_turnG h.hr)).trans (setCell_turnG h.hr)⟩
      clear M1 M2 eT h ok ok2 h0 t1
      go_enter Tryz.func50, Tryz.ntmps50
      go_wp2
      go_end0
      exact ⟨rfl, FIN.out⟩
    · have M2 := M1.setOff (decide (n = 0))
      have FIN : Hid (RaAt ((w.setCell ⟨rb, 2, none⟩ (.int .i64 (-1))).setCell ⟨rb, 3, none⟩ (.bool (decide (n = 0)))) rb HR GA (caA a n) ∧ TurnG HR w ((w.setCell ⟨rb, 2, none⟩ (.int .i64 (-1))).setCell ⟨rb, 3, none⟩ (.bool (decide (n = 0))))) := by
        rw [eT]
        rw [if_neg hge] at ok2 ⊢
        exact ⟨⟨xb, yb, cx, cy, rd, M2, ok2⟩, t1.trans (setCell_turnG h.hr)⟩
      clear M1 M2 eT h ok ok2 h0 t1
      go_enter Tryz.func50, Tryz.ntmps50
      go_wp2
      go_end0
      exact ⟨rfl, FIN.out⟩
set_option maxRecDepth 100000 in
theorem rwriteA_any (h : RaAt w rb HR GA a) {i ad : Int} {v : Value} {p : List UInt8} (hp : Rd w v p) :
    Calls Tryz.prog 44 #[.pointer (some ⟨rb, 0, none⟩), .int .i64 i, .int .i64 ad, v] w (LeavesRA w rb HR GA (wrAS a i ad p) (.int .i64 (wrAX a i ad p))) := by
  have h0 := h
  obtain ⟨xb, yb, cx, cy, rd, hM, ok⟩ := h
  obtain ⟨va, vc, rfl⟩ := hp.form
  have c3 := hM.c3
  cases ho : a.off with
  | true =>
    rw [ho] at c3
    rw [show wrAX a i ad p = 130 from if_pos ho]
    have FIN : Hid (RaAt w rb HR GA (wrAS a i ad p) ∧ TurnG HR w w) := staysR h0 (if_pos ho)
    clear h0 hM ok
    go_enter Tryz.func44, Tryz.ntmps44
    go_wp2
    go_ret
    exact ⟨rfl, FIN.out⟩
  | false =>
    have no : ¬ a.off = true := by rw [ho]; simp
    have c0 := hM.c0
    rw [ho] at c3
    by_cases ht : thA a i
    · have KT := rthereA_any (i := i) c0 (decide_eq_true ht)
      have eX : wrAX a i ad p = wrX (diA a i) ad p := by unfold wrAX; rw [if_neg no, if_pos ht]
      have eS : wrAS a i ad p = if wrX (diA a i) ad p = 0 then tickA (setA a i (wrS (diA a i) ad p)) else a := by unfold wrAS; rw [if_neg no, if_pos ht]
      have okS := wrAS_ok ok i ad p
      obtain ⟨j, rfl, hj⟩ := th_at ht
      have hj' : (j : Int) < (a.D.length : Int) := by omega
      have x0 := hM.x j hj
      obtain ⟨vl, vw, Tl, Tw, hI⟩ := hM.dk j hj
      have KW := rwrite_any hI (a := ad) hp
      rw [eX, eS]
      rw [eS] at okS
      rw [show diA a (j : Int) = a.D.getD j default from rfl] at okS ⊢
      clear eX eS hI
      obtain ⟨d, hd⟩ : ∃ d, d = a.D.getD j default := ⟨_, rfl⟩
      rw [← hd] at KW okS ⊢
      by_cases hx : wrX d ad p = 0
      · rw [hx] at KW ⊢
        rw [if_pos rfl]
        rw [hx, if_pos rfl] at okS
        by_cases hl : 0 < a.left
        · have hl' : a.left > 0 := hl
          have wb := bounds_i64 hM.wl
          have hwf : (Lit.int .i64 (a.left - 1)).wf = true := by simp [Lit.wf, IntKind.min, IntKind.max, IntKind.signed, IntKind.bits]; omega
          have gl : IntKind.i64.wrap (a.left - 1) = a.left - 1 := by rw [IntKind.wrap_i64]; omega
          have q2 : (a.left - 1 == 0) = decide (a.left - 1 = 0) := by by_cases e : a.left - 1 = 0 <;> simp [e]
          have eT : tickA (setA a (j : Int) (wrS d ad p)) = { { setA a (j : Int) (wrS d ad p) with left := a.left - 1 } with off := decide (a.left - 1 = 0) } := if_pos hl
          go_enter Tryz.func44, Tryz.ntmps44
          go_wp2_with fail
          refine KT.mono ?_
          rintro _ wq ⟨rfl, hwq⟩
          rw [hwq]
          clear hwq wq KT
          go_wp2_with fail
          refine KW.mono ?_
          rintro _ w1 ⟨rfl, R1, t1⟩
          have M1 := hM.disk hj R1 t1
          have d2 : w1.cell? ⟨rb, 2, none⟩ = some (.int .i64 a.left) := M1.c2
          have d3 := M1.c3
          have e2 := M1.f2
          have e3 := M1.f3
          have M2 := (M1.setLeft hwf).setOff (decide (a.left - 1 = 0))
          have F2 : Hid (RaAt ((w1.setCell ⟨rb, 2, none⟩ (.int .i64 (a.left - 1))).setCell ⟨rb, 3, none⟩ (.bool (decide (a.left - 1 = 0)))) rb HR GA (tickA (setA a (j : Int) (wrS d ad p))) ∧ TurnG HR w ((w1.setCell ⟨rb, 2, none⟩ (.int .i64 (a.left - 1))).setCell ⟨rb, 3, none⟩ (.bool (decide (a.left - 1 = 0))))) := by
            rw [eT] at okS ⊢
            exact ⟨⟨xb, yb, cx, cy, rd, M2, okS⟩, ((hM.turnD hj t1).trans (setCell_turnG hM.hr)).trans (setCell_turnG hM.hr)⟩
          clear M1 M2 R1 t1 KW hM ok h0 okS c0 c3 x0 hp hd eT hwf wb hl
          go_wp2
          go_ret
          exact ⟨rfl, F2.out⟩
        · have hl' : ¬ a.left > 0 := hl
          have eT : tickA (setA a (j : Int) (wrS d ad p)) = setA a (j : Int) (wrS d ad p) := if_neg hl
          go_enter Tryz.func44, Tryz.ntmps44
          go_wp2_with fail
          refine KT.mono ?_
          rintro _ wq ⟨rfl, hwq⟩
          rw [hwq]
          clear hwq wq KT
          go_wp2_with fail
          refine KW.mono ?_
          rintro _ w1 ⟨rfl, R1, t1⟩
          have M1 := hM.disk hj R1 t1
          have d2 : w1.cell? ⟨rb, 2, none⟩ = some (.int .i64 a.left) := M1.c2
          have F2 : Hid (RaAt w1 rb HR GA (tickA (setA a (j : Int) (wrS d ad p))) ∧ TurnG HR w w1) := by
            rw [eT] at okS ⊢
            exact ⟨⟨xb, yb, cx, cy, rd, M1, okS⟩, hM.turnD hj t1⟩
          clear M1 R1 t1 KW hM ok h0 okS c0 c3 x0 hp hd eT hl
          go_wp2
          go_ret
          exact ⟨rfl, F2.out⟩
      · rw [if_neg hx]
        have eQ : wrS d ad p = d := wrS_no hx
        rw [eQ] at KW
        obtain ⟨x, hxx⟩ : ∃ x, x = wrX d ad p := ⟨_, rfl⟩
        rw [← hxx] at KW hx ⊢
        have q1 : (x == 0) = false := beq_eq_false_iff_ne.2 hx
        go_enter Tryz.func44, Tryz.ntmps44
        go_wp2_with fail
        refine KT.mono ?_
        rintro _ wq ⟨rfl, hwq⟩
        rw [hwq]
        clear hwq wq KT
        go_wp2_with fail
        refine KW.mono ?_
        rintro _ w1 ⟨rfl, R1, t1⟩
        have M1 := hM.disk hj R1 t1
        have F2 : Hid (RaAt w1 rb HR GA a ∧ TurnG HR w w1) := ⟨⟨xb, yb, cx, cy, rd, by
          have e2 : ({ a with D := a.D.set j d } : ArS) = a := by rw [hd]; exact setA_same hj
          rw [e2] at M1
          exact M1, ok⟩, hM.turnD hj t1⟩
        clear M1 R1 t1 KW hM ok h0 okS c0 c3 x0 hp hd hxx eQ
        go_wp2
        go_ret
        exact ⟨rfl, F2.out⟩
    · have KT := rthereA_any (i := i) c0 (decide_eq_false ht)
      rw [show wrAX a i ad p = 1 by unfold wrAX; rw [if_neg no, if_neg ht]]
      have FIN : Hid (RaAt w rb HR GA (wrAS a i ad p) ∧ TurnG HR w w) := staysR h0 (by unfold wrAS; rw [if_neg no, if_neg ht])
      clear h0 hM ok c0
      go_enter Tryz.func44, Tryz.ntmps44
      go_wp2_with fail
      refine KT.mono ?_
      rintro _ wq ⟨rfl, hwq⟩
      rw [hwq]
      clear hwq wq KT
      go_wp2
      go_ret
      exact ⟨rfl, FIN.out⟩
theorem rreadA_far (h : RaAt w rb HR GA a) {i ad : Int} :
    Calls Tryz.prog 46 #[.pointer (some ⟨rb, 0, none⟩), .int .i64 i, .int .i64 ad] w (TellsF w (rdAX a i ad) (rdAB a i ad)) := by
  obtain ⟨xb, yb, cx, cy, rd, hM, ok⟩ := h
  have c3 := hM.c3
  cases ho : a.off with
  | true =>
    rw [ho] at c3
    rw [show rdAX a i ad = 130 from if_pos ho, show rdAB a i ad = [] from if_pos ho]
    clear hM ok
    go_enter Tryz.func46, Tryz.ntmps46
    go_wp2
    refine bodyPost_ret (v := .tuple #[.slice none 0 0, .int .i64 130]) (by simp [results, Tryz.results46, go_sem]) rfl ?_
    exact ⟨_, rfl, Rd.nilR, FarV.nil _ _ _, Below.refl _ _⟩
  | false =>
    have no : ¬ a.off = true := by rw [ho]; simp
    have c0 := hM.c0
    rw [ho] at c3
    by_cases ht : thA a i
    · have KT := rthereA_any (i := i) c0 (decide_eq_true ht)
      rw [show rdAX a i ad = faX (diA a i) ad by unfold rdAX; rw [if_neg no, if_pos ht], show rdAB a i ad = rdB (diA a i) ad by unfold rdAB; rw [if_neg no, if_pos ht]]
      obtain ⟨j, rfl, hj⟩ := th_at ht
      have hj' : (j : Int) < (a.D.length : Int) := by omega
      have x0 := hM.x j hj
      obtain ⟨vl, vw, Tl, Tw, hI⟩ := hM.dk j hj
      have KR := rread_far hI (ok.each _ (di_mem (th_j hj))) (a := ad)
      rw [show diA a (j : Int) = a.D.getD j default from rfl]
      obtain ⟨x, hx⟩ : ∃ x, x = faX (a.D.getD j default) ad := ⟨_, rfl⟩
      obtain ⟨r, hr⟩ : ∃ r, r = rdB (a.D.getD j default) ad := ⟨_, rfl⟩
      rw [← hx, ← hr] at KR ⊢
      clear hM ok hx hr ht hI
      go_enter Tryz.func46, Tryz.ntmps46
      go_wp2_with fail
      refine KT.mono ?_
      rintro _ wq ⟨rfl, hwq⟩
      rw [hwq]
      clear hwq wq KT
      go_wp2_with fail
      refine KR.mono ?_
      rintro _ w1 ⟨v, rfl, O1, V1, B1⟩
      go_wp2
      refine bodyPost_ret (v := .tuple #[v, .int .i64 x]) (by simp [results, Tryz.results46, go_sem]) rfl ?_
      exact ⟨_, rfl, O1, V1, B1⟩
    · have KT := rthereA_any (i := i) c0 (decide_eq_false ht)
      rw [show rdAX a i ad = 1 by unfold rdAX; rw [if_neg no, if_neg ht], show rdAB a i ad = [] by unfold rdAB; rw [if_neg no, if_neg ht]]
      clear hM ok c0
      go_enter Tryz.func46, Tryz.ntmps46
      go_wp2_with fail
      refine KT.mono ?_
      rintro _ wq ⟨rfl, hwq⟩
      rw [hwq]
      clear hwq wq KT
      go_wp2
      refine bodyPost_ret (v := .tuple #[.slice none 0 0, .int .i64 1]) (by simp [results, Tryz.results46, go_sem]) rfl ?_
      exact ⟨_, rfl, Rd.nilR, FarV.nil _ _ _, Below.refl _ _⟩
theorem rreadA_any (h : RaAt w rb HR GA a) {i ad : Int} :
    Calls Tryz.prog 46 #[.pointer (some ⟨rb, 0, none⟩), .int .i64 i, .int .i64 ad] w (TellsR w (rdAX a i ad) (rdAB a i ad)) := (rreadA_far h).mono fun _ _ h => h.r
end
end Go.Proofs.YtgahaebfgmbckaaGreat.Gf

namespace Go.Proofs.YtgahaebfgmbckaaGreat.Gf
set_option linter.unusedVariables false
set_option linter.unusedSimpArgs false
open Go.RowKit
open Go.ChangeShapes
section
variable {H : Type} {enc : TypeId × Value → H} {P : Program} {w : World} {base : Nat} {held : Bool}
/-- the cells of a call on an array -/
theorem open_acell {t sb ss si : TypeId} {f0 f1 f2 f3 f4 f5 f6 : Field} {fuel : Nat} {cs : List Value} {x : DataW H × List MemPlace} (he : P.underlying t = some (.struct #[f0, f1, f2, f3, f4, f5, f6])) (ce : P.cellsOf t = 7)
    (o0 : f0.offset = 0) (o1 : f1.offset = 1) (o2 : f2.offset = 2) (o3 : f3.offset = 3) (o4 : f4.offset = 4) (o5 : f5.offset = 5) (o6 : f6.offset = 6)
    (t0 : P.underlying f0.type = some (.int .i64)) (t1 : P.underlying f1.type = some (.int .i64)) (t2 : P.underlying f2.type = some (.int .i64)) (t3 : P.underlying f3.type = some (.int .i64)) (t4 : P.underlying f4.type = some (.int .u8)) (t5 : P.underlying f5.type = some (.slice sb)) (t6 : P.underlying f6.type = some (.slice ss))
    (tb : P.underlying sb = some (.int .u8)) (ts : P.underlying ss = some (.slice si)) (ti : P.underlying si = some (.int .i64)) (cb : P.cellsOf sb = 1) (cs1 : P.cellsOf ss = 1) (ci : P.cellsOf si = 1)
    (n0 : P.cellsOf f0.type = 1) (n1 : P.cellsOf f1.type = 1) (n2 : P.cellsOf f2.type = 1) (n3 : P.cellsOf f3.type = 1) (n4 : P.cellsOf f4.type = 1) (n5 : P.cellsOf f5.type = 1) (n6 : P.cellsOf f6.type = 1)
    (hf : DataW.trod enc P w base (fun _ => true) held fuel t cs = some x) : ∃ c : CallA, cs = [.int .i64 c.kind, .int .i64 c.d, .int .i64 c.n, .int .i64 c.m, .int .u8 ((c.by8.toNat : Nat) : Int), c.vb, c.vk] ∧ CallV w c := by
  obtain ⟨xs, n', _, _, hlen, hxl, hfd⟩ := DataW.trod_struct he hf
  rw [ce] at hlen
  obtain ⟨v0, v1, v2, v3, v4, v5, v6, rfl⟩ := seven hlen
  have hxl' : xs.length = 7 := hxl
  have g : ∀ k, k < 7 → ∃ y, xs[k]? = some y := fun k hk => ⟨xs[k], List.getElem?_eq_getElem (by omega)⟩
  obtain ⟨y0, e0⟩ := g 0 (by omega)
  obtain ⟨y1, e1⟩ := g 1 (by omega)
  obtain ⟨y2, e2⟩ := g 2 (by omega)
  obtain ⟨y3, e3⟩ := g 3 (by omega)
  obtain ⟨y4, e4⟩ := g 4 (by omega)
  obtain ⟨y5, e5⟩ := g 5 (by omega)
  obtain ⟨y6, e6⟩ := g 6 (by omega)
  have q0 := hfd 0 f0 rfl
  have q1 := hfd 1 f1 rfl
  have q2 := hfd 2 f2 rfl
  have q3 := hfd 3 f3 rfl
  have q4 := hfd 4 f4 rfl
  have q5 := hfd 5 f5 rfl
  have q6 := hfd 6 f6 rfl
  rw [o0, n0, e0] at q0
  rw [o1, n1, e1] at q1
  rw [o2, n2, e2] at q2
  rw [o3, n3, e3] at q3
  rw [o4, n4, e4] at q4
  rw [o5, n5, e5] at q5
  rw [o6, n6, e6] at q6
  obtain ⟨z0, r0, _, w0⟩ := DataW.trod_int t0 q0
  obtain ⟨z1, r1, _, w1⟩ := DataW.trod_int t1 q1
  obtain ⟨z2, r2, _, w2⟩ := DataW.trod_int t2 q2
  obtain ⟨z3, r3, _, w3⟩ := DataW.trod_int t3 q3
  obtain ⟨z4, r4, _, w4⟩ := DataW.trod_int t4 q4
  simp at r0 r1 r2 r3 r4
  subst r0 r1 r2 r3 r4
  have b4 := bounds_u8 w4
  obtain ⟨pb, hvb⟩ : ∃ pb, Rd w v5 pb := by
    rcases open_ints t5 tb cb q5 with ⟨hcs, _⟩ | ⟨x4, l4, c4, zs, hcs, _, hl4, hm4, hz, _, hcell, hwz⟩
    · simp at hcs
      subst hcs
      obtain ⟨p, _, hp⟩ := rd_row (w := w) (a := none) (len := 0) (cap := 0) (zs := []) (Or.inl ⟨rfl, rfl, rfl, rfl⟩)
      exact ⟨p, hp⟩
    · simp at hcs
      subst hcs
      obtain ⟨p, _, hp⟩ := rd_row (w := w) (a := some x4) (len := l4) (cap := c4) (zs := zs) (Or.inr ⟨x4, rfl, hl4, hm4, by simpa using hz, hcell, hwz⟩)
      exact ⟨p, hp⟩
  obtain ⟨ra, rl, rc, Lk, hcs, _, hvk⟩ := open_rows t6 ts ti ci cs1 q6
  simp at hcs
  subst hcs
  refine ⟨⟨z0, z1, z2, z3, UInt8.ofNat z4.toNat, v5, _, pb, Lk⟩, ?_, w0, w1, w2, w3, hvb, hvk⟩
  have e : (((UInt8.ofNat z4.toNat).toNat : Nat) : Int) = z4 := by rw [ofNat_u8 (by omega)]; omega
  show _ = [Value.int .i64 z0, .int .i64 z1, .int .i64 z2, .int .i64 z3, .int .u8 (((UInt8.ofNat z4.toNat).toNat : Nat) : Int), v5, _]
  rw [e]
end
end Go.Proofs.YtgahaebfgmbckaaGreat.Gf
