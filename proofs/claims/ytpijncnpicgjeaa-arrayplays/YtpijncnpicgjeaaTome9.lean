/- TEXTS JOINED: ArRA, ArCC, ArRB, ArCD. -/
import Derived.Test.YtpijncnpicgjeaaTome7
import Derived.Test.YtpijncnpicgjeaaTome8
import Derived.Deep.OwnRows
/-
  THE DOCUMENT's ARRAY BY CONTRACT (package aumbryref13): there, CrashAfter, Write, Read.
-/


namespace Go.Proofs.Ytpijncnpicgjeaa.Gf
set_option linter.unusedVariables false
set_option linter.unusedSimpArgs false
open Go.RowKit

section
variable {w : World} {rb : Nat} {HR GA : Nat → Prop} {a : ArS}
theorem rthere_any {xb n c : Nat} (c0 : w.cell? ⟨rb, 0, none⟩ = some (.slice (some ⟨xb, 0, none⟩) n c)) {i : Int} {x : Bool} (hx : decide (0 ≤ i ∧ i < (n : Int)) = x) : Calls Try.prog 58 #[.pointer (some ⟨rb, 0, none⟩), .int .i64 i] w fun e w' => e = .returned (.bool x) ∧ w' = w := by
  by_cases h0 : i ≥ 0
  · by_cases h1 : i < (n : Int)
    · rw [decide_eq_true ⟨h0, h1⟩] at hx
      subst hx
      go_enter Try.func58, Try.ntmps58
      go_wp2
      go_ret
      exact ⟨rfl, rfl⟩
    · rw [decide_eq_false (fun h => h1 h.2)] at hx
      subst hx
      go_enter Try.func58, Try.ntmps58
      go_wp2
      go_ret
      exact ⟨rfl, rfl⟩
  · rw [decide_eq_false (fun h => h0 h.1)] at hx
    subst hx
    go_enter Try.func58, Try.ntmps58
    go_wp2
    go_ret
    exact ⟨rfl, rfl⟩
theorem Rd.nilR {w : World} : Rd w (.slice none 0 0) [] := by
  obtain ⟨p, e, hp⟩ := rd_row (w := w) (a := none) (len := 0) (cap := 0) (zs := []) (Or.inl ⟨rfl, rfl, rfl, rfl⟩)
  have : p = [] := List.length_eq_zero_iff.1 (by simpa using e.symm)
  rw [this] at hp
  exact hp
theorem staysR {a' : ArS} (h : RaAt w rb HR GA a) (e : a' = a) : RaAt w rb HR GA a' ∧ TurnG HR w w := ⟨by rw [e]; exact h, TurnG.refl _ _⟩
theorem rafter_any (h : RaAt w rb HR GA a) {n : Int} (hn : (Lit.int .i64 n).wf = true) : Calls Try.prog 38 #[.pointer (some ⟨rb, 0, none⟩), .int .i64 n] w (LeavesRA w rb HR GA (caA a n) (.tuple #[])) := by
  have h0 := h
  obtain ⟨xb, yb, cx, cy, rd, h, ok⟩ := h
  have c2 := h.c2
  have c3 := h.c3
  have f2 := h.f2
  have f3 := h.f3
  cases ho : a.off with
  | true =>
    have FIN : Hid (RaAt w rb HR GA (caA a n) ∧ TurnG HR w w) := staysR h0 (if_pos ho)
    rw [ho] at c3
    clear h ok h0
    go_enter Try.func38, Try.ntmps38
    go_wp2
    refine bodyPost_ret (v := .tuple #[]) (by simp [results, Try.results38, go_sem]) rfl ?_
    exact ⟨rfl, FIN.out⟩
  | false =>
    have eT : caA a n = { { a with left := if 0 ≤ n then n else -1 } with off := decide (n = 0) } := if_neg (by rw [ho]; simp)
    have ok2 := caA_ok ok n
    rw [eT] at ok2
    rw [ho] at c3
    have q2 : (n == 0) = decide (n = 0) := by by_cases e : n = 0 <;> simp [e]
    have M1 := h.setLeft (l := -1) (by decide)
    have t1 : TurnG HR w (w.setCell ⟨rb, 2, none⟩ (.int .i64 (-1))) := setCell_turnG h.hr
    by_cases hge : n ≥ 0
    · have M2 := (M1.setLeft (l := n) hn).setOff (decide (n = 0))
      have FIN : Hid (RaAt (((w.setCell ⟨rb, 2, none⟩ (.int .i64 (-1))).setCell ⟨rb, 2, none⟩ (.int .i64 n)).setCell ⟨rb, 3, none⟩ (.bool (decide (n = 0)))) rb HR GA (caA a n) ∧ TurnG HR w (((w.setCell ⟨rb, 2, none⟩ (.int .i64 (-1))).setCell ⟨rb, 2, none⟩ (.int .i64 n)).setCell ⟨rb, 3, none⟩ (.bool (decide (n = 0))))) := by
        rw [eT]
        rw [if_pos hge] at ok2 ⊢
        exact ⟨⟨xb, yb, cx, cy, rd, M2, ok2⟩, (t1.trans (setCell_turnG h.hr)).trans (setCell_turnG h.hr)⟩
      clear M1 M2 eT h ok ok2 h0 t1
      go_enter Try.func38, Try.ntmps38
      go_wp2
      go_end0
      exact ⟨rfl, FIN.out⟩
    · have M2 := M1.setOff (decide (n = 0))
      have FIN : Hid (RaAt ((w.setCell ⟨rb, 2, none⟩ (.int .i64 (-1))).setCell ⟨rb, 3, none⟩ (.bool (decide (n = 0)))) rb HR GA (caA a n) ∧ TurnG HR w ((w.setCell ⟨rb, 2, none⟩ (.int .i64 (-1))).setCell ⟨rb, 3, none⟩ (.bool (decide (n = 0))))) := by
        rw [eT]
        rw [if_neg hge] at ok2 ⊢
        exact ⟨⟨xb, yb, cx, cy, rd, M2, ok2⟩, t1.trans (setCell_turnG h.hr)⟩
      clear M1 M2 eT h ok ok2 h0 t1
      go_enter Try.func38, Try.ntmps38
      go_wp2
      go_end0
      exact ⟨rfl, FIN.out⟩
set_option maxRecDepth 100000 in
theorem rwriteA_any (h : RaAt w rb HR GA a) {i ad : Int} {v : Value} {p : List UInt8} (hp : Rd w v p) :
    Calls Try.prog 34 #[.pointer (some ⟨rb, 0, none⟩), .int .i64 i, .int .i64 ad, v] w (LeavesRA w rb HR GA (wrAS a i ad p) (.int .i64 (wrAX a i ad p))) := by
  have h0 := h
  obtain ⟨xb, yb, cx, cy, rd, hM, ok⟩ := h
  obtain ⟨va, vc, rfl⟩ := hp.form
  have c3 := hM.c3
  cases ho : a.off with
  | true =>
    rw [ho] at c3
    rw [show wrAX a i ad p = 130 from if_pos ho]
    have FIN : Hid (RaAt w rb HR GA (wrAS a i ad p) ∧ TurnG HR w w) := staysR h0 (if_pos ho)
    clear h0 hM ok
    go_enter Try.func34, Try.ntmps34
    go_wp2
    go_ret
    exact ⟨rfl, FIN.out⟩
  | false =>
    have no : ¬ a.off = true := by rw [ho]; simp
    have c0 := hM.c0
    rw [ho] at c3
    by_cases ht : thA a i
    · have KT := rthere_any (i := i) c0 (decide_eq_true ht)
      have eX : wrAX a i ad p = wrX (diA a i) ad p := by unfold wrAX; rw [if_neg no, if_pos ht]
      have eS : wrAS a i ad p = if wrX (diA a i) ad p = 0 then tickA (setA a i (wrS (diA a i) ad p)) else a := by unfold wrAS; rw [if_neg no, if_pos ht]
      have okS := wrAS_ok ok i ad p
      obtain ⟨j, rfl, hj⟩ := th_at ht
      have hj' : (j : Int) < (a.D.length : Int) := by omega
      have x0 := hM.x j hj
      obtain ⟨vl, vw, Tl, Tw, hI⟩ := hM.dk j hj
      have KW := rwrite_any hI (a := ad) hp
      rw [eX, eS]
      rw [eS] at okS
      rw [show diA a (j : Int) = a.D.getD j default from rfl] at okS ⊢
      clear eX eS hI
      obtain ⟨d, hd⟩ : ∃ d, d = a.D.getD j default := ⟨_, rfl⟩
      rw [← hd] at KW okS ⊢
      by_cases hx : wrX d ad p = 0
      · rw [hx] at KW ⊢
        rw [if_pos rfl]
        rw [hx, if_pos rfl] at okS
        by_cases hl : 0 < a.left
        · have hl' : a.left > 0 := hl
          have wb := bounds_i64 hM.wl
          have hwf : (Lit.int .i64 (a.left - 1)).wf = true := by simp [Lit.wf, IntKind.min, IntKind.max, IntKind.signed, IntKind.bits]; omega
          have gl : IntKind.i64.wrap (a.left - 1) = a.left - 1 := by rw [IntKind.wrap_i64]; omega
          have q2 : (a.left - 1 == 0) = decide (a.left - 1 = 0) := by by_cases e : a.left - 1 = 0 <;> simp [e]
          have eT : tickA (setA a (j : Int) (wrS d ad p)) = { { setA a (j : Int) (wrS d ad p) with left := a.left - 1 } with off := decide (a.left - 1 = 0) } := if_pos hl
          go_enter Try.func34, Try.ntmps34
          go_wp2_with fail
          refine KT.mono ?_
          rintro _ wq ⟨rfl, hwq⟩
          rw [hwq]
          clear hwq wq KT
          go_wp2_with fail
          refine KW.mono ?_
          rintro _ w1 ⟨rfl, R1, t1⟩
          have M1 := hM.disk hj R1 t1
          have d2 : w1.cell? ⟨rb, 2, none⟩ = some (.int .i64 a.left) := M1.c2
          have d3 := M1.c3
          have e2 := M1.f2
          have e3 := M1.f3
          have M2 := (M1.setLeft hwf).setOff (decide (a.left - 1 = 0))
          have F2 : Hid (RaAt ((w1.setCell ⟨rb, 2, none⟩ (.int .i64 (a.left - 1))).setCell ⟨rb, 3, none⟩ (.bool (decide (a.left - 1 = 0)))) rb HR GA (tickA (setA a (j : Int) (wrS d ad p))) ∧ TurnG HR w ((w1.setCell ⟨rb, 2, none⟩ (.int .i64 (a.left - 1))).setCell ⟨rb, 3, none⟩ (.bool (decide (a.left - 1 = 0))))) := by
            rw [eT] at okS ⊢
            exact ⟨⟨xb, yb, cx, cy, rd, M2, okS⟩, ((hM.turnD hj t1).trans (setCell_turnG hM.hr)).trans (setCell_turnG hM.hr)⟩
          clear M1 M2 R1 t1 KW hM ok h0 okS c0 c3 x0 hp hd eT hwf wb hl
          go_wp2
          go_ret
          exact ⟨rfl, F2.out⟩
        · have hl' : ¬ a.left > 0 := hl
          have eT : tickA (setA a (j : Int) (wrS d ad p)) = setA a (j : Int) (wrS d ad p) := if_neg hl
          go_enter Try.func34, Try.ntmps34
          go_wp2_with fail
          refine KT.mono ?_
          rintro _ wq ⟨rfl, hwq⟩
          rw [hwq]
          clear hwq wq KT
          go_wp2_with fail
          refine KW.mono ?_
          rintro _ w1 ⟨rfl, R1, t1⟩
          have M1 := hM.disk hj R1 t1
          have d2 : w1.cell? ⟨rb, 2, none⟩ = some (.int .i64 a.left) := M1.c2
          have F2 : Hid (RaAt w1 rb HR GA (tickA (setA a (j : Int) (wrS d ad p))) ∧ TurnG HR w w1) := by
            rw [eT] at okS ⊢
            exact ⟨⟨xb, yb, cx, cy, rd, M1, okS⟩, hM.turnD hj t1⟩
          clear M1 R1 t1 KW hM ok h0 okS c0 c3 x0 hp hd eT hl
          go_wp2
          go_ret
          exact ⟨rfl, F2.out⟩
      · rw [if_neg hx]
        have eQ : wrS d ad p = d := wrS_no hx
        rw [eQ] at KW
        obtain ⟨x, hxx⟩ : ∃ x, x = wrX d ad p := ⟨_, rfl⟩
        rw [← hxx] at KW hx ⊢
        have q1 : (x == 0) = false := beq_eq_false_iff_ne.2 hx
        go_enter Try.func34, Try.ntmps34
        go_wp2_with fail
        refine KT.mono ?_
        rintro _ wq ⟨rfl, hwq⟩
        rw [hwq]
        clear hwq wq KT
        go_wp2_with fail
        refine KW.mono ?_
        rintro _ w1 ⟨rfl, R1, t1⟩
        have M1 := hM.disk hj R1 t1
        have F2 : Hid (RaAt w1 rb HR GA a ∧ TurnG HR w w1) := ⟨⟨xb, yb, cx, cy, rd, by
          have e2 : ({ a with D := a.D.set j d } : ArS) = a := by rw [hd]; exact setA_same hj
          rw [e2] at M1
          exact M1, ok⟩, hM.turnD hj t1⟩
        clear M1 R1 t1 KW hM ok h0 okS c0 c3 x0 hp hd hxx eQ
        go_wp2
        go_ret
        exact ⟨rfl, F2.out⟩
    · have KT := rthere_any (i := i) c0 (decide_eq_false ht)
      rw [show wrAX a i ad p = 1 by unfold wrAX; rw [if_neg no, if_neg ht]]
      have FIN : Hid (RaAt w rb HR GA (wrAS a i ad p) ∧ TurnG HR w w) := staysR h0 (by unfold wrAS; rw [if_neg no, if_neg ht])
      clear h0 hM ok c0
      go_enter Try.func34, Try.ntmps34
      go_wp2_with fail
      refine KT.mono ?_
      rintro _ wq ⟨rfl, hwq⟩
      rw [hwq]
      clear hwq wq KT
      go_wp2
      go_ret
      exact ⟨rfl, FIN.out⟩
theorem rreadA_any (h : RaAt w rb HR GA a) {i ad : Int} :
    Calls Try.prog 35 #[.pointer (some ⟨rb, 0, none⟩), .int .i64 i, .int .i64 ad] w (TellsR w (rdAX a i ad) (rdAB a i ad)) := by
  obtain ⟨xb, yb, cx, cy, rd, hM, ok⟩ := h
  have c3 := hM.c3
  cases ho : a.off with
  | true =>
    rw [ho] at c3
    rw [show rdAX a i ad = 130 from if_pos ho, show rdAB a i ad = [] from if_pos ho]
    clear hM ok
    go_enter Try.func35, Try.ntmps35
    go_wp2
    refine bodyPost_ret (v := .tuple #[.slice none 0 0, .int .i64 130]) (by simp [results, Try.results35, go_sem]) rfl ?_
    exact ⟨_, rfl, Rd.nilR, Below.refl _ _⟩
  | false =>
    have no : ¬ a.off = true := by rw [ho]; simp
    have c0 := hM.c0
    rw [ho] at c3
    by_cases ht : thA a i
    · have KT := rthere_any (i := i) c0 (decide_eq_true ht)
      rw [show rdAX a i ad = faX (diA a i) ad by unfold rdAX; rw [if_neg no, if_pos ht], show rdAB a i ad = rdB (diA a i) ad by unfold rdAB; rw [if_neg no, if_pos ht]]
      obtain ⟨j, rfl, hj⟩ := th_at ht
      have hj' : (j : Int) < (a.D.length : Int) := by omega
      have x0 := hM.x j hj
      obtain ⟨vl, vw, Tl, Tw, hI⟩ := hM.dk j hj
      have KR := rread_any hI (ok.each _ (di_mem (th_j hj))) (a := ad)
      rw [show diA a (j : Int) = a.D.getD j default from rfl]
      obtain ⟨x, hx⟩ : ∃ x, x = faX (a.D.getD j default) ad := ⟨_, rfl⟩
      obtain ⟨r, hr⟩ : ∃ r, r = rdB (a.D.getD j default) ad := ⟨_, rfl⟩
      rw [← hx, ← hr] at KR ⊢
      clear hM ok hx hr ht hI
      go_enter Try.func35, Try.ntmps35
      go_wp2_with fail
      refine KT.mono ?_
      rintro _ wq ⟨rfl, hwq⟩
      rw [hwq]
      clear hwq wq KT
      go_wp2_with fail
      refine KR.mono ?_
      rintro _ w1 ⟨v, rfl, O1, B1⟩
      go_wp2
      refine bodyPost_ret (v := .tuple #[v, .int .i64 x]) (by simp [results, Try.results35, go_sem]) rfl ?_
      exact ⟨_, rfl, O1, B1⟩
    · have KT := rthere_any (i := i) c0 (decide_eq_false ht)
      rw [show rdAX a i ad = 1 by unfold rdAX; rw [if_neg no, if_neg ht], show rdAB a i ad = [] by unfold rdAB; rw [if_neg no, if_neg ht]]
      clear hM ok c0
      go_enter Try.func35, Try.ntmps35
      go_wp2_with fail
      refine KT.mono ?_
      rintro _ wq ⟨rfl, hwq⟩
      rw [hwq]
      clear hwq wq KT
      go_wp2
      refine bodyPost_ret (v := .tuple #[.slice none 0 0, .int .i64 1]) (by simp [results, Try.results35, go_sem]) rfl ?_
      exact ⟨_, rfl, Rd.nilR, Below.refl _ _⟩
end
end Go.Proofs.Ytpijncnpicgjeaa.Gf

/-
  THE PROGRAM's ARRAY BY CONTRACT (package array): Flush, Restart.
-/

namespace Go.Proofs.Ytpijncnpicgjeaa.Gf
set_option linter.unusedVariables false
set_option linter.unusedSimpArgs false
open Go.RowKit

section
variable {w : World} {ab : Nat} {GA : Nat → Prop} {a : ArS}
theorem aflush_off (h : ArAt w ab GA a) (ho : a.off = true) : Calls Try.prog 18 #[.pointer (some ⟨ab, 0, none⟩)] w (LeavesA w ab GA (flAS a) (.int .i64 (flAX a))) := by
  have h0 := h
  obtain ⟨mb, db, GD, hM, ok⟩ := h
  have c2 := hM.c2
  rw [ho] at c2
  have K := aref_any c2
  simp only [if_true] at K
  rw [show flAX a = 130 from if_pos ho]
  have FIN : Hid (∃ GA', ArAt w ab GA' (flAS a) ∧ Grew GA w GA' w) := stays h0 (if_pos ho)
  clear h0 hM ok c2
  go_enter Try.func18, Try.ntmps18
  go_wp2_with fail
  refine K.mono ?_
  rintro _ wq ⟨rfl, hwq⟩
  rw [hwq]
  clear hwq wq K
  go_wp2
  go_ret
  exact ⟨rfl, FIN.out⟩
theorem aflush_nil : Calls Try.prog 18 #[.pointer none] w fun e w' => e = .returned (.int .i64 1) ∧ w' = w := by
  have K := @aref_nil w
  go_enter Try.func18, Try.ntmps18
  go_wp2_with fail
  refine K.mono ?_
  rintro _ wq ⟨rfl, hwq⟩
  rw [hwq]
  clear hwq wq K
  go_wp2
  go_ret
  exact ⟨rfl, rfl⟩
/-- the first k disks changed by a function -/
def firstF (f : Nat → DkS → DkS) (L : List DkS) (k : Nat) : List DkS := L.mapIdx fun i d => if i < k then f i d else d
section
variable {f : Nat → DkS → DkS} {L : List DkS} {k : Nat}
theorem firstF_len : (firstF f L k).length = L.length := by simp [firstF]
theorem firstF_zero : firstF f L 0 = L := by
  unfold firstF
  apply List.ext_getElem (by simp)
  intro i h1 h2
  simp
theorem firstF_all : firstF f L L.length = L.mapIdx f := by
  unfold firstF
  apply List.ext_getElem (by simp)
  intro i h1 h2
  have : i < L.length := by simpa using h1
  simp [this]
theorem firstF_at (hk : k < L.length) : (firstF f L k).getD k default = L.getD k default := by simp [firstF, List.getD, hk]
theorem firstF_succ (hk : k < L.length) : (firstF f L k).set k (f k (L.getD k default)) = firstF f L (k + 1) := by
  unfold firstF
  apply List.ext_getElem (by simp)
  intro i h1 h2
  have h3 : i < L.length := by simpa using h1
  simp only [List.getElem_set, List.getElem_mapIdx]
  by_cases e : k = i
  · subst e
    simp [List.getD, h3]
  · rw [if_neg e]
    by_cases e2 : i < k
    · rw [if_pos e2, if_pos (by omega)]
    · rw [if_neg e2, if_neg (by omega)]
end
theorem aflush_on (h : ArAt w ab GA a) (ho : a.off = false) : Calls Try.prog 18 #[.pointer (some ⟨ab, 0, none⟩)] w (LeavesA w ab GA (flAS a) (.int .i64 (flAX a))) := by
  have h0 := h
  obtain ⟨mb, db, GD, hM, ok⟩ := h
  have c0 := hM.c0
  have c2 := hM.c2
  rw [ho] at c2
  have K := aref_any c2
  simp only [Bool.false_eq_true, if_false] at K
  have no : ¬ a.off = true := by rw [ho]; simp
  rw [show flAX a = 0 from if_neg no]
  have okS := flAS_ok ok
  have eS : flAS a = { a with D := a.D.mapIdx (fun _ d => flS d) } := by
    unfold flAS
    rw [if_neg no]
    congr 1
    apply List.ext_getElem (by simp)
    intro i h1 h2
    simp
  have START : Hid (∃ GD' GA', ArM w ab mb db GD' GA' { a with D := firstF (fun _ d => flS d) a.D 0 } ∧ Grew GA w GA' w) := ⟨GD, GA, by rw [firstF_zero]; exact hM, Grew.refl _ _⟩
  have FINI : Hid (∀ wr GD' GA', ArM wr ab mb db GD' GA' { a with D := firstF (fun _ d => flS d) a.D a.D.length } → Grew GA w GA' wr → ∃ GA', ArAt wr ab GA' (flAS a) ∧ Grew GA w GA' wr) := fun wr GD' GA' hM' g' => by
    rw [firstF_all] at hM'
    exact ⟨GA', ⟨mb, db, GD', by rw [eS]; exact hM', okS⟩, g'⟩
  clear h0 hM ok c2 eS okS
  go_enter Try.func18, Try.ntmps18
  go_wp2_with fail
  refine K.mono ?_
  rintro _ wq ⟨rfl, hwq⟩
  rw [hwq]
  clear hwq wq K
  go_wp2
  go_loopw [16] (fun i wr => ∃ k : Nat, k ≤ a.D.length ∧ i = .int .i64 (k : Int) ∧ ∃ GD' GA', ArM wr ab mb db GD' GA' { a with D := firstF (fun _ d => flS d) a.D k } ∧ Grew GA w GA' wr) (fun i _ => a.D.length - (intOf i).toNat)
  case atStart => exact ⟨0, Nat.zero_le _, rfl, START.out⟩
  case round =>
    clear START
    obtain ⟨k, hk, rfl, GD', GA', hM, hg⟩ := hrel
    by_cases hlt : k < a.D.length
    · have hlt' : (k : Int) < (a.D.length : Int) := by omega
      have g1 : IntKind.i64.wrap ((k : Int) + 1) = ((k + 1 : Nat) : Int) := by rw [IntKind.wrap_i64]; have := hM.d2; have e : ({ a with D := firstF (fun _ d => flS d) a.D k } : ArS).D.length = a.D.length := firstF_len; omega
      have hk2 : k < (firstF (fun _ d => flS d) a.D k).length := by rw [firstF_len]; exact hlt
      have m0 := hM.m0 k hk2
      have m1 := hM.m1 k hk2
      have dk : DiskAt wr (db k) (GD' k) ((firstF (fun _ d => flS d) a.D k).getD k default) := hM.dk k hk2
      have hsu : (firstF (fun _ d => flS d) a.D k).set k (flS (a.D.getD k default)) = firstF (fun _ d => flS d) a.D (k + 1) := firstF_succ (f := fun _ d => flS d) hlt
      rw [firstF_at hlt] at dk
      obtain ⟨d, hd⟩ : ∃ d, d = a.D.getD k default := ⟨_, rfl⟩
      rw [← hd] at dk hsu
      obtain ⟨z, hz⟩ : ∃ z, z = (({ a with D := firstF (fun _ d => flS d) a.D k } : ArS).B.getD k 0) := ⟨_, rfl⟩
      rw [← hz] at m1
      have KD := fun o => @ddead_any (wr.alloc o) (db k) d.dead (dk.below (belA wr o)).dead
      cases hdd : d.dead with
      | true =>
        have E2 : Hid (∀ o, ∃ GD' GA', ArM (wr.alloc o) ab mb db GD' GA' { a with D := firstF (fun _ d => flS d) a.D (k + 1) } ∧ Grew GA w GA' (wr.alloc o)) := by
          intro o
          refine ⟨GD', GA', ?_, hg.trans (Grew.of_below (belA wr o))⟩
          rw [← hsu, show flS d = d from if_pos hdd, hd, ← firstF_at (f := fun _ d => flS d) hlt, set_self _ _ _ hk2]
          exact hM.below (belA wr o)
        rw [hdd] at KD
        clear hM hg dk hsu hd hz hk2
        go_wp2_with fail
        refine (KD _).mono ?_
        rintro _ wq ⟨rfl, hwq⟩
        rw [hwq]
        clear hwq wq KD
        go_wp2
        go_roundw
        case rel => exact ⟨k + 1, by omega, by go_num, E2.out _⟩
        case measure => simp [intOf]; omega
      | false =>
        rw [hdd] at KD
        have KF := fun o => dflush_any (dk.below (belA wr o))
        have HM := fun o => hM.below (belA wr o)
        clear hz
        go_wp2_with fail
        refine (KD _).mono ?_
        rintro _ wq ⟨rfl, hwq⟩
        rw [hwq]
        clear hwq wq KD
        go_wp2_with fail
        refine (KF _).mono ?_
        rintro _ w1 ⟨rfl, G1, D1, gr1⟩
        obtain ⟨M1, gg1⟩ := (HM _).disk hk2 D1 gr1
        have E2 : Hid (∃ GD' GA', ArM w1 ab mb db GD' GA' { a with D := firstF (fun _ d => flS d) a.D (k + 1) } ∧ Grew GA w GA' w1) := by
          rw [← hsu]
          exact ⟨_, _, M1, (hg.trans (Grew.of_below (belA wr _))).trans gg1⟩
        clear hM hg dk hsu hd hk2 M1 gg1 D1 gr1 KF HM
        go_wp2
        go_roundw
        case rel => exact ⟨k + 1, by omega, by go_num, E2.out⟩
        case measure => simp [intOf]; omega
    · have hlt' : ¬ (k : Int) < (a.D.length : Int) := by omega
      have hkn : k = a.D.length := by omega
      rw [hkn] at hM
      have E2 : Hid (∃ GA', ArAt wr ab GA' (flAS a) ∧ Grew GA w GA' wr) := FINI.out wr GD' GA' hM hg
      clear hM hg FINI
      go_wp2
      go_ret
      exact ⟨rfl, E2.out⟩
theorem aflush_any (h : ArAt w ab GA a) : Calls Try.prog 18 #[.pointer (some ⟨ab, 0, none⟩)] w (LeavesA w ab GA (flAS a) (.int .i64 (flAX a))) := by
  cases ho : a.off with
  | true => exact aflush_off h ho
  | false => exact aflush_on h ho
theorem arestart_nil {v : Value} : Calls Try.prog 22 #[.pointer none, v] w fun e w' => e = .returned (.tuple #[]) ∧ w' = w := by
  go_enter Try.func22, Try.ntmps22
  go_wp2
  refine bodyPost_ret (v := .tuple #[]) (by simp [results, Try.results22, go_sem]) rfl ?_
  exact ⟨rfl, rfl⟩
theorem RdI.lay {w : World} {v : Value} {p : List Int} (h : RdI w v p) {x : Addr} {n c : Nat} (e : v = .slice (some x) n c) : n = 0 ∨ x.block < w.heap.size := by
  rcases h with ⟨a, c', _, e2⟩ | ⟨b, off, cap, h1, h2, h3, h5, h6⟩
  · subst e2; simp at e; exact Or.inl e.2.1.symm
  · subst h2; simp at e; obtain ⟨rfl, rfl, rfl⟩ := e; exact Or.inr h5
theorem ApartG.grewI {G G' : Nat → Prop} {w w' : World} {v : Value} {p : List Int} (ha : ApartG G v) (h : RdI w v p) (g : Grew G w G' w') : ApartG G' v := by
  intro x n c e
  rcases ha x n c e with h1 | h1
  · exact Or.inl h1
  · rcases h.lay e with h2 | h2
    · exact Or.inl h2
    · exact Or.inr (g.off h2 h1)
theorem RdI.turnG {G : Nat → Prop} {w w' : World} {v : Value} {p : List Int} (h : RdI w v p) (ha : ApartG G v) (ho : TurnG G w w') : RdI w' v p := by
  rcases h with h | ⟨b, off, cap, h1, h2, h3, h5, h6⟩
  · exact Or.inl h
  · have hb : ¬ G b := by
      rcases ha _ _ _ h2 with e | e
      · exact absurd (List.length_eq_zero_iff.1 e) h1
      · exact e
    exact Or.inr ⟨b, off, cap, h1, h2, h3, Nat.lt_of_lt_of_le h5 ho.size, fun i hi => (ho.cell (p := ⟨b, off + i, none⟩) h5 hb).trans (h6 i hi)⟩
/-- rows of integers that lie in none of the blocks -/
structure ToldII (w : World) (G : Nat → Prop) (v : Value) (K : List VI) : Prop where
  rd : RdII w v K
  ap : ApartG G v
  each : ∀ r ∈ K, ApartG G r.1
theorem VI_mem {K : List VI} {k : Nat} (hk : k < K.length) : K.getD k default ∈ K := by
  rw [show K.getD k default = K[k] by simp [List.getD, hk]]
  exact List.getElem_mem hk
theorem VI_ex {K : List VI} {r : VI} (h : r ∈ K) : ∃ k, k < K.length ∧ K.getD k default = r := by
  obtain ⟨i, hi, e⟩ := List.getElem_of_mem h
  exact ⟨i, hi, by rw [← e]; simp [List.getD, hi]⟩
theorem ToldII.below {G : Nat → Prop} {w w' : World} {v : Value} {K : List VI} (h : ToldII w G v K) (hb : Below w.heap.size w w') : ToldII w' G v K := ⟨h.rd.below hb, h.ap, h.each⟩
theorem ToldII.grew {G G' : Nat → Prop} {w w' : World} {v : Value} {K : List VI} (h : ToldII w G v K) (g : Grew G w G' w') : ToldII w' G' v K := by
  have h0 := h.rd
  rcases h0 with h1 | ⟨b, off, cap, h1, h2, h3, h4, h5⟩
  · refine ⟨Or.inl h1, ?_, ?_⟩
    · obtain ⟨ao, cp, e1, e2⟩ := h1
      rw [e2]
      exact ApartG.nil _ _ _
    · obtain ⟨ao, cp, e1, e2⟩ := h1
      rw [e1]
      intro r hr
      cases hr
  · have hb : ¬ G b := by
      rcases h.ap _ _ _ h2 with e | e
      · exact absurd (List.length_eq_zero_iff.1 e) h1
      · exact e
    refine ⟨Or.inr ⟨b, off, cap, h1, h2, h3, Nat.lt_of_lt_of_le h4 g.turn.size, fun i hi => ?_⟩, ?_, ?_⟩
    · have h6 := h5 i hi
      exact ⟨(g.turn.cell (p := ⟨b, off + i, none⟩) h4 hb).trans h6.c, h6.rd.turnG (h.each _ (VI_mem hi)) g.turn, h6.wf⟩
    · rw [h2]
      intro x n c e
      simp at e
      obtain ⟨rfl, _⟩ := e
      exact Or.inr (g.off h4 hb)
    · intro r hr
      obtain ⟨i, hi, rfl⟩ := VI_ex hr
      exact (h.each _ hr).grewI (h5 i hi).rd g
theorem ToldII.old {w0 w : World} {G : Nat → Prop} {v : Value} {K : List VI} (h : RdII w0 v K) (hg : ∀ g, G g → w0.heap.size ≤ g) (hw : Below w0.heap.size w0 w) : ToldII w G v K := by
  refine ⟨h.below hw, ?_, ?_⟩
  · rcases h with ⟨ao, cp, e1, e2⟩ | ⟨b, off, cap, h1, h2, h3, h4, h5⟩
    · rw [e2]
      exact ApartG.nil _ _ _
    · rw [h2]
      intro x n c e
      simp at e
      obtain ⟨rfl, _⟩ := e
      exact Or.inr (fun e2 => by have := hg _ e2; simp at this; omega)
  · intro r hr
    rcases h with ⟨ao, cp, e1, e2⟩ | ⟨b, off, cap, h1, h2, h3, h4, h5⟩
    · rw [e1] at hr; cases hr
    · obtain ⟨i, hi, rfl⟩ := VI_ex hr
      intro x n c e
      rcases (h5 i hi).rd.lay e with h6 | h6
      · exact Or.inl h6
      · exact Or.inr (fun e2 => by have := hg _ e2; omega)
/-- what Restart does to a disk -/
def reF (K : List VI) (i : Nat) (d : DkS) : DkS := crS d ((K.map (·.2)).getD i [])
theorem reF_in {K : List VI} {k : Nat} (hk : k < K.length) (d : DkS) : reF K k d = crS d (K.getD k default).2 := by
  unfold reF
  simp [List.getD, hk]
theorem reF_out {K : List VI} {k : Nat} (hk : ¬ k < K.length) (d : DkS) : reF K k d = crS d [] := by
  unfold reF
  have : K[k]? = none := List.getElem?_eq_none (by omega)
  simp [List.getD, this]
set_option maxRecDepth 100000 in
theorem arestart_any (h : ArAt w ab GA a) {v : Value} {K : List VI} (hK : ToldII w GA v K) (hs : ∀ r ∈ K, r.2.length ≤ 1000000) : Calls Try.prog 22 #[.pointer (some ⟨ab, 0, none⟩), v] w (LeavesA w ab GA (reAS a (K.map (·.2))) (.tuple #[])) := by
  obtain ⟨mb, db, GD, hM, ok⟩ := h
  obtain ⟨va, vc, rfl⟩ := hK.rd.form
  have c0 := hM.c0
  have okS := reAS_ok ok (K.map (·.2))
  have START : Hid (∃ GD' GA', ArM w ab mb db GD' GA' { a with D := firstF (reF K) a.D 0 } ∧ Grew GA w GA' w) := ⟨GD, GA, by rw [firstF_zero]; exact hM, Grew.refl _ _⟩
  have FINI : Hid (∀ wr GD' GA', ArM wr ab mb db GD' GA' { a with D := firstF (reF K) a.D a.D.length } → Grew GA w GA' wr → ∃ GA', ArAt ((wr.setCell ⟨ab, 1, none⟩ (.int .i64 0)).setCell ⟨ab, 2, none⟩ (.bool false)) ab GA' (reAS a (K.map (·.2))) ∧ Grew GA w GA' ((wr.setCell ⟨ab, 1, none⟩ (.int .i64 0)).setCell ⟨ab, 2, none⟩ (.bool false))) := fun wr GD' GA' hM' g' => by
    rw [firstF_all] at hM'
    have M2 := (hM'.setLeft (l := -1) (by decide)).setOff false
    exact ⟨GA', ⟨mb, db, GD', M2, okS⟩, g'.trans (Grew.of_turn ((setCell_turnG hM'.ga).trans (setCell_turnG hM'.ga)))⟩
  clear hM ok okS
  go_enter Try.func22, Try.ntmps22
  go_wp2
  go_loopw [14] (fun i wr => ∃ k : Nat, k ≤ a.D.length ∧ i = .int .i64 (k : Int) ∧ ∃ GD' GA', ArM wr ab mb db GD' GA' { a with D := firstF (reF K) a.D k } ∧ Grew GA w GA' wr) (fun i _ => a.D.length - (intOf i).toNat)
  case atStart => exact ⟨0, Nat.zero_le _, rfl, START.out⟩
  case round =>
    clear START
    obtain ⟨k, hk, rfl, GD', GA', hM, hg⟩ := hrel
    by_cases hlt : k < a.D.length
    · have hlt' : (k : Int) < (a.D.length : Int) := by omega
      have g1 : IntKind.i64.wrap ((k : Int) + 1) = ((k + 1 : Nat) : Int) := by rw [IntKind.wrap_i64]; have := hM.d2; have e : ({ a with D := firstF (reF K) a.D k } : ArS).D.length = a.D.length := firstF_len; omega
      have hk2 : k < (firstF (reF K) a.D k).length := by rw [firstF_len]; exact hlt
      have m0 := hM.m0 k hk2
      have m1 := hM.m1 k hk2
      have dk : DiskAt wr (db k) (GD' k) ((firstF (reF K) a.D k).getD k default) := hM.dk k hk2
      have hsu : (firstF (reF K) a.D k).set k (reF K k (a.D.getD k default)) = firstF (reF K) a.D (k + 1) := firstF_succ hlt
      rw [firstF_at hlt] at dk
      obtain ⟨d, hd⟩ : ∃ d, d = a.D.getD k default := ⟨_, rfl⟩
      rw [← hd] at dk hsu
      obtain ⟨z, hz⟩ : ∃ z, z = (({ a with D := firstF (reF K) a.D k } : ArS).B.getD k 0) := ⟨_, rfl⟩
      rw [← hz] at m1
      have HK := hK.grew hg
      have KC := fun (o : Obj) (v : Value) (L : List Int) (h1 : RdI (wr.alloc o) v L) (h2 : ∀ z ∈ L, (Lit.int .i64 z).wf = true) (h3 : ApartG (GD' k) v) (h4 : L.length ≤ 1000000) => dcrash_any (dk.below (belA wr o)) h1 h2 h3 h4
      have HM := fun o => hM.below (belA wr o)
      clear hz
      by_cases hkk : k < K.length
      · have hkk' : (k : Int) < (K.length : Int) := by omega
        obtain ⟨b, off, rfl, hb, hrow⟩ := HK.rd.at hkk
        have hAp : ApartG (GD' k) (K.getD k default).1 := fun x n c e => (HK.each _ (VI_mem hkk) x n c e).imp id (fun h1 h2 => h1 (hM.gd k hk2 _ h2))
        have hsz := hs _ (VI_mem hkk)
        rw [reF_in hkk] at hsu
        obtain ⟨r, hr⟩ : ∃ r, r = K.getD k default := ⟨_, rfl⟩
        rw [← hr] at hrow hAp hsz hsu
        obtain ⟨rc, rrd, rwf⟩ := hrow
        obtain ⟨rv, rl⟩ := r
        simp only at rc rrd rwf hAp hsz hsu
        obtain ⟨ra, rcp, rfl⟩ := rrd.form
        clear hr
        go_wp2_with fail
        refine (KC _ _ rl (rrd.below (belA wr _)) rwf hAp hsz).mono ?_
        rintro _ w1 ⟨rfl, G1, D1, gr1⟩
        obtain ⟨M1, gg1⟩ := (HM _).disk hk2 D1 gr1
        have E2 : Hid (∃ GD' GA', ArM w1 ab mb db GD' GA' { a with D := firstF (reF K) a.D (k + 1) } ∧ Grew GA w GA' w1) := by
          rw [← hsu]
          exact ⟨_, _, M1, (hg.trans (Grew.of_below (belA wr _))).trans gg1⟩
        clear hM hg dk hsu hd hk2 M1 gg1 D1 gr1 KC HM HK hAp rrd rwf rc m0 m1
        go_wp2
        go_roundw
        case rel => exact ⟨k + 1, by omega, by go_num, E2.out⟩
        case measure => simp [intOf]; omega
      · have hkk' : ¬ (k : Int) < (K.length : Int) := by omega
        rw [reF_out hkk] at hsu
        go_wp2_with fail
        refine (KC _ _ [] (Or.inl ⟨none, 0, rfl, rfl⟩) (by simp) (ApartG.nil _ _ _) (by simp)).mono ?_
        rintro _ w1 ⟨rfl, G1, D1, gr1⟩
        obtain ⟨M1, gg1⟩ := (HM _).disk hk2 D1 gr1
        have E2 : Hid (∃ GD' GA', ArM w1 ab mb db GD' GA' { a with D := firstF (reF K) a.D (k + 1) } ∧ Grew GA w GA' w1) := by
          rw [← hsu]
          exact ⟨_, _, M1, (hg.trans (Grew.of_below (belA wr _))).trans gg1⟩
        clear hM hg dk hsu hd hk2 M1 gg1 D1 gr1 KC HM HK m0 m1
        go_wp2
        go_roundw
        case rel => exact ⟨k + 1, by omega, by go_num, E2.out⟩
        case measure => simp [intOf]; omega
    · have hlt' : ¬ (k : Int) < (a.D.length : Int) := by omega
      have hkn : k = a.D.length := by omega
      rw [hkn] at hM
      have c1 := hM.c1
      have c2 := hM.c2
      have f1 := hM.f1
      have f2 := hM.f2
      have E2 : Hid (∃ GA', ArAt ((wr.setCell ⟨ab, 1, none⟩ (.int .i64 0)).setCell ⟨ab, 2, none⟩ (.bool false)) ab GA' (reAS a (K.map (·.2))) ∧ Grew GA w GA' ((wr.setCell ⟨ab, 1, none⟩ (.int .i64 0)).setCell ⟨ab, 2, none⟩ (.bool false))) := FINI.out wr GD' GA' hM hg
      clear hM hg FINI hK
      go_wp2
      go_end0
      exact ⟨rfl, E2.out⟩
end
end Go.Proofs.Ytpijncnpicgjeaa.Gf

/-
  THE DOCUMENT's ARRAY BY CONTRACT (package aumbryref13): Flush, Fail, Replace, Corrupt, Restart.
-/

namespace Go.Proofs.Ytpijncnpicgjeaa.Gf
set_option linter.unusedVariables false
set_option linter.unusedSimpArgs false
open Go.RowKit

section
variable {w : World} {rb : Nat} {HR GA : Nat → Prop} {a : ArS}
theorem rfailA_any (h : RaAt w rb HR GA a) {i : Int} :
    Calls Try.prog 40 #[.pointer (some ⟨rb, 0, none⟩), .int .i64 i] w (LeavesRA w rb HR GA (faAS a i) (.int .i64 (thX a i))) := by
  have h0 := h
  obtain ⟨xb, yb, cx, cy, rd, hM, ok⟩ := h
  have c0 := hM.c0
  by_cases ht : thA a i
  · have KT := rthere_any (i := i) c0 (decide_eq_true ht)
    have okS := faAS_ok ok i
    have eS : faAS a i = bornA (setA a i (faS (diA a i))) i := if_pos ht
    rw [show thX a i = 0 from if_pos ht]
    rw [eS] at okS ⊢
    obtain ⟨j, rfl, hj⟩ := th_at ht
    have hj' : (j : Int) < (a.D.length : Int) := by omega
    have x0 := hM.x j hj
    obtain ⟨vl, vw, Tl, Tw, hI⟩ := hM.dk j hj
    have KW := rfail_any hI
    rw [show diA a (j : Int) = a.D.getD j default from rfl] at okS ⊢
    clear hI
    obtain ⟨d, hd⟩ : ∃ d, d = a.D.getD j default := ⟨_, rfl⟩
    rw [← hd] at KW okS ⊢
    go_enter Try.func40, Try.ntmps40
    go_wp2_with fail
    refine KT.mono ?_
    rintro _ wq ⟨rfl, hwq⟩
    rw [hwq]
    clear hwq wq KT
    go_wp2_with fail
    refine KW.mono ?_
    rintro _ w1 ⟨rfl, R1, t1⟩
    have M1 := hM.disk hj R1 t1
    have hl1 : (a.D.set j (faS d)).length = a.D.length := by simp
    have hj1 : j < (a.D.set j (faS d)).length := by rw [hl1]; exact hj
    have d1 : w1.cell? ⟨rb, 1, none⟩ = some (.slice (some ⟨yb, 0, none⟩) a.D.length cy) := by have := M1.c1; rw [show ({ a with D := a.D.set j (faS d) } : ArS).D.length = a.D.length from hl1] at this; exact this
    have y1 : w1.cell? ⟨yb, j, none⟩ = some (.int .i64 (a.B.getD j 0)) := M1.y j hj1
    have fy := M1.fy j hj1
    have M2 := M1.setBorn hj1 (IntKind.i64.wrap (a.B.getD j 0 + 1))
    have FIN : Hid (RaAt (w1.setCell ⟨yb, j, none⟩ (.int .i64 (IntKind.i64.wrap (a.B.getD j 0 + 1)))) rb HR GA (bornA (setA a (j : Int) (faS d)) (j : Int)) ∧ TurnG HR w (w1.setCell ⟨yb, j, none⟩ (.int .i64 (IntKind.i64.wrap (a.B.getD j 0 + 1))))) :=
      ⟨⟨xb, yb, cx, cy, rd, M2, okS⟩, (hM.turnD hj t1).trans (setCell_turnG hM.hy)⟩
    obtain ⟨z, hz⟩ : ∃ z, z = a.B.getD j 0 := ⟨_, rfl⟩
    rw [← hz] at y1 FIN
    obtain ⟨z1, gz⟩ : ∃ z1, IntKind.i64.wrap (z + 1) = z1 := ⟨_, rfl⟩
    rw [gz] at FIN
    clear M1 M2 R1 t1 KW hM ok h0 okS c0 x0 hd hj1 hz hl1
    go_wp2
    go_ret
    exact ⟨rfl, FIN.out⟩
  · have KT := rthere_any (i := i) c0 (decide_eq_false ht)
    rw [show thX a i = 1 from if_neg ht]
    have FIN : Hid (RaAt w rb HR GA (faAS a i) ∧ TurnG HR w w) := staysR h0 (if_neg ht)
    clear h0 hM ok c0
    go_enter Try.func40, Try.ntmps40
    go_wp2_with fail
    refine KT.mono ?_
    rintro _ wq ⟨rfl, hwq⟩
    rw [hwq]
    clear hwq wq KT
    go_wp2
    go_ret
    exact ⟨rfl, FIN.out⟩
theorem rreplA_any (h : RaAt w rb HR GA a) {i : Int} :
    Calls Try.prog 41 #[.pointer (some ⟨rb, 0, none⟩), .int .i64 i] w (LeavesRA w rb HR GA (rpAS a i) (.int .i64 (thX a i))) := by
  have h0 := h
  obtain ⟨xb, yb, cx, cy, rd, hM, ok⟩ := h
  have c0 := hM.c0
  by_cases ht : thA a i
  · have KT := rthere_any (i := i) c0 (decide_eq_true ht)
    have okS := rpAS_ok ok i
    have eS : rpAS a i = bornA (setA a i (reS (diA a i))) i := if_pos ht
    rw [show thX a i = 0 from if_pos ht]
    rw [eS] at okS ⊢
    obtain ⟨j, rfl, hj⟩ := th_at ht
    have hj' : (j : Int) < (a.D.length : Int) := by omega
    have x0 := hM.x j hj
    obtain ⟨vl, vw, Tl, Tw, hI⟩ := hM.dk j hj
    have KW := rrepl_any hI
    rw [show diA a (j : Int) = a.D.getD j default from rfl] at okS ⊢
    clear hI
    obtain ⟨d, hd⟩ : ∃ d, d = a.D.getD j default := ⟨_, rfl⟩
    rw [← hd] at KW okS ⊢
    go_enter Try.func41, Try.ntmps41
    go_wp2_with fail
    refine KT.mono ?_
    rintro _ wq ⟨rfl, hwq⟩
    rw [hwq]
    clear hwq wq KT
    go_wp2_with fail
    refine KW.mono ?_
    rintro _ w1 ⟨rfl, R1, t1⟩
    have M1 := hM.disk hj R1 t1
    have hl1 : (a.D.set j (reS d)).length = a.D.length := by simp
    have hj1 : j < (a.D.set j (reS d)).length := by rw [hl1]; exact hj
    have d1 : w1.cell? ⟨rb, 1, none⟩ = some (.slice (some ⟨yb, 0, none⟩) a.D.length cy) := by have := M1.c1; rw [show ({ a with D := a.D.set j (reS d) } : ArS).D.length = a.D.length from hl1] at this; exact this
    have y1 : w1.cell? ⟨yb, j, none⟩ = some (.int .i64 (a.B.getD j 0)) := M1.y j hj1
    have fy := M1.fy j hj1
    have M2 := M1.setBorn hj1 (IntKind.i64.wrap (a.B.getD j 0 + 1))
    have FIN : Hid (RaAt (w1.setCell ⟨yb, j, none⟩ (.int .i64 (IntKind.i64.wrap (a.B.getD j 0 + 1)))) rb HR GA (bornA (setA a (j : Int) (reS d)) (j : Int)) ∧ TurnG HR w (w1.setCell ⟨yb, j, none⟩ (.int .i64 (IntKind.i64.wrap (a.B.getD j 0 + 1))))) :=
      ⟨⟨xb, yb, cx, cy, rd, M2, okS⟩, (hM.turnD hj t1).trans (setCell_turnG hM.hy)⟩
    obtain ⟨z, hz⟩ : ∃ z, z = a.B.getD j 0 := ⟨_, rfl⟩
    rw [← hz] at y1 FIN
    obtain ⟨z1, gz⟩ : ∃ z1, IntKind.i64.wrap (z + 1) = z1 := ⟨_, rfl⟩
    rw [gz] at FIN
    clear M1 M2 R1 t1 KW hM ok h0 okS c0 x0 hd hj1 hz hl1
    go_wp2
    go_ret
    exact ⟨rfl, FIN.out⟩
  · have KT := rthere_any (i := i) c0 (decide_eq_false ht)
    rw [show thX a i = 1 from if_neg ht]
    have FIN : Hid (RaAt w rb HR GA (rpAS a i) ∧ TurnG HR w w) := staysR h0 (if_neg ht)
    clear h0 hM ok c0
    go_enter Try.func41, Try.ntmps41
    go_wp2_with fail
    refine KT.mono ?_
    rintro _ wq ⟨rfl, hwq⟩
    rw [hwq]
    clear hwq wq KT
    go_wp2
    go_ret
    exact ⟨rfl, FIN.out⟩
theorem rcorrA_any (h : RaAt w rb HR GA a) {i ad at_ : Int} (hat : (Lit.int .i64 at_).wf = true) (y : UInt8) :
    Calls Try.prog 42 #[.pointer (some ⟨rb, 0, none⟩), .int .i64 i, .int .i64 ad, .int .i64 at_, .int .u8 ((y.toNat : Nat) : Int)] w (LeavesRA w rb HR GA (coAS a i ad at_ y) (.int .i64 (coAX a i ad))) := by
  have h0 := h
  obtain ⟨xb, yb, cx, cy, rd, hM, ok⟩ := h
  have c0 := hM.c0
  by_cases ht : thA a i
  · have KT := rthere_any (i := i) c0 (decide_eq_true ht)
    have okS := coAS_ok ok i ad at_ y
    have eS : coAS a i ad at_ y = setA a i (coS (diA a i) ad at_ y) := if_pos ht
    rw [show coAX a i ad = coX (diA a i) ad from if_pos ht]
    rw [eS] at okS ⊢
    obtain ⟨j, rfl, hj⟩ := th_at ht
    have hj' : (j : Int) < (a.D.length : Int) := by omega
    have x0 := hM.x j hj
    obtain ⟨vl, vw, Tl, Tw, hI⟩ := hM.dk j hj
    have KW := rcorr_any hI (ok.each _ (di_mem (th_j hj))) (a := ad) hat y
    rw [show diA a (j : Int) = a.D.getD j default from rfl] at okS ⊢
    obtain ⟨x, hx⟩ : ∃ x, x = coX (a.D.getD j default) ad := ⟨_, rfl⟩
    rw [← hx] at KW ⊢
    clear hI hx
    obtain ⟨d, hd⟩ : ∃ d, d = a.D.getD j default := ⟨_, rfl⟩
    rw [← hd] at KW okS ⊢
    go_enter Try.func42, Try.ntmps42
    go_wp2_with fail
    refine KT.mono ?_
    rintro _ wq ⟨rfl, hwq⟩
    rw [hwq]
    clear hwq wq KT
    go_wp2_with fail
    refine KW.mono ?_
    rintro _ w1 ⟨rfl, R1, t1⟩
    have M1 := hM.disk hj R1 t1
    have FIN : Hid (RaAt w1 rb HR GA (setA a (j : Int) (coS d ad at_ y)) ∧ TurnG HR w w1) := ⟨⟨xb, yb, cx, cy, rd, M1, okS⟩, hM.turnD hj t1⟩
    clear M1 R1 t1 KW hM ok h0 okS c0 x0 hd
    go_wp2
    go_ret
    exact ⟨rfl, FIN.out⟩
  · have KT := rthere_any (i := i) c0 (decide_eq_false ht)
    rw [show coAX a i ad = 1 from if_neg ht]
    have FIN : Hid (RaAt w rb HR GA (coAS a i ad at_ y) ∧ TurnG HR w w) := staysR h0 (if_neg ht)
    clear h0 hM ok c0
    go_enter Try.func42, Try.ntmps42
    go_wp2_with fail
    refine KT.mono ?_
    rintro _ wq ⟨rfl, hwq⟩
    rw [hwq]
    clear hwq wq KT
    go_wp2
    go_ret
    exact ⟨rfl, FIN.out⟩
theorem okF {a : ArS} (ok : a.Ok) {j : Nat} (hj : j < a.D.length) : (a.D.getD j default).Ok := ok.each _ (di_mem (th_j hj))
set_option maxRecDepth 100000 in
theorem rflushA_any (h : RaAt w rb HR GA a) : Calls Try.prog 37 #[.pointer (some ⟨rb, 0, none⟩)] w (LeavesRA w rb HR GA (flAS a) (.int .i64 (flAX a))) := by
  have h0 := h
  obtain ⟨xb, yb, cx, cy, rd, hM, ok⟩ := h
  have c3 := hM.c3
  cases ho : a.off with
  | true =>
    rw [ho] at c3
    rw [show flAX a = 130 from if_pos ho]
    have FIN : Hid (RaAt w rb HR GA (flAS a) ∧ TurnG HR w w) := staysR h0 (if_pos ho)
    clear h0 hM ok
    go_enter Try.func37, Try.ntmps37
    go_wp2
    go_ret
    exact ⟨rfl, FIN.out⟩
  | false =>
    have no : ¬ a.off = true := by rw [ho]; simp
    rw [ho] at c3
    rw [show flAX a = 0 from if_neg no]
    have okS := flAS_ok ok
    have eS : flAS a = { a with D := a.D.mapIdx (fun _ d => flS d) } := by
      unfold flAS
      rw [if_neg no]
      congr 1
      apply List.ext_getElem (by simp)
      intro i h1 h2
      simp
    have START : Hid (RaM w rb xb yb cx cy rd HR GA { a with D := firstF (fun _ d => flS d) a.D 0 } ∧ TurnG HR w w) := ⟨by rw [firstF_zero]; exact hM, TurnG.refl _ _⟩
    have FINI : Hid (∀ wr, RaM wr rb xb yb cx cy rd HR GA { a with D := firstF (fun _ d => flS d) a.D a.D.length } → TurnG HR w wr → RaAt wr rb HR GA (flAS a) ∧ TurnG HR w wr) := fun wr hM' t' => by
      rw [firstF_all] at hM'
      exact ⟨⟨xb, yb, cx, cy, rd, by rw [eS]; exact hM', okS⟩, t'⟩
    have hd2 := hM.d2
    clear h0 hM eS okS
    go_enter Try.func37, Try.ntmps37
    go_wp2
    go_loopw [3] (fun i wr => ∃ k : Nat, k ≤ a.D.length ∧ i = .int .i64 (k : Int) ∧ RaM wr rb xb yb cx cy rd HR GA { a with D := firstF (fun _ d => flS d) a.D k } ∧ TurnG HR w wr) (fun i _ => a.D.length - (intOf i).toNat)
    case atStart => exact ⟨0, Nat.zero_le _, rfl, START.out⟩
    case round =>
      clear START
      obtain ⟨k, hk, rfl, hM, hT⟩ := hrel
      have hfl : ({ a with D := firstF (fun _ d => flS d) a.D k } : ArS).D.length = a.D.length := firstF_len
      have c0 := hM.c0
      rw [hfl] at c0
      by_cases hlt : k < a.D.length
      · have hlt' : (k : Int) < (a.D.length : Int) := by omega
        have g1 : IntKind.i64.wrap ((k : Int) + 1) = ((k + 1 : Nat) : Int) := by rw [IntKind.wrap_i64]; omega
        have hk2 : k < (firstF (fun _ d => flS d) a.D k).length := by rw [firstF_len]; exact hlt
        have x0 := hM.x k hk2
        obtain ⟨vl, vw, Tl, Tw, hI⟩ := hM.dk k hk2
        have hsu : (firstF (fun _ d => flS d) a.D k).set k (flS (a.D.getD k default)) = firstF (fun _ d => flS d) a.D (k + 1) := firstF_succ (f := fun _ d => flS d) hlt
        have hat : ({ a with D := firstF (fun _ d => flS d) a.D k } : ArS).D.getD k default = a.D.getD k default := firstF_at hlt
        rw [hat] at hI
        have KF := rflush_any hI (okF ok hlt)
        obtain ⟨d, hd⟩ : ∃ d, d = a.D.getD k default := ⟨_, rfl⟩
        rw [← hd] at KF hsu
        clear hI hat hd
        go_wp2_with fail
        refine KF.mono ?_
        rintro _ w1 ⟨rfl, R1, t1⟩
        have M1 := hM.disk hk2 R1 t1
        have E2 : Hid (RaM w1 rb xb yb cx cy rd HR GA { a with D := firstF (fun _ d => flS d) a.D (k + 1) } ∧ TurnG HR w w1) := by
          rw [← hsu]
          exact ⟨M1, hT.trans (hM.turnD hk2 t1)⟩
        clear hM hT hsu hk2 M1 R1 t1 KF x0 c0 hfl
        go_wp2
        go_roundw
        case rel => exact ⟨k + 1, by omega, by go_num, E2.out⟩
        case measure => simp [intOf]; omega
      · have hlt' : ¬ (k : Int) < (a.D.length : Int) := by omega
        have hkn : k = a.D.length := by omega
        rw [hkn] at hM
        have E2 : Hid (RaAt wr rb HR GA (flAS a) ∧ TurnG HR w wr) := FINI.out wr hM hT
        clear hM hT FINI hfl
        go_wp2
        go_ret
        exact ⟨rfl, E2.out⟩
set_option maxRecDepth 100000 in
theorem rrestartA_any (h : RaAt w rb HR GA a) {v : Value} {K : List VI} (hK : ToldII w HR v K) (hs : ∀ r ∈ K, r.2.length ≤ 1000000) : Calls Try.prog 39 #[.pointer (some ⟨rb, 0, none⟩), v] w (LeavesRA w rb HR GA (reAS a (K.map (·.2))) (.tuple #[])) := by
  obtain ⟨xb, yb, cx, cy, rd, hM, ok⟩ := h
  obtain ⟨va, vc, rfl⟩ := hK.rd.form
  have okS := reAS_ok ok (K.map (·.2))
  have START : Hid (RaM w rb xb yb cx cy rd HR GA { a with D := firstF (reF K) a.D 0 } ∧ TurnG HR w w) := ⟨by rw [firstF_zero]; exact hM, TurnG.refl _ _⟩
  have FINI : Hid (∀ wr, RaM wr rb xb yb cx cy rd HR GA { a with D := firstF (reF K) a.D a.D.length } → TurnG HR w wr → RaAt ((wr.setCell ⟨rb, 3, none⟩ (.bool false)).setCell ⟨rb, 2, none⟩ (.int .i64 (-1))) rb HR GA (reAS a (K.map (·.2))) ∧ TurnG HR w ((wr.setCell ⟨rb, 3, none⟩ (.bool false)).setCell ⟨rb, 2, none⟩ (.int .i64 (-1)))) := fun wr hM' t' => by
    rw [firstF_all] at hM'
    have M2 := (hM'.setOff false).setLeft (l := -1) (by decide)
    exact ⟨⟨xb, yb, cx, cy, rd, M2, okS⟩, (t'.trans (setCell_turnG hM'.hr)).trans (setCell_turnG hM'.hr)⟩
  have hd2 := hM.d2
  clear hM okS
  go_enter Try.func39, Try.ntmps39
  go_wp2
  go_loopw [4] (fun i wr => ∃ k : Nat, k ≤ a.D.length ∧ i = .int .i64 (k : Int) ∧ RaM wr rb xb yb cx cy rd HR GA { a with D := firstF (reF K) a.D k } ∧ TurnG HR w wr) (fun i _ => a.D.length - (intOf i).toNat)
  case atStart => exact ⟨0, Nat.zero_le _, rfl, START.out⟩
  case round =>
    clear START
    obtain ⟨k, hk, rfl, hM, hT⟩ := hrel
    have hfl : ({ a with D := firstF (reF K) a.D k } : ArS).D.length = a.D.length := firstF_len
    have c0 := hM.c0
    rw [hfl] at c0
    by_cases hlt : k < a.D.length
    · have hlt' : (k : Int) < (a.D.length : Int) := by omega
      have g1 : IntKind.i64.wrap ((k : Int) + 1) = ((k + 1 : Nat) : Int) := by rw [IntKind.wrap_i64]; omega
      have hk2 : k < (firstF (reF K) a.D k).length := by rw [firstF_len]; exact hlt
      have x0 := hM.x k hk2
      obtain ⟨vl, vw, Tl, Tw, hI⟩ := hM.dk k hk2
      have hsu : (firstF (reF K) a.D k).set k (reF K k (a.D.getD k default)) = firstF (reF K) a.D (k + 1) := firstF_succ hlt
      have hat : ({ a with D := firstF (reF K) a.D k } : ArS).D.getD k default = a.D.getD k default := firstF_at hlt
      rw [hat] at hI
      have okd := okF ok hlt
      obtain ⟨d, hd⟩ : ∃ d, d = a.D.getD k default := ⟨_, rfl⟩
      rw [← hd] at hsu hI okd
      have HK := hK.grew (Grew.of_turn hT)
      have hrd : HR (rd k) := hM.hd k hk2
      clear hat hd
      by_cases hkk : k < K.length
      · have hkk' : (k : Int) < (K.length : Int) := by omega
        obtain ⟨b, off, rfl, hb, hrow⟩ := HK.rd.at hkk
        have hAp : ApartG (fun x => x = rd k) (K.getD k default).1 := fun x n c e => (HK.each _ (VI_mem hkk) x n c e).imp id (fun h1 h2 => h1 (by have h3 : x.block = rd k := h2; rw [h3]; exact hrd))
        have hsz := hs _ (VI_mem hkk)
        rw [reF_in hkk] at hsu
        obtain ⟨r, hr⟩ : ∃ r, r = K.getD k default := ⟨_, rfl⟩
        rw [← hr] at hrow hAp hsz hsu
        obtain ⟨rc, rrd, rwf⟩ := hrow
        obtain ⟨rv, rl⟩ := r
        simp only at rc rrd rwf hAp hsz hsu
        obtain ⟨ra, rcp, rfl⟩ := rrd.form
        have bD : Below wr.heap.size wr wr.drew := (Below.refl _ _).drew
        have hMD := hM.below bD
        have KC := rcrash_any (hI.below bD) okd (rrd.below bD) hAp hsz
        have hTD : TurnG HR w wr.drew := hT.drew
        have c0D : wr.drew.cell? ⟨rb, 0, none⟩ = some (.slice (some ⟨xb, 0, none⟩) a.D.length cx) := c0
        have x0D : wr.drew.cell? ⟨xb, k, none⟩ = some (.pointer (some ⟨rd k, 0, none⟩)) := x0
        have rcD : wr.drew.cell? ⟨b, off + k, none⟩ = some (.slice ra rl.length rcp) := rc
        have nb : ¬ HR b := by
          rcases HK.ap _ _ _ rfl with e | e
          · omega
          · exact e
        have nx : xb ≠ rd k ∧ rb ≠ rd k ∧ b ≠ rd k := ⟨fun e => (hM.off k hk2).2.1 e.symm, fun e => (hM.off k hk2).1 e.symm, fun e => nb (by rw [e]; exact hrd)⟩
        have ls : rb < wr.heap.size ∧ xb < wr.heap.size := ⟨hM.lt _ hM.hr, hM.lt _ hM.hx⟩
        clear hr hI
        go_wp2_with fail
        go_region_held3 (fun wx => wx.cell? ⟨rb, 0, none⟩ = some (.slice (some ⟨xb, 0, none⟩) a.D.length cx) ∧ wx.cell? ⟨xb, k, none⟩ = some (.pointer (some ⟨rd k, 0, none⟩)) ∧ wx.cell? ⟨b, off + k, none⟩ = some (.slice ra rl.length rcp)) (first | exact ⟨c0, x0, rc⟩ | exact ⟨c0D, x0D, rcD⟩ | exact s1) (first
          | (go_at_call 62; go_loud (refine KC.mono ?_); rintro _ w1 ⟨rfl, R1, t1⟩; have M1 := hMD.disk hk2 R1 t1; have s1 := (show _ ∧ _ ∧ _ from ⟨(t1.cell (p := ⟨rb, 0, none⟩) ls.1 nx.2.1).trans c0D, (t1.cell (p := ⟨xb, k, none⟩) ls.2 nx.1).trans x0D, (t1.cell (p := ⟨b, off + k, none⟩) hb nx.2.2).trans rcD⟩)))
        have E2 : Hid (RaM w1 rb xb yb cx cy rd HR GA { a with D := firstF (reF K) a.D (k + 1) } ∧ TurnG HR w w1) := by
          rw [← hsu]
          exact ⟨M1, hTD.trans (hMD.turnD hk2 t1)⟩
        clear hM hT hsu hk2 M1 R1 t1 KC HK hAp rrd rwf rc x0 c0 hfl hrd bD hMD hTD c0D x0D rcD nb nx ls s1
        go_wp2
        go_roundw
        case rel => exact ⟨k + 1, by omega, by go_num, E2.out⟩
        case measure => simp [intOf]; omega
      · have hkk' : ¬ (k : Int) < (K.length : Int) := by omega
        rw [reF_out hkk] at hsu
        have KC := rcrash_any hI okd (v := .slice none 0 0) (K := []) (Or.inl ⟨none, 0, rfl, rfl⟩) (ApartG.nil _ _ _) (by simp)
        clear hI
        go_wp2_with fail
        refine KC.mono ?_
        rintro _ w1 ⟨rfl, R1, t1⟩
        have M1 := hM.disk hk2 R1 t1
        have E2 : Hid (RaM w1 rb xb yb cx cy rd HR GA { a with D := firstF (reF K) a.D (k + 1) } ∧ TurnG HR w w1) := by
          rw [← hsu]
          exact ⟨M1, hT.trans (hM.turnD hk2 t1)⟩
        clear hM hT hsu hk2 M1 R1 t1 KC HK x0 c0 hfl hrd
        go_wp2
        go_roundw
        case rel => exact ⟨k + 1, by omega, by go_num, E2.out⟩
        case measure => simp [intOf]; omega
    · have hlt' : ¬ (k : Int) < (a.D.length : Int) := by omega
      have hkn : k = a.D.length := by omega
      rw [hkn] at hM
      have c2 := hM.c2
      have c3 := hM.c3
      have f2 := hM.f2
      have f3 := hM.f3
      have E2 := FINI.out wr hM hT
      have E3 : Hid _ := E2
      clear hM hT FINI hfl E2 hK
      go_wp2
      go_end0
      exact ⟨rfl, E3.out⟩
end
end Go.Proofs.Ytpijncnpicgjeaa.Gf

/-
  THE PROGRAM's ARRAY BY CONTRACT (package array): Live, Births.
-/

namespace Go.Proofs.Ytpijncnpicgjeaa.Gf
set_option linter.unusedVariables false
set_option linter.unusedSimpArgs false
open Go.RowKit

theorem info_bool13 : (Try.prog.info? 4).map (fun i => (i.zero, i.size, i.bytes)) = some (some (.bool false), 1, 1) := by kernel_rfl
theorem info_int13 : (Try.prog.info? 3).map (fun i => (i.zero, i.size, i.bytes)) = some (some (.int .i64 0), 1, 8) := by kernel_rfl
/-- a row of the call's own -/
def MadeRow (w : World) (t n : Nat) (f : Nat → Value) (e : Ending) (w' : World) : Prop := ∃ g, e = .returned (.slice (some ⟨g, 0, none⟩) n n) ∧ w'.rowIs g t n f ∧ w.heap.size ≤ g ∧ Below w.heap.size w w'
section
variable {w : World} {ab : Nat} {GA : Nat → Prop} {a : ArS}
set_option maxRecDepth 100000 in
theorem alive_any (h : ArAt w ab GA a) : Calls Try.prog 28 #[.pointer (some ⟨ab, 0, none⟩)] w (MadeRow w 4 a.D.length (fun i => .bool (!(a.D.getD i default).dead))) := by
  obtain ⟨mb, db, GD, hM, ok⟩ := h
  have c0 := hM.c0
  have d2 := hM.d2
  have mk1 := run_make_row' (P := Try.prog) 54 4 (.bool false) 1 Try.underlying54 info_bool13 rfl .i64 .i64 a.D.length (by omega) (by omega)
  obtain ⟨u, hu⟩ : ∃ u, u = w.alloc (Obj.cells (madeCells #[Value.bool false] a.D.length) 4) := ⟨_, rfl⟩
  have hub : Below w.heap.size w u := by rw [hu]; exact belA _ _
  have hur : u.rowIs w.heap.size 4 a.D.length (fun _ => .bool false) := by rw [hu]; exact World.rowIs_made _ _ _ _
  have hM1 := hM.below hub
  have c0m := hM1.c0
  have mk2 := mk1 w
  obtain ⟨g, hg⟩ : ∃ g, Hid (g = w.heap.size) := ⟨_, rfl⟩
  rw [← hu, ← hg.out] at mk2
  rw [← hg.out] at hur
  clear mk1 hu
  go_enter Try.func28, Try.ntmps28
  go_wp2
  have START : Hid (u.rowIs g 4 a.D.length (fun j => if j < 0 then .bool (!(a.D.getD j default).dead) else .bool false) ∧ Below w.heap.size w u) := ⟨hur, hub⟩
  clear hM1 c0m mk2 hub hur ok c0
  go_loopw [19] (fun i wr => ∃ k : Nat, k ≤ a.D.length ∧ i = .int .i64 (k : Int) ∧ wr.rowIs g 4 a.D.length (fun j => if j < k then .bool (!(a.D.getD j default).dead) else .bool false) ∧ Below w.heap.size w wr) (fun i _ => a.D.length - (intOf i).toNat)
  case atStart => exact ⟨0, Nat.zero_le _, rfl, START.out⟩
  case round =>
    clear START
    obtain ⟨k, hk, rfl, hr, hb⟩ := hrel
    by_cases hlt : k < a.D.length
    · have hlt' : (k : Int) < (a.D.length : Int) := by omega
      have g1 : IntKind.i64.wrap ((k : Int) + 1) = ((k + 1 : Nat) : Int) := by rw [IntKind.wrap_i64]; omega
      have hMr := hM.below hb
      have m0 := hMr.m0 k hlt
      have m1 := hMr.m1 k hlt
      have KD := fun o => @ddead_any (wr.alloc o) (db k) (a.D.getD k default).dead ((hMr.dk k hlt).below (belA wr o)).dead
      have R1 : Hid (∀ o, (wr.alloc o).rowIs g 4 a.D.length (fun j => if j < k then .bool (!(a.D.getD j default).dead) else .bool false) ∧ Below w.heap.size w (wr.alloc o)) := fun o => ⟨hr.alloc o, hb.trans ((belA wr o).mono hb.size)⟩
      obtain ⟨z, hz⟩ : ∃ z, z = a.B.getD k 0 := ⟨_, rfl⟩
      rw [← hz] at m1
      obtain ⟨x, hx⟩ : ∃ x, Hid (x = (a.D.getD k default).dead) := ⟨_, rfl⟩
      rw [← hx.out] at KD
      clear hz hMr hr hb
      go_wp2_with fail
      refine (KD _).mono ?_
      rintro _ wq ⟨rfl, hwq⟩
      obtain ⟨R2, B2⟩ := R1.out (Obj.cells #[Value.pointer (some ⟨db k, 0, none⟩), .int .i64 z] 69)
      rw [← hwq] at R2 B2
      have cq := R2.cell hlt
      have fq := R2.frozen k
      have R3 := R2.set k (.bool (!x))
      have E2 : Hid ((wq.setCell ⟨g, k, none⟩ (.bool (!x))).rowIs g 4 a.D.length (fun j => if j < k + 1 then .bool (!(a.D.getD j default).dead) else .bool false) ∧ Below w.heap.size w (wq.setCell ⟨g, k, none⟩ (.bool (!x)))) := by
        refine ⟨R3.congr fun j hj => ?_, B2.setCell (by rw [hg.out]; exact Nat.le_refl _) _⟩
        by_cases e : j = k
        · rw [if_pos e, if_pos (by omega), e, hx.out]
        · rw [if_neg e]
          by_cases e2 : j < k
          · rw [if_pos e2, if_pos (by omega)]
          · rw [if_neg e2, if_neg (by omega)]
      clear KD R1 R2 B2 R3 hwq m0 m1
      cases x <;> simp only [Bool.not_true, Bool.not_false] at E2
      all_goals
        go_wp2
        go_roundw
        case rel => exact ⟨k + 1, by omega, by go_num, E2.out⟩
        case measure => simp [intOf]; omega
    · have hlt' : ¬ (k : Int) < (a.D.length : Int) := by omega
      have hkn : k = a.D.length := by omega
      have FIN : Hid (wr.rowIs g 4 a.D.length (fun j => .bool (!(a.D.getD j default).dead)) ∧ w.heap.size ≤ g ∧ Below w.heap.size w wr) := ⟨hr.congr fun j hj => if_pos (by omega), by rw [hg.out]; exact Nat.le_refl _, hb⟩
      clear hr hb
      go_wp2
      go_ret
      exact ⟨g, rfl, FIN.out⟩
set_option maxRecDepth 100000 in
theorem abirths_any (h : ArAt w ab GA a) : Calls Try.prog 29 #[.pointer (some ⟨ab, 0, none⟩)] w (MadeRow w 3 a.D.length (fun i => .int .i64 (a.B.getD i 0))) := by
  obtain ⟨mb, db, GD, hM, ok⟩ := h
  have c0 := hM.c0
  have d2 := hM.d2
  have mk1 := run_make_row' (P := Try.prog) 56 3 (.int .i64 0) 8 Try.underlying56 info_int13 rfl .i64 .i64 a.D.length (by omega) (by omega)
  obtain ⟨u, hu⟩ : ∃ u, u = w.alloc (Obj.cells (madeCells #[Value.int .i64 0] a.D.length) 3) := ⟨_, rfl⟩
  have hub : Below w.heap.size w u := by rw [hu]; exact belA _ _
  have hur : u.rowIs w.heap.size 3 a.D.length (fun _ => .int .i64 0) := by rw [hu]; exact World.rowIs_made _ _ _ _
  have hM1 := hM.below hub
  have c0m := hM1.c0
  have mk2 := mk1 w
  obtain ⟨g, hg⟩ : ∃ g, Hid (g = w.heap.size) := ⟨_, rfl⟩
  rw [← hu, ← hg.out] at mk2
  rw [← hg.out] at hur
  clear mk1 hu
  go_enter Try.func29, Try.ntmps29
  go_wp2
  have START : Hid (u.rowIs g 3 a.D.length (fun j => if j < 0 then .int .i64 (a.B.getD j 0) else .int .i64 0) ∧ Below w.heap.size w u) := ⟨hur, hub⟩
  clear hM1 c0m mk2 hub hur ok c0
  go_loopw [19] (fun i wr => ∃ k : Nat, k ≤ a.D.length ∧ i = .int .i64 (k : Int) ∧ wr.rowIs g 3 a.D.length (fun j => if j < k then .int .i64 (a.B.getD j 0) else .int .i64 0) ∧ Below w.heap.size w wr) (fun i _ => a.D.length - (intOf i).toNat)
  case atStart => exact ⟨0, Nat.zero_le _, rfl, START.out⟩
  case round =>
    clear START
    obtain ⟨k, hk, rfl, hr, hb⟩ := hrel
    by_cases hlt : k < a.D.length
    · have hlt' : (k : Int) < (a.D.length : Int) := by omega
      have g1 : IntKind.i64.wrap ((k : Int) + 1) = ((k + 1 : Nat) : Int) := by rw [IntKind.wrap_i64]; omega
      have hMr := hM.below hb
      have m0 := hMr.m0 k hlt
      have m1 := hMr.m1 k hlt
      obtain ⟨z, hz⟩ : ∃ z, Hid (z = a.B.getD k 0) := ⟨_, rfl⟩
      rw [← hz.out] at m1
      have cq := fun o => (hr.alloc o).cell hlt
      have fq := fun o => (hr.alloc o).frozen k
      have E2 : Hid (∀ o, ((wr.alloc o).setCell ⟨g, k, none⟩ (.int .i64 z)).rowIs g 3 a.D.length (fun j => if j < k + 1 then .int .i64 (a.B.getD j 0) else .int .i64 0) ∧ Below w.heap.size w ((wr.alloc o).setCell ⟨g, k, none⟩ (.int .i64 z))) := by
        intro o
        refine ⟨((hr.alloc o).set k (.int .i64 z)).congr fun j hj => ?_, (hb.trans ((belA wr o).mono hb.size)).setCell (by rw [hg.out]; exact Nat.le_refl _) _⟩
        by_cases e : j = k
        · rw [if_pos e, if_pos (by omega), e, hz.out]
        · rw [if_neg e]
          by_cases e2 : j < k
          · rw [if_pos e2, if_pos (by omega)]
          · rw [if_neg e2, if_neg (by omega)]
      clear hMr hr hb
      go_wp2
      go_roundw
      case rel => exact ⟨k + 1, by omega, by go_num, E2.out _⟩
      case measure => simp [intOf]; omega
    · have hlt' : ¬ (k : Int) < (a.D.length : Int) := by omega
      have hkn : k = a.D.length := by omega
      have FIN : Hid (wr.rowIs g 3 a.D.length (fun j => .int .i64 (a.B.getD j 0)) ∧ w.heap.size ≤ g ∧ Below w.heap.size w wr) := ⟨hr.congr fun j hj => if_pos (by omega), by rw [hg.out]; exact Nat.le_refl _, hb⟩
      clear hr hb
      go_wp2
      go_ret
      exact ⟨g, rfl, FIN.out⟩
theorem alive_nil : Calls Try.prog 28 #[.pointer none] w fun e w' => e = .returned (.slice none 0 0) ∧ w' = w := by
  go_enter Try.func28, Try.ntmps28
  go_wp2
  go_ret
  exact ⟨rfl, rfl⟩
theorem abirths_nil : Calls Try.prog 29 #[.pointer none] w fun e w' => e = .returned (.slice none 0 0) ∧ w' = w := by
  go_enter Try.func29, Try.ntmps29
  go_wp2
  go_ret
  exact ⟨rfl, rfl⟩
end
end Go.Proofs.Ytpijncnpicgjeaa.Gf

