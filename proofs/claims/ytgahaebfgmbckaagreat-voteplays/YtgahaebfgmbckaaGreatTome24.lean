/- TEXTS JOINED: ArRB, ArCBl, ArCD, ArLL, ArRC. -/
import Derived.Test.YtgahaebfgmbckaaGreatTome18
import Derived.Test.YtgahaebfgmbckaaGreatTome23
namespace Go.Proofs.YtgahaebfgmbckaaGreat.Gf
set_option linter.unusedVariables false
set_option linter.unusedSimpArgs false
open Go.RowKit
section
variable {w : World} {rb : Nat} {HR GA : Nat → Prop} {a : ArS}
theorem rfailA_any (h : RaAt w rb HR GA a) {i : Int} :
    Calls Tryz.prog 54 #[.pointer (some ⟨rb, 0, none⟩), .int .i64 i] w (LeavesRA w rb HR GA (faAS a i) (.int .i64 (thX a i))) := by
  have h0 := h
  obtain ⟨xb, yb, cx, cy, rd, hM, ok⟩ := h
  have c0 := hM.c0
  by_cases ht : thA a i
  · have KT := rthereA_any (i := i) c0 (decide_eq_true ht)
    have okS := faAS_ok ok i
    have eS : faAS a i = bornA (setA a i (faS (diA a i))) i := if_pos ht
    rw [show thX a i = 0 from if_pos ht]
    rw [eS] at okS ⊢
    obtain ⟨j, rfl, hj⟩ := th_at ht
    have hj' : (j : Int) < (a.D.length : Int) := by omega
    have x0 := hM.x j hj
    obtain ⟨vl, vw, Tl, Tw, hI⟩ := hM.dk j hj
    have KW := rfail_any hI
    rw [show diA a (j : Int) = a.D.getD j default from rfl] at okS ⊢
    clear hI
    obtain ⟨d, hd⟩ : ∃ d, d = a.D.getD j default := ⟨_, rfl⟩
    rw [← hd] at KW okS ⊢
    go_enter Tryz.func54, Tryz.ntmps54
    go_wp2_with fail
    refine KT.mono ?_
    rintro _ wq ⟨rfl, hwq⟩
    rw [hwq]
    clear hwq wq KT
    go_wp2_with fail
    refine KW.mono ?_
    rintro _ w1 ⟨rfl, R1, t1⟩
    have M1 := hM.disk hj R1 t1
    have hl1 : (a.D.set j (faS d)).length = a.D.length := by simp
    have hj1 : j < (a.D.set j (faS d)).length := by rw [hl1]; exact hj
    have d1 : w1.cell? ⟨rb, 1, none⟩ = some (.slice (some ⟨yb, 0, none⟩) a.D.length cy) := by have := M1.c1; rw [show ({ a with D := a.D.set j (faS d) } : ArS).D.length = a.D.length from hl1] at this; exact this
    have y1 : w1.cell? ⟨yb, j, none⟩ = some (.int .i64 (a.B.getD j 0)) := M1.y j hj1
    have fy := M1.fy j hj1
    have M2 := M1.setBorn hj1 (IntKind.i64.wrap (a.B.getD j 0 + 1))
    have FIN : Hid (RaAt (w1.setCell ⟨yb, j, none⟩ (.int .i64 (IntKind.i64.wrap (a.B.getD j 0 + 1)))) rb HR GA (bornA (setA a (j : Int) (faS d)) (j : Int)) ∧ TurnG HR w (w1.setCell ⟨yb, j, none⟩ (.int .i64 (IntKind.i64.wrap (a.B.getD j 0 + 1))))) :=
      ⟨⟨xb, yb, cx, cy, rd, M2, okS⟩, (hM.turnD hj t1).trans (setCell_turnG hM.hy)⟩
    obtain ⟨z, hz⟩ : ∃ z, z = a.B.getD j 0 := ⟨_, rfl⟩
    rw [← hz] at y1 FIN
    obtain ⟨z1, gz⟩ : ∃ z1, IntKind.i64.wrap (z + 1) = z1 := ⟨_, rfl⟩
    rw [gz] at FIN
    clear M1 M2 R1 t1 KW hM ok h0 okS c0 x0 hd hj1 hz hl1
    go_wp2
    go_ret
    exact ⟨rfl, FIN.out⟩
  · have KT := rthereA_any (i := i) c0 (decide_eq_false ht)
    rw [show thX a i = 1 from if_neg ht]
    have FIN : Hid (RaAt w rb HR GA (faAS a i) ∧ TurnG HR w w) := staysR h0 (if_neg ht)
    clear h0 hM ok c0
    go_enter Tryz.func54, Tryz.ntmps54
    go_wp2_with fail
    refine KT.mono ?_
    rintro _ wq ⟨rfl, hwq⟩
    rw [hwq]
    clear hwq wq KT
    go_wp2
    go_ret
    exact ⟨rfl, FIN.out⟩
theorem rreplA_any (h : RaAt w rb HR GA a) {i : Int} :
    Calls Tryz.prog 55 #[.pointer (some ⟨rb, 0, none⟩), .int .i64 i] w (LeavesRA w rb HR GA (rpAS a i) (.int .i64 (thX a i))) := by
  have h0 := h
  obtain ⟨xb, yb, cx, cy, rd, hM, ok⟩ := h
  have c0 := hM.c0
  by_cases ht : thA a i
  · have KT := rthereA_any (i := i) c0 (decide_eq_true ht)
    have okS := rpAS_ok ok i
    have eS : rpAS a i = bornA (setA a i (reS (diA a i))) i := if_pos ht
    rw [show thX a i = 0 from if_pos ht]
    rw [eS] at okS ⊢
    obtain ⟨j, rfl, hj⟩ := th_at ht
    have hj' : (j : Int) < (a.D.length : Int) := by omega
    have x0 := hM.x j hj
    obtain ⟨vl, vw, Tl, Tw, hI⟩ := hM.dk j hj
    have KW := rrepl_any hI
    rw [show diA a (j : Int) = a.D.getD j default from rfl] at okS ⊢
    clear hI
    obtain ⟨d, hd⟩ : ∃ d, d = a.D.getD j default := ⟨_, rfl⟩
    rw [← hd] at KW okS ⊢
    go_enter Tryz.func55, Tryz.ntmps55
    go_wp2_with fail
    refine KT.mono ?_
    rintro _ wq ⟨rfl, hwq⟩
    rw [hwq]
    clear hwq wq KT
    go_wp2_with fail
    refine KW.mono ?_
    rintro _ w1 ⟨rfl, R1, t1⟩
    have M1 := hM.disk hj R1 t1
    have hl1 : (a.D.set j (reS d)).length = a.D.length := by simp
    have hj1 : j < (a.D.set j (reS d)).length := by rw [hl1]; exact hj
    have d1 : w1.cell? ⟨rb, 1, none⟩ = some (.slice (some ⟨yb, 0, none⟩) a.D.length cy) := by have := M1.c1; rw [show ({ a with D := a.D.set j (reS d) } : ArS).D.length = a.D.length from hl1] at this; exact this
    have y1 : w1.cell? ⟨yb, j, none⟩ = some (.int .i64 (a.B.getD j 0)) := M1.y j hj1
    have fy := M1.fy j hj1
    have M2 := M1.setBorn hj1 (IntKind.i64.wrap (a.B.getD j 0 + 1))
    have FIN : Hid (RaAt (w1.setCell ⟨yb, j, none⟩ (.int .i64 (IntKind.i64.wrap (a.B.getD j 0 + 1)))) rb HR GA (bornA (setA a (j : Int) (reS d)) (j : Int)) ∧ TurnG HR w (w1.setCell ⟨yb, j, none⟩ (.int .i64 (IntKind.i64.wrap (a.B.getD j 0 + 1))))) :=
      ⟨⟨xb, yb, cx, cy, rd, M2, okS⟩, (hM.turnD hj t1).trans (setCell_turnG hM.hy)⟩
    obtain ⟨z, hz⟩ : ∃ z, z = a.B.getD j 0 := ⟨_, rfl⟩
    rw [← hz] at y1 FIN
    obtain ⟨z1, gz⟩ : ∃ z1, IntKind.i64.wrap (z + 1) = z1 := ⟨_, rfl⟩
    rw [gz] at FIN
    clear M1 M2 R1 t1 KW hM ok h0 okS c0 x0 hd hj1 hz hl1
    go_wp2
    go_ret
    exact ⟨rfl, FIN.out⟩
  · have KT := rthereA_any (i := i) c0 (decide_eq_false ht)
    rw [show thX a i = 1 from if_neg ht]
    have FIN : Hid (RaAt w rb HR GA (rpAS a i) ∧ TurnG HR w w) := staysR h0 (if_neg ht)
    clear h0 hM ok c0
    go_enter Tryz.func55, Tryz.ntmps55
    go_wp2_with fail
    refine KT.mono ?_
    rintro _ wq ⟨rfl, hwq⟩
    rw [hwq]
    clear hwq wq KT
    go_wp2
    go_ret
    exact ⟨rfl, FIN.out⟩
theorem rcorrA_any (h : RaAt w rb HR GA a) {i ad at_ : Int} (hat : (Lit.int .i64 at_).wf = true) (y : UInt8) :
    Calls Tryz.prog 57 #[.pointer (some ⟨rb, 0, none⟩), .int .i64 i, .int .i64 ad, .int .i64 at_, .int .u8 ((y.toNat : Nat) : Int)] w (LeavesRA w rb HR GA (coAS a i ad at_ y) (.int .i64 (coAX a i ad))) := by
  have h0 := h
  obtain ⟨xb, yb, cx, cy, rd, hM, ok⟩ := h
  have c0 := hM.c0
  by_cases ht : thA a i
  · have KT := rthereA_any (i := i) c0 (decide_eq_true ht)
    have okS := coAS_ok ok i ad at_ y
    have eS : coAS a i ad at_ y = setA a i (coS (diA a i) ad at_ y) := if_pos ht
    rw [show coAX a i ad = coX (diA a i) ad from if_pos ht]
    rw [eS] at okS ⊢
    obtain ⟨j, rfl, hj⟩ := th_at ht
    have hj' : (j : Int) < (a.D.length : Int) := by omega
    have x0 := hM.x j hj
    obtain ⟨vl, vw, Tl, Tw, hI⟩ := hM.dk j hj
    have KW := rcorr_any hI (ok.each _ (di_mem (th_j hj))) (a := ad) hat y
    rw [show diA a (j : Int) = a.D.getD j default from rfl] at okS ⊢
    obtain ⟨x, hx⟩ : ∃ x, x = coX (a.D.getD j default) ad := ⟨_, rfl⟩
    rw [← hx] at KW ⊢
    clear hI hx
    obtain ⟨d, hd⟩ : ∃ d, d = a.D.getD j default := ⟨_, rfl⟩
    rw [← hd] at KW okS ⊢
    go_enter Tryz.func57, Tryz.ntmps57
    go_wp2_with fail
    refine KT.mono ?_
    rintro _ wq ⟨rfl, hwq⟩
    rw [hwq]
    clear hwq wq KT
    go_wp2_with fail
    refine KW.mono ?_
    rintro _ w1 ⟨rfl, R1, t1⟩
    have M1 := hM.disk hj R1 t1
    have FIN : Hid (RaAt w1 rb HR GA (setA a (j : Int) (coS d ad at_ y)) ∧ TurnG HR w w1) := ⟨⟨xb, yb, cx, cy, rd, M1, okS⟩, hM.turnD hj t1⟩
    clear M1 R1 t1 KW hM ok h0 okS c0 x0 hd
    go_wp2
    go_ret
    exact ⟨rfl, FIN.out⟩
  · have KT := rthereA_any (i := i) c0 (decide_eq_false ht)
    rw [show coAX a i ad = 1 from if_neg ht]
    have FIN : Hid (RaAt w rb HR GA (coAS a i ad at_ y) ∧ TurnG HR w w) := staysR h0 (if_neg ht)
    clear h0 hM ok c0
    go_enter Tryz.func57, Tryz.ntmps57
    go_wp2_with fail
    refine KT.mono ?_
    rintro _ wq ⟨rfl, hwq⟩
    rw [hwq]
    clear hwq wq KT
    go_wp2
    go_ret
    exact ⟨rfl, FIN.out⟩
theorem okF {a : ArS} (ok : a.Ok) {j : Nat} (hj : j < a.D.length) : (a.D.getD j default).Ok := ok.each _ (di_mem (th_j hj))
set_option maxRecDepth 100000 in
theorem rflushA_any (h : RaAt w rb HR GA a) : Calls Tryz.prog 48 #[.pointer (some ⟨rb, 0, none⟩)] w (LeavesRA w rb HR GA (flAS a) (.int .i64 (flAX a))) := by
  have h0 := h
  obtain ⟨xb, yb, cx, cy, rd, hM, ok⟩ := h
  have c3 := hM.c3
  cases ho : a.off with
  | true =>
    rw [ho] at c3
    rw [show flAX a = 130 from if_pos ho]
    have FIN : Hid (RaAt w rb HR GA (flAS a) ∧ TurnG HR w w) := staysR h0 (if_pos ho)
    clear h0 hM ok
    go_enter Tryz.func48, Tryz.ntmps48
    go_wp2
    go_ret
    exact ⟨rfl, FIN.out⟩
  | false =>
    have no : ¬ a.off = true := by rw [ho]; simp
    rw [ho] at c3
    rw [show flAX a = 0 from if_neg no]
    have okS := flAS_ok ok
    have eS : flAS a = { a with D := a.D.mapIdx (fun _ d => flS d) } := by
      unfold flAS
      rw [if_neg no]
      congr 1
      apply List.ext_getElem (by simp)
      intro i h1 h2
      simp
    have START : Hid (RaM w rb xb yb cx cy rd HR GA { a with D := firstF (fun _ d => flS d) a.D 0 } ∧ TurnG HR w w) := ⟨by rw [firstF_zero]; exact hM, TurnG.refl _ _⟩
    have FINI : Hid (∀ wr, RaM wr rb xb yb cx cy rd HR GA { a with D := firstF (fun _ d => flS d) a.D a.D.length } → TurnG HR w wr → RaAt wr rb HR GA (flAS a) ∧ TurnG HR w wr) := fun wr hM' t' => by
      rw [firstF_all] at hM'
      exact ⟨⟨xb, yb, cx, cy, rd, by rw [eS]; exact hM', okS⟩, t'⟩
    have hd2 := hM.d2
    clear h0 hM eS okS
    go_enter Tryz.func48, Tryz.ntmps48
    go_wp2
    go_loopw [3] (fun i wr => ∃ k : Nat, k ≤ a.D.length ∧ i = .int .i64 (k : Int) ∧ RaM wr rb xb yb cx cy rd HR GA { a with D := firstF (fun _ d => flS d) a.D k } ∧ TurnG HR w wr) (fun i _ => a.D.length - (intOf i).toNat)
    case atStart => exact ⟨0, Nat.zero_le _, rfl, START.out⟩
    case round =>
      clear START
      obtain ⟨k, hk, rfl, hM, hT⟩ := hrel
      have hfl : ({ a with D := firstF (fun _ d => flS d) a.D k } : ArS).D.length = a.D.length := firstF_len
      have c0 := hM.c0
      rw [hfl] at c0
      by_cases hlt : k < a.D.length
      · have hlt' : (k : Int) < (a.D.length : Int) := by omega
        have g1 : IntKind.i64.wrap ((k : Int) + 1) = ((k + 1 : Nat) : Int) := by rw [IntKind.wrap_i64]; omega
        have hk2 : k < (firstF (fun _ d => flS d) a.D k).length := by rw [firstF_len]; exact hlt
        have x0 := hM.x k hk2
        obtain ⟨vl, vw, Tl, Tw, hI⟩ := hM.dk k hk2
        have hsu : (firstF (fun _ d => flS d) a.D k).set k (flS (a.D.getD k default)) = firstF (fun _ d => flS d) a.D (k + 1) := firstF_succ (f := fun _ d => flS d) hlt
        have hat : ({ a with D := firstF (fun _ d => flS d) a.D k } : ArS).D.getD k default = a.D.getD k default := firstF_at hlt
        rw [hat] at hI
        have KF := rflush_any hI (okF ok hlt)
        obtain ⟨d, hd⟩ : ∃ d, d = a.D.getD k default := ⟨_, rfl⟩
        rw [← hd] at KF hsu
        clear hI hat hd
        go_wp2_with fail
        refine KF.mono ?_
        rintro _ w1 ⟨rfl, R1, t1⟩
        have M1 := hM.disk hk2 R1 t1
        have E2 : Hid (RaM w1 rb xb yb cx cy rd HR GA { a with D := firstF (fun _ d => flS d) a.D (k + 1) } ∧ TurnG HR w w1) := by
          rw [← hsu]
          exact ⟨M1, hT.trans (hM.turnD hk2 t1)⟩
        clear hM hT hsu hk2 M1 R1 t1 KF x0 c0 hfl
        go_wp2
        go_roundw
        case rel => exact ⟨k + 1, by omega, by go_num, E2.out⟩
        case measure => simp [intOf]; omega
      · have hlt' : ¬ (k : Int) < (a.D.length : Int) := by omega
        have hkn : k = a.D.length := by omega
        rw [hkn] at hM
        have E2 : Hid (RaAt wr rb HR GA (flAS a) ∧ TurnG HR w wr) := FINI.out wr hM hT
        clear hM hT FINI hfl
        go_wp2
        go_ret
        exact ⟨rfl, E2.out⟩
set_option maxRecDepth 100000 in
theorem rrestartA_any (h : RaAt w rb HR GA a) {v : Value} {K : List VI} (hK : ToldII w HR v K) (hs : ∀ r ∈ K, r.2.length ≤ 9223372036854775807) : Calls Tryz.prog 52 #[.pointer (some ⟨rb, 0, none⟩), v] w (LeavesRA w rb HR GA (reAS a (K.map (·.2))) (.tuple #[])) := by
  obtain ⟨xb, yb, cx, cy, rd, hM, ok⟩ := h
  obtain ⟨va, vc, rfl⟩ := hK.rd.form
  have okS := reAS_ok ok (K.map (·.2))
  have START : Hid (RaM w rb xb yb cx cy rd HR GA { a with D := firstF (reF K) a.D 0 } ∧ TurnG HR w w) := ⟨by rw [firstF_zero]; exact hM, TurnG.refl _ _⟩
  have FINI : Hid (∀ wr, RaM wr rb xb yb cx cy rd HR GA { a with D := firstF (reF K) a.D a.D.length } → TurnG HR w wr → RaAt ((wr.setCell ⟨rb, 3, none⟩ (.bool false)).setCell ⟨rb, 2, none⟩ (.int .i64 (-1))) rb HR GA (reAS a (K.map (·.2))) ∧ TurnG HR w ((wr.setCell ⟨rb, 3, none⟩ (.bool false)).setCell ⟨rb, 2, none⟩ (.int .i64 (-1)))) := fun wr hM' t' => by
    rw [firstF_all] at hM'
    have M2 := (hM'.setOff false).setLeft (l := -1) (by decide)
    exact ⟨⟨xb, yb, cx, cy, rd, M2, okS⟩, (t'.trans (setCell_turnG hM'.hr)).trans (setCell_turnG hM'.hr)⟩
  have hd2 := hM.d2
  clear hM okS
  go_enter Tryz.func52, Tryz.ntmps52
  go_wp2
  go_loopw [4] (fun i wr => ∃ k : Nat, k ≤ a.D.length ∧ i = .int .i64 (k : Int) ∧ RaM wr rb xb yb cx cy rd HR GA { a with D := firstF (reF K) a.D k } ∧ TurnG HR w wr) (fun i _ => a.D.length - (intOf i).toNat)
  case atStart => exact ⟨0, Nat.zero_le _, rfl, START.out⟩
  case round =>
    clear START
    obtain ⟨k, hk, rfl, hM, hT⟩ := hrel
    have hfl : ({ a with D := firstF (reF K) a.D k } : ArS).D.length = a.D.length := firstF_len
    have c0 := hM.c0
    rw [hfl] at c0
    by_cases hlt : k < a.D.length
    · have hlt' : (k : Int) < (a.D.length : Int) := by omega
      have g1 : IntKind.i64.wrap ((k : Int) + 1) = ((k + 1 : Nat) : Int) := by rw [IntKind.wrap_i64]; omega
      have hk2 : k < (firstF (reF K) a.D k).length := by rw [firstF_len]; exact hlt
      have x0 := hM.x k hk2
      obtain ⟨vl, vw, Tl, Tw, hI⟩ := hM.dk k hk2
      have hsu : (firstF (reF K) a.D k).set k (reF K k (a.D.getD k default)) = firstF (reF K) a.D (k + 1) := firstF_succ hlt
      have hat : ({ a with D := firstF (reF K) a.D k } : ArS).D.getD k default = a.D.getD k default := firstF_at hlt
      rw [hat] at hI
      have okd := okF ok hlt
      obtain ⟨d, hd⟩ : ∃ d, d = a.D.getD k default := ⟨_, rfl⟩
      rw [← hd] at hsu hI okd
      have HK := hK.grew (Grew.of_turn hT)
      have hrd : HR (rd k) := hM.hd k hk2
      clear hat hd
      by_cases hkk : k < K.length
      · have hkk' : (k : Int) < (K.length : Int) := by omega
        obtain ⟨b, off, rfl, hb, hrow⟩ := HK.rd.at hkk
        have hAp : ApartG (fun x => x = rd k) (K.getD k default).1 := fun x n c e => (HK.each _ (VI_mem hkk) x n c e).imp id (fun h1 h2 => h1 (by have h3 : x.block = rd k := h2; rw [h3]; exact hrd))
        have hsz := hs _ (VI_mem hkk)
        rw [reF_in hkk] at hsu
        obtain ⟨r, hr⟩ : ∃ r, r = K.getD k default := ⟨_, rfl⟩
        rw [← hr] at hrow hAp hsz hsu
        obtain ⟨rc, rrd, rwf⟩ := hrow
        obtain ⟨rv, rl⟩ := r
        simp only at rc rrd rwf hAp hsz hsu
        obtain ⟨ra, rcp, rfl⟩ := rrd.form
        have bD : Below wr.heap.size wr wr.drew := (Below.refl _ _).drew
        have hMD := hM.below bD
        have KC := rcrash_any (hI.below bD) okd (rrd.below bD) hAp hsz
        have hTD : TurnG HR w wr.drew := hT.drew
        have c0D : wr.drew.cell? ⟨rb, 0, none⟩ = some (.slice (some ⟨xb, 0, none⟩) a.D.length cx) := c0
        have x0D : wr.drew.cell? ⟨xb, k, none⟩ = some (.pointer (some ⟨rd k, 0, none⟩)) := x0
        have rcD : wr.drew.cell? ⟨b, off + k, none⟩ = some (.slice ra rl.length rcp) := rc
        have nb : ¬ HR b := by
          rcases HK.ap _ _ _ rfl with e | e
          · omega
          · exact e
        have nx : xb ≠ rd k ∧ rb ≠ rd k ∧ b ≠ rd k := ⟨fun e => (hM.off k hk2).2.1 e.symm, fun e => (hM.off k hk2).1 e.symm, fun e => nb (by rw [e]; exact hrd)⟩
        have ls : rb < wr.heap.size ∧ xb < wr.heap.size := ⟨hM.lt _ hM.hr, hM.lt _ hM.hx⟩
        clear hr hI
        go_wp2_with fail
        go_region_held3 (fun wx => wx.cell? ⟨rb, 0, none⟩ = some (.slice (some ⟨xb, 0, none⟩) a.D.length cx) ∧ wx.cell? ⟨xb, k, none⟩ = some (.pointer (some ⟨rd k, 0, none⟩)) ∧ wx.cell? ⟨b, off + k, none⟩ = some (.slice ra rl.length rcp)) (first | exact ⟨c0, x0, rc⟩ | exact ⟨c0D, x0D, rcD⟩ | exact s1) (first
          | (go_at_call 87; go_loud (refine KC.mono ?_); rintro _ w1 ⟨rfl, R1, t1⟩; have M1 := hMD.disk hk2 R1 t1; have s1 := (show _ ∧ _ ∧ _ from ⟨(t1.cell (p := ⟨rb, 0, none⟩) ls.1 nx.2.1).trans c0D, (t1.cell (p := ⟨xb, k, none⟩) ls.2 nx.1).trans x0D, (t1.cell (p := ⟨b, off + k, none⟩) hb nx.2.2).trans rcD⟩)))
        have E2 : Hid (RaM w1 rb xb yb cx cy rd HR GA { a with D := firstF (reF K) a.D (k + 1) } ∧ TurnG HR w w1) := by
          rw [← hsu]
          exact ⟨M1, hTD.trans (hMD.turnD hk2 t1)⟩
        clear hM hT hsu hk2 M1 R1 t1 KC HK hAp rrd rwf rc x0 c0 hfl hrd bD hMD hTD c0D x0D rcD nb nx ls s1
        go_wp2
        go_roundw
        case rel => exact ⟨k + 1, by omega, by go_num, E2.out⟩
        case measure => simp [intOf]; omega
      · have hkk' : ¬ (k : Int) < (K.length : Int) := by omega
        rw [reF_out hkk] at hsu
        have KC := rcrash_any hI okd (v := .slice none 0 0) (K := []) (Or.inl ⟨none, 0, rfl, rfl⟩) (ApartG.nil _ _ _) (by simp)
        clear hI
        go_wp2_with fail
        refine KC.mono ?_
        rintro _ w1 ⟨rfl, R1, t1⟩
        have M1 := hM.disk hk2 R1 t1
        have E2 : Hid (RaM w1 rb xb yb cx cy rd HR GA { a with D := firstF (reF K) a.D (k + 1) } ∧ TurnG HR w w1) := by
          rw [← hsu]
          exact ⟨M1, hT.trans (hM.turnD hk2 t1)⟩
        clear hM hT hsu hk2 M1 R1 t1 KC HK x0 c0 hfl hrd
        go_wp2
        go_roundw
        case rel => exact ⟨k + 1, by omega, by go_num, E2.out⟩
        case measure => simp [intOf]; omega
    · have hlt' : ¬ (k : Int) < (a.D.length : Int) := by omega
      have hkn : k = a.D.length := by omega
      rw [hkn] at hM
      have c2 := hM.c2
      have c3 := hM.c3
      have f2 := hM.f2
      have f3 := hM.f3
      have E2 := FINI.out wr hM hT
      have E3 : Hid _ := E2
      clear hM hT FINI hfl E2 hK
      go_wp2
      go_end0
      exact ⟨rfl, E3.out⟩
end
end Go.Proofs.YtgahaebfgmbckaaGreat.Gf

namespace Go.Proofs.YtgahaebfgmbckaaGreat.Gf
set_option linter.unusedVariables false
set_option linter.unusedSimpArgs false
open Go.RowKit
section
variable {w : World} {ab : Nat} {GA : Nat → Prop} {a : ArS}
theorem alasts_at (h : ArAt w ab GA a) {j : Nat} (hj : j < a.D.length) : Calls Tryz.prog 22 #[.pointer (some ⟨ab, 0, none⟩), .int .i64 (j : Int)] w fun e w' => ∃ v, e = .returned v ∧ OwnH w' w.heap.size v (heldL (a.D.getD j default).last (a.D.getD j default).s) ∧ Below w.heap.size w w' := by
  obtain ⟨mb, db, GD, hM, ok⟩ := h
  have KP := @amem_at w ab mb _ hM.c0 j hj
  have KW := dlasts_any (hM.dk j hj)
  have m0 := hM.m0 j hj
  clear hM ok
  go_enter Tryz.func22, Tryz.ntmps22
  go_wp2_with fail
  refine KP.mono ?_
  rintro _ wq ⟨rfl, hwq⟩
  rw [hwq]
  clear hwq wq KP
  go_wp2_with fail
  refine KW.mono ?_
  rintro _ w1 ⟨v, rfl, O1, B1⟩
  go_wp2
  go_ret
  exact ⟨_, rfl, O1, B1⟩
theorem alasts_no (h : ArAt w ab GA a) {i : Int} (hi : ¬ thA a i) : Calls Tryz.prog 22 #[.pointer (some ⟨ab, 0, none⟩), .int .i64 i] w fun e w' => e = .returned (.slice none 0 0) ∧ w' = w := by
  obtain ⟨mb, db, GD, hM, ok⟩ := h
  have K := @amem_no w ab mb _ hM.c0 i hi
  clear hM ok
  go_enter Tryz.func22, Tryz.ntmps22
  go_wp2_with fail
  refine K.mono ?_
  rintro _ wq ⟨rfl, hwq⟩
  rw [hwq]
  clear hwq wq K
  go_wp2
  go_ret
  exact ⟨rfl, rfl⟩
theorem awaits_at (h : ArAt w ab GA a) {j : Nat} (hj : j < a.D.length) : Calls Tryz.prog 23 #[.pointer (some ⟨ab, 0, none⟩), .int .i64 (j : Int)] w fun e w' => ∃ v, e = .returned v ∧ OwnH w' w.heap.size v (heldL (a.D.getD j default).wait (a.D.getD j default).s) ∧ Below w.heap.size w w' := by
  obtain ⟨mb, db, GD, hM, ok⟩ := h
  have KP := @amem_at w ab mb _ hM.c0 j hj
  have KW := dwaits_any (hM.dk j hj)
  have m0 := hM.m0 j hj
  clear hM ok
  go_enter Tryz.func23, Tryz.ntmps23
  go_wp2_with fail
  refine KP.mono ?_
  rintro _ wq ⟨rfl, hwq⟩
  rw [hwq]
  clear hwq wq KP
  go_wp2_with fail
  refine KW.mono ?_
  rintro _ w1 ⟨v, rfl, O1, B1⟩
  go_wp2
  go_ret
  exact ⟨_, rfl, O1, B1⟩
theorem awaits_no (h : ArAt w ab GA a) {i : Int} (hi : ¬ thA a i) : Calls Tryz.prog 23 #[.pointer (some ⟨ab, 0, none⟩), .int .i64 i] w fun e w' => e = .returned (.slice none 0 0) ∧ w' = w := by
  obtain ⟨mb, db, GD, hM, ok⟩ := h
  have K := @amem_no w ab mb _ hM.c0 i hi
  clear hM ok
  go_enter Tryz.func23, Tryz.ntmps23
  go_wp2_with fail
  refine K.mono ?_
  rintro _ wq ⟨rfl, hwq⟩
  rw [hwq]
  clear hwq wq K
  go_wp2
  go_ret
  exact ⟨rfl, rfl⟩
end
end Go.Proofs.YtgahaebfgmbckaaGreat.Gf

namespace Go.Proofs.YtgahaebfgmbckaaGreat.Gf
set_option linter.unusedVariables false
set_option linter.unusedSimpArgs false
open Go.RowKit
theorem info_int13 : (Tryz.prog.info? 3).map (fun i => (i.zero, i.size, i.bytes)) = some (some (.int .i64 0), 1, 8) := by kernel_rfl
section
variable {w : World} {ab : Nat} {GA : Nat → Prop} {a : ArS}
set_option maxRecDepth 100000 in
theorem abirths_any (h : ArAt w ab GA a) : Calls Tryz.prog 28 #[.pointer (some ⟨ab, 0, none⟩)] w (MadeRow w 3 a.D.length (fun i => .int .i64 (a.B.getD i 0))) := by
  obtain ⟨mb, db, GD, hM, ok⟩ := h
  have c0 := hM.c0
  have d2 := hM.d2
  have mk1 := run_make_row' (P := Tryz.prog) 59 3 (.int .i64 0) 8 Tryz.underlying59 info_int13 rfl .i64 .i64 a.D.length (by omega) (by omega)
  obtain ⟨u, hu⟩ : ∃ u, u = w.alloc (Obj.cells (madeCells #[Value.int .i64 0] a.D.length) 3) := ⟨_, rfl⟩
  have hub : Below w.heap.size w u := by rw [hu]; exact belA _ _
  have hur : u.rowIs w.heap.size 3 a.D.length (fun _ => .int .i64 0) := by rw [hu]; exact World.rowIs_made _ _ _ _
  have hM1 := hM.below hub
  have c0m := hM1.c0
  have mk2 := mk1 w
  obtain ⟨g, hg⟩ : ∃ g, Hid (g = w.heap.size) := ⟨_, rfl⟩
  rw [← hu, ← hg.out] at mk2
  rw [← hg.out] at hur
  clear mk1 hu
  go_enter Tryz.func28, Tryz.ntmps28
  go_wp2
  have START : Hid (u.rowIs g 3 a.D.length (fun j => if j < 0 then .int .i64 (a.B.getD j 0) else .int .i64 0) ∧ Below w.heap.size w u) := ⟨hur, hub⟩
  clear hM1 c0m mk2 hub hur ok c0
  go_loopw [19] (fun i wr => ∃ k : Nat, k ≤ a.D.length ∧ i = .int .i64 (k : Int) ∧ wr.rowIs g 3 a.D.length (fun j => if j < k then .int .i64 (a.B.getD j 0) else .int .i64 0) ∧ Below w.heap.size w wr) (fun i _ => a.D.length - (intOf i).toNat)
  case atStart => exact ⟨0, Nat.zero_le _, rfl, START.out⟩
  case round =>
    clear START
    obtain ⟨k, hk, rfl, hr, hb⟩ := hrel
    by_cases hlt : k < a.D.length
    · have hlt' : (k : Int) < (a.D.length : Int) := by omega
      have g1 : IntKind.i64.wrap ((k : Int) + 1) = ((k + 1 : Nat) : Int) := by rw [IntKind.wrap_i64]; omega
      have hMr := hM.below hb
      have m0 := hMr.m0 k hlt
      have m1 := hMr.m1 k hlt
      obtain ⟨z, hz⟩ : ∃ z, Hid (z = a.B.getD k 0) := ⟨_, rfl⟩
      rw [← hz.out] at m1
      have cq := fun o => (hr.alloc o).cell hlt
      have fq := fun o => (hr.alloc o).frozen k
      have E2 : Hid (∀ o, ((wr.alloc o).setCell ⟨g, k, none⟩ (.int .i64 z)).rowIs g 3 a.D.length (fun j => if j < k + 1 then .int .i64 (a.B.getD j 0) else .int .i64 0) ∧ Below w.heap.size w ((wr.alloc o).setCell ⟨g, k, none⟩ (.int .i64 z))) := by
        intro o
        refine ⟨((hr.alloc o).set k (.int .i64 z)).congr fun j hj => ?_, (hb.trans ((belA wr o).mono hb.size)).setCell (by rw [hg.out]; exact Nat.le_refl _) _⟩
        by_cases e : j = k
        · rw [if_pos e, if_pos (by omega), e, hz.out]
        · rw [if_neg e]
          by_cases e2 : j < k
          · rw [if_pos e2, if_pos (by omega)]
          · rw [if_neg e2, if_neg (by omega)]
      clear hMr hr hb
      go_wp2
      go_roundw
      case rel => exact ⟨k + 1, by omega, by go_num, E2.out _⟩
      case measure => simp [intOf]; omega
    · have hlt' : ¬ (k : Int) < (a.D.length : Int) := by omega
      have hkn : k = a.D.length := by omega
      have FIN : Hid (wr.rowIs g 3 a.D.length (fun j => .int .i64 (a.B.getD j 0)) ∧ w.heap.size ≤ g ∧ Below w.heap.size w wr) := ⟨hr.congr fun j hj => if_pos (by omega), by rw [hg.out]; exact Nat.le_refl _, hb⟩
      clear hr hb
      go_wp2
      go_ret
      exact ⟨g, rfl, FIN.out⟩
end
end Go.Proofs.YtgahaebfgmbckaaGreat.Gf

namespace Go.Proofs.YtgahaebfgmbckaaGreat.Gf
set_option linter.unusedVariables false
set_option linter.unusedSimpArgs false
open Go.RowKit
theorem OwnH.rdA {w : World} {base : Nat} {v : Value} {L : List (Int × List UInt8)} (h : OwnH w base v L) (hl : L.length ≤ 100000) : RdH w v L := by
  obtain ⟨T, h1, h2⟩ := h
  exact ⟨T, h1, h2.rd (by rw [← h1, bareT_length] at hl; exact hl)⟩
theorem held_few {a : ArS} (ok : a.Ok) {i : Nat} (hi : i < a.D.length) (f : Int → Option (List UInt8)) : (heldL f (a.D.getD i default).s).length ≤ 100000 := by
  have h1 : a.D.getD i default ∈ a.D := by
    rw [show a.D.getD i default = a.D[i] by simp [List.getD, hi]]
    exact List.getElem_mem hi
  have h2 := (ok.each _ h1).s2
  have h3 := heldL_length f (a.D.getD i default).s
  omega
end Go.Proofs.YtgahaebfgmbckaaGreat.Gf

namespace Go.Proofs.YtgahaebfgmbckaaGreat.Gf
set_option linter.unusedVariables false
set_option linter.unusedSimpArgs false
open Go.RowKit
section
variable {w : World} {rb : Nat} {HR GA : Nat → Prop} {a : ArS}
def lvF (a : ArS) (k : Nat) : List Value := (List.range k).map fun i => .bool (!(a.D.getD i default).dead)
theorem lvF_succ (a : ArS) (k : Nat) : lvF a k ++ [.bool (!(a.D.getD k default).dead)] = lvF a (k + 1) := by simp [lvF, List.range_succ]
set_option maxRecDepth 100000 in
theorem rliveA_any (h : RaAt w rb HR GA a) : Calls Tryz.prog 26 #[.pointer (some ⟨rb, 0, none⟩)] w fun e w' => ∃ v, e = .returned v ∧ w'.ownsRow w.heap.size 4 1 v a.D.length (lvF a a.D.length) ∧ Below w.heap.size w w' := by
  obtain ⟨xb, yb, cx, cy, rd, hM, ok⟩ := h
  obtain ⟨i0, hi, hz0, hz1, hz2⟩ := info_parts info_bool13
  have hd2 := hM.d2
  have START : Hid (w.ownsRow w.heap.size 4 1 (.slice none 0 0) 0 (lvF a 0) ∧ Below w.heap.size w w) := ⟨⟨rfl, Or.inl ⟨rfl, rfl⟩⟩, Below.refl _ _⟩
  go_enter Tryz.func26, Tryz.ntmps26
  go_wp2
  go_loopw [3, 4] (fun ov i wr => ∃ k : Nat, k ≤ a.D.length ∧ i = .int .i64 (k : Int) ∧ wr.ownsRow w.heap.size 4 1 ov k (lvF a k) ∧ Below w.heap.size w wr) (fun _ i _ => a.D.length - (intOf i).toNat)
  case atStart => exact ⟨0, Nat.zero_le _, rfl, START.out⟩
  case round =>
    clear START
    obtain ⟨k, hk, rfl, ho, hb⟩ := hrel
    have hMr := hM.below hb
    have c0 := hMr.c0
    by_cases hlt : k < a.D.length
    · have hlt' : (k : Int) < (a.D.length : Int) := by omega
      have g1 : IntKind.i64.wrap ((k : Int) + 1) = ((k + 1 : Nat) : Int) := by rw [IntKind.wrap_i64]; omega
      have x0 := hMr.x k hlt
      have d0 : wr.cell? ⟨rd k, 3, none⟩ = some (.bool (a.D.getD k default).dead) := by
        obtain ⟨vl, vw, Tl, Tw, hI⟩ := hMr.dk k hlt
        exact hI.c3
      have hsu : Hid _ := lvF_succ a k
      obtain ⟨x, hx⟩ : ∃ x, x = (a.D.getD k default).dead := ⟨_, rfl⟩
      rw [← hx] at d0 hsu
      have oA := World.ownsRow.alloc ho (.cells #[.bool (!x)] 4)
      have bA := hb.trans ((belA wr (.cells #[.bool (!x)] 4)).mono hb.size)
      clear hMr hx
      · go_wp2_with (at_builtin; go_loud (refine wpList_append_v _ rfl (.tmp 14) (.tmp 26) 33 rfl w.heap.size 4 i0 (.bool false) 1 Tryz.underlying33 hi hz0 hz1 hz2 rfl (by decide) u3 k (lvF a k) rfl oA wr.heap.size 1 (.bool (!x)) rfl (World.cell?_alloc_new _ _ _ 0) rfl (by omega) bA.size ?_); intro ov' w4 h4 g4 e4)
        rw [hsu.out] at h4
        have E4 : Hid (w4.ownsRow w.heap.size 4 1 ov' (k + 1) (lvF a (k + 1)) ∧ Below w.heap.size w w4) := ⟨h4, bA.grown g4 bA.size (fun q hq => (row_at oA hq).1)⟩
        clear h4 g4 e4 oA bA ho hb hsu c0 x0 d0
        go_roundw
        case rel => exact ⟨k + 1, by omega, by go_num, E4.out⟩
        case measure => simp [intOf]; omega
    · have hlt' : ¬ (k : Int) < (a.D.length : Int) := by omega
      obtain rfl : k = a.D.length := by omega
      have FIN : Hid _ := And.intro ho hb
      clear ho hb hMr
      go_wp2
      go_ret
      exact ⟨_, rfl, FIN.out⟩
end
end Go.Proofs.YtgahaebfgmbckaaGreat.Gf
