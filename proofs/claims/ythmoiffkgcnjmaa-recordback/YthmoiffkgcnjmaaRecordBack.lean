/- PROVED: for every record r and every list b of bytes the call RecordBack(r, b) returns true, and its arguments read behind it as before; no conditions. -/
import Derived.ProofKit
import Derived.ShutString
import Derived.ChangeOld
import Derived.Below
import Derived.Test.YthmoiffkgcnjmaaTome12
import Derived.Test.YthmoiffkgcnjmaaTome13
namespace Go.Proofs.Ythmoiffkgcnjmaa.recordBack
open Go.ChangeShapes Go.WideShapes Go.ChangeAt Go.RowKit
open Go.ChangeMaps (open_string shut_string)
set_option linter.unusedVariables false

theorem own : ownKnob Try.prog.godebug = none := by kernel_rfl
theorem laidOut : laidOutB Try.prog = true := by kernel_rfl

/-- WHAT THE WALK IS TOLD OF A SLICE OF INTEGERS THAT CAME IN: it is nil; or it leads to a row of 'cap' cells, the numbers 'zs' (the first 'len' are its elements, the rest its spare room), each fitting its kind. -/
def IsRow (k : IntKind) (w : World) (a : Option Addr) (len cap : Nat) (zs : List Int) : Prop :=
  (a = none ∧ len = 0 ∧ cap = 0 ∧ zs = []) ∨
  ∃ x, a = some x ∧ len ≤ cap ∧ cap ≤ maxLen ∧ zs.length = cap ∧ (∀ i, i < zs.length → w.cell? (x.add i) = some (.int k (zs.getD i 0))) ∧ ∀ n ∈ zs, (Lit.int k n).wf = true

open Gf
set_option linter.unusedSimpArgs false
theorem back_tail {p : Prop} (h : p := by
  by_cases hR : IsR P
  rotate_left
  · have KD := dec16_any (RB.out uz T) hPl (X := 160) (if_neg hR) (r := noR) (if_neg hR)
    try go_wp2_with fail
    refine KD.mono ?_
    rintro _ ud ⟨c, rfl, hc, hi, b, -⟩
    clear KD
    obtain ⟨cr, vs⟩ := c
    simp only at hc
    subst hc
    obtain ⟨va, vc, ev⟩ := hi.rs.form
    simp only at ev
    subst ev
    rw [show aggR ⟨noR, .slice va noR.st.length vc⟩ = .agg #[.int .i64 0, .string ⟨#[]⟩, .int .i64 0, .slice va 0 vc] from rfl]
    have FIN : Hid (∀ o, Below w.heap.size w (ud.alloc o)) := fun o => FR.out _ ((T.step16 b T.size).step16 (belR _ _) (Nat.le_trans T.size b.size))
    clear hi b T hR
    go_wp2
    go_ret
    exact ⟨rfl, FIN.out _⟩
  · have KD := dec16_any (RB.out uz T) hPl (X := 0) (if_pos hR) (r := raR P) (if_pos hR)
    try go_wp2_with fail
    refine KD.mono ?_
    rintro _ ud ⟨c, rfl, hc, hi, b, -⟩
    clear KD
    obtain ⟨⟨kd, ky, ln, st⟩, vs⟩ := c
    obtain ⟨va, vc, ev⟩ := hi.rs.form
    simp only at ev hc
    subst ev
    rw [show aggR ⟨⟨kd, ky, ln, st⟩, .slice va st.length vc⟩ = .agg #[.int .i64 kd, .string ⟨ky.toArray⟩, .int .i64 ln, .slice va st.length vc] from rfl]
    obtain ⟨ue, hue⟩ : ∃ ue, ue = ud.alloc (.cells #[.int .i64 kd, .string ⟨ky.toArray⟩, .int .i64 ln, .slice va st.length vc] 25) := ⟨_, rfl⟩
    have be : Below ud.heap.size ud ue := by rw [hue]; exact belR _ _
    have T2 := (T.step16 b T.size).step16 be (Nat.le_trans T.size b.size)
    have i2 := hi.below be
    have ok : OkR ⟨kd, ky, ln, st⟩ := by rw [hc]; exact (isR_back hR).1
    have eP : Hid (enR ⟨kd, ky, ln, st⟩ = P) := by show _ = _; rw [hc]; exact (isR_back hR).2
    have KE : Calls Try.prog 11 #[.agg #[.int .i64 kd, .string ⟨ky.toArray⟩, .int .i64 ln, .slice va st.length vc]] ue (MakesE16 ue 0 P) := enc16_any (c := ⟨⟨kd, ky, ln, st⟩, .slice va st.length vc⟩) i2 (if_pos ok) (by rw [if_pos ok]; exact eP.out)
    clear hi b T hR hc be i2 ok
    go_wp2_with fail
    rw [← hue]
    clear hue
    refine KE.mono ?_
    rintro _ uf ⟨vy, rfl, Ry, b⟩
    clear KE
    have T3 := T2.step16 b T2.size
    obtain ⟨ya, yc, ey⟩ := Ry.form
    subst ey
    have KS := same_b Ry (RB.out uf T3)
    go_wp2_with fail
    refine KS.mono ?_
    rintro _ ug ⟨rfl, b2⟩
    clear KS
    have FIN := FR.out _ (T3.step16 b2 T3.size)
    rw [sameB_of rfl]
    clear Ry b b2 T2 T3
    go_wp2
    go_ret
    exact ⟨rfl, FIN⟩) : p := h

set_option maxRecDepth 100000 in
set_option maxHeartbeats 4000000 in
theorem walk (c0 : RcV) (a1 : Option Addr) (len1 cap1 : Nat) (z1 : List Int) (w : World) (w0 : c0.In w) (w1 : IsRow .u8 w a1 len1 cap1 z1) :
    Calls Try.prog 5 #[aggR c0, .slice a1 len1 cap1] w fun e w' => e = .returned (.bool true) ∧ Below w.heap.size w w' := by
  obtain ⟨P, rfl, RP⟩ := rd_row w1
  obtain ⟨⟨k0, y0, n0, s0⟩, v0⟩ := c0
  obtain ⟨a0, p0, e⟩ := w0.rs.form
  simp only at e
  subst e
  obtain ⟨ab, cb, eb⟩ := RP.form
  simp at eb
  obtain ⟨rfl, rfl, rfl⟩ := eb
  show Calls Try.prog 5 #[.agg #[.int .i64 k0, .string ⟨y0.toArray⟩, .int .i64 n0, .slice a0 s0.length p0], .slice a1 P.length cap1] w _
  obtain ⟨wb, hwb⟩ : ∃ wb, wb = w.alloc (.cells #[.int .i64 k0, .string ⟨y0.toArray⟩, .int .i64 n0, .slice a0 s0.length p0] 25) := ⟨_, rfl⟩
  have BB : Below w.heap.size w wb := by rw [hwb]; exact belR _ _
  have sb : wb.heap.size = w.heap.size + 1 := by rw [hwb]; simp
  have KP : Hid (∀ W, Below wb.heap.size wb W → W.cell? ⟨w.heap.size, 0, none⟩ = some (.int .i64 k0) ∧ W.cell? ⟨w.heap.size, 1, none⟩ = some (.string ⟨y0.toArray⟩) ∧ W.cell? ⟨w.heap.size, 2, none⟩ = some (.int .i64 n0) ∧ W.cell? ⟨w.heap.size, 3, none⟩ = some (.slice a0 s0.length p0)) := by
    have g : ∀ j, wb.cell? ⟨w.heap.size, j, none⟩ = #[Value.int .i64 k0, .string ⟨y0.toArray⟩, .int .i64 n0, .slice a0 s0.length p0][j]? := fun j => by rw [hwb, World.cell?_alloc_new]
    have f0 : ∀ W, Below wb.heap.size wb W → ∀ j, W.cell? ⟨w.heap.size, j, none⟩ = wb.cell? ⟨w.heap.size, j, none⟩ := fun W b j => b.cell (p := ⟨w.heap.size, j, none⟩) (by show w.heap.size < _; omega)
    exact fun W b => ⟨(f0 W b 0).trans (g 0), (f0 W b 1).trans (g 1), (f0 W b 2).trans (g 2), (f0 W b 3).trans (g 3)⟩
  have I0 := w0.below BB
  have FR : Hid (∀ W, Below wb.heap.size wb W → Below w.heap.size w W) := fun W b => BB.step16 b BB.size
  have RB : Hid (∀ W, Below wb.heap.size wb W → Rd W (.slice a1 P.length cap1) P) := fun W b => (RP.below BB).below b
  have I0' : Hid (∀ W, Below wb.heap.size wb W → RcV.In W ⟨⟨k0, y0, n0, s0⟩, .slice a0 s0.length p0⟩) := fun W b => I0.below b
  clear BB sb I0 w0 RP w1
  go_enter Try.func5, Try.ntmps5
  go_wp2_with fail
  rw [← hwb]
  clear hwb
  refine (awake16_any _).mono ?_
  rintro _ u1 ⟨rfl, T⟩
  obtain ⟨z0, z1, z2, z3⟩ := KP.out u1 T
  have KF : Calls Try.prog 10 #[.agg #[.int .i64 k0, .string ⟨y0.toArray⟩, .int .i64 n0, .slice a0 s0.length p0]] u1 (fun e w' => e = .returned (.bool (decide (y0.length ≤ 300 ∧ s0.length ≤ 300))) ∧ Below u1.heap.size u1 w') := few16_any (c := ⟨⟨k0, y0, n0, s0⟩, .slice a0 s0.length p0⟩) (I0'.out u1 T)
  go_wp2_with fail
  refine KF.mono ?_
  rintro _ u2 ⟨rfl, b⟩
  clear KF z0 z1 z2 z3
  replace T := T.step16 b T.size
  clear b
  by_cases hf0 : y0.length ≤ 300 ∧ s0.length ≤ 300
  rotate_left
  · have FIN := FR.out _ T
    rw [decide_eq_false hf0]
    clear hf0
    go_wp2
    go_ret
    exact ⟨rfl, FIN⟩
  rw [decide_eq_true hf0]
  clear hf0
  by_cases hP : (P.length : Int) > 1000
  · have FIN := FR.out _ T
    go_wp2
    go_ret
    exact ⟨rfl, FIN⟩
  have hPl : P.length ≤ 100000 := by omega
  obtain ⟨z0, z1, z2, z3⟩ := KP.out u2 T
  by_cases o0 : OkR ⟨k0, y0, n0, s0⟩
  rotate_left
  · have KE : Calls Try.prog 11 #[.agg #[.int .i64 k0, .string ⟨y0.toArray⟩, .int .i64 n0, .slice a0 s0.length p0]] u2 (MakesE16 u2 1 []) := enc16_any (c := ⟨⟨k0, y0, n0, s0⟩, .slice a0 s0.length p0⟩) (I0'.out u2 T) (if_neg o0) (if_neg o0)
    go_wp2_with fail
    refine KE.mono ?_
    rintro _ uz ⟨vx, rfl, Rx, b⟩
    clear KE z0 z1 z2 z3
    replace T := T.step16 b T.size
    obtain ⟨xa, xc, ex⟩ := Rx.form
    subst ex
    clear b Rx o0
    exact back_tail
  have KE : Calls Try.prog 11 #[.agg #[.int .i64 k0, .string ⟨y0.toArray⟩, .int .i64 n0, .slice a0 s0.length p0]] u2 (MakesE16 u2 0 (enR ⟨k0, y0, n0, s0⟩)) := enc16_any (c := ⟨⟨k0, y0, n0, s0⟩, .slice a0 s0.length p0⟩) (I0'.out u2 T) (if_pos o0) (if_pos o0)
  obtain ⟨Q, hQ⟩ : ∃ Q, Hid (Q = enR ⟨k0, y0, n0, s0⟩) := ⟨_, rfl⟩
  have lQ : 8 ≤ Q.length ∧ Q.length ≤ 600 := by
    have h1 := o0.2.2.1
    have h2 := o0.2.2.2.2.2.1
    rw [hQ.out, enR_length]
    simp only at h1 h2 ⊢
    omega
  have Q1 : Hid (IsR Q ∧ raR Q = ⟨k0, y0, n0, s0⟩) := by rw [hQ.out]; exact isR_en o0
  have Q2 : Hid (¬ IsR (Q.take (Q.length - 1))) := by rw [hQ.out]; exact isR_less o0
  have Q3 : Hid (¬ IsR (Q ++ [0])) := by rw [hQ.out]; exact isR_more o0 0
  have ls : s0.length ≤ 256 := o0.2.2.2.2.2.1
  rw [← hQ.out] at KE
  clear hQ
  go_wp2_with fail
  refine KE.mono ?_
  rintro _ u3 ⟨vx, rfl, Rx, b⟩
  clear KE z0 z1 z2 z3 o0
  replace T := T.step16 b T.size
  clear b
  obtain ⟨xa, xc, ex⟩ := Rx.form
  subst ex
  have KD := dec16_any Rx (by omega) (X := 0) (if_pos Q1.out.1) (r := ⟨k0, y0, n0, s0⟩) (by rw [if_pos Q1.out.1]; exact Q1.out.2)
  go_wp2_with fail
  refine KD.mono ?_
  rintro _ u4 ⟨c, rfl, hc, hi, b, -⟩
  clear KD
  obtain ⟨cr, vs⟩ := c
  simp only at hc
  subst hc
  obtain ⟨va, vc, ev⟩ := hi.rs.form
  simp only at ev
  subst ev
  rw [show aggR ⟨⟨k0, y0, n0, s0⟩, .slice va s0.length vc⟩ = .agg #[.int .i64 k0, .string ⟨y0.toArray⟩, .int .i64 n0, .slice va s0.length vc] from rfl]
  obtain ⟨u5, hu5⟩ : ∃ u5, u5 = u4.alloc (.cells #[.int .i64 k0, .string ⟨y0.toArray⟩, .int .i64 n0, .slice va s0.length vc] 25) := ⟨_, rfl⟩
  have b5 : Below u4.heap.size u4 u5 := by rw [hu5]; exact belR _ _
  have bx : Below u3.heap.size u3 u5 := b.step16 b5 b.size
  have T5 := T.step16 bx T.size
  have i5 := hi.below b5
  obtain ⟨z0, z1, z2, z3⟩ := KP.out u5 T5
  rw [hu5] at z0 z1 z2 z3
  have KA : Calls Try.prog 16 #[.agg #[.int .i64 k0, .string ⟨y0.toArray⟩, .int .i64 n0, .slice va s0.length vc], .agg #[.int .i64 k0, .string ⟨y0.toArray⟩, .int .i64 n0, .slice a0 s0.length p0]] u5 (fun e w' => e = .returned (.bool true) ∧ Below u5.heap.size u5 w') := same16_any (c := ⟨⟨k0, y0, n0, s0⟩, .slice va s0.length vc⟩) (d := ⟨⟨k0, y0, n0, s0⟩, .slice a0 s0.length p0⟩) i5 (I0'.out u5 T5) (by show s0.length ≤ _; omega) (by show s0.length ≤ _; omega) (sameR_iff.2 rfl)
  replace Rx := Rx.below bx
  clear hi b b5 bx i5 T
  go_wp2_with fail
  rw [← hu5]
  clear hu5 z0 z1 z2 z3
  refine KA.mono ?_
  rintro _ u6 ⟨rfl, b⟩
  clear KA
  replace Rx := Rx.below b
  have T := T5.step16 b T5.size
  clear b T5
  have q0 : ((Q.length : Int) == 0) = false := by rw [beq_eq_false_iff_ne]; omega
  obtain ⟨m1, hm1⟩ : ∃ m1 : Nat, Hid (m1 = Q.length - 1) := ⟨_, rfl⟩
  have q1 : (Q.length : Int) - 1 = (m1 : Int) := by rw [hm1.out]; omega
  have q2 : IntKind.i64.wrap (m1 : Int) = (m1 : Int) := by rw [IntKind.wrap_i64]; omega
  have E1 := fun W => cut_hi16 W xa (n := Q.length) (c := xc) (k := m1) (by have := (rd_cap Rx).2; omega)
  have KD := dec16_any (Rx.first16 (k := m1) (by omega)) (by rw [List.length_take]; omega) (X := 160) (if_neg (by rw [hm1.out]; exact Q2.out)) (r := noR) (if_neg (by rw [hm1.out]; exact Q2.out))
  go_wp2_with fail
  refine KD.mono ?_
  rintro _ u7 ⟨c, rfl, hc, hi, b, -⟩
  clear KD E1 q1 q2
  obtain ⟨cr, vs⟩ := c
  simp only at hc
  subst hc
  obtain ⟨va7, vc7, ev⟩ := hi.rs.form
  simp only at ev
  subst ev
  rw [show aggR ⟨noR, .slice va7 noR.st.length vc7⟩ = .agg #[.int .i64 0, .string ⟨#[]⟩, .int .i64 0, .slice va7 0 vc7] from rfl]
  clear hi
  obtain ⟨u8, hu8⟩ : ∃ u8, u8 = u7.alloc (.cells #[.int .i64 0, .string ⟨#[]⟩, .int .i64 0, .slice va7 0 vc7] 25) := ⟨_, rfl⟩
  have b8 : Below u6.heap.size u6 u8 := b.step16 (by rw [hu8]; exact belR _ _) b.size
  replace Rx := Rx.below b8
  replace T := T.step16 b8 T.size
  have s8 : u8.heap.size = u7.heap.size + 1 := by rw [hu8]; simp
  clear b b8
  obtain ⟨i0, hi, hz0, hz1, hz2⟩ := info_parts info_u8
  have oL : OwnP (u8.alloc (.cells #[] 5)) u8.heap.size 5 (.slice (some ⟨u7.heap.size + 1, 0, none⟩) 0 0) [] := ⟨rfl, .inr ⟨u8.heap.size, 0, #[], by rw [s8]; rfl, Nat.le_refl _, heap_alloc_new u8 _, Nat.le_refl _, by decide, rfl, rfl⟩⟩
  have bL : Below u8.heap.size u8 (u8.alloc (.cells #[] 5)) := belR _ _
  have RxL := Rx.below bL
  rw [hu8] at oL bL RxL
  rw [← hu8] at oL bL
  have oL' : OwnP ((u7.alloc (.cells #[.int .i64 0, .string ⟨#[]⟩, .int .i64 0, .slice va7 0 vc7] 25)).alloc (.cells #[] 5)) u8.heap.size 5 (.slice (some ⟨u7.heap.size + 1, 0, none⟩) 0 0) [] := by rw [← hu8]; exact oL
  have bL' : Below u8.heap.size u8 ((u7.alloc (.cells #[.int .i64 0, .string ⟨#[]⟩, .int .i64 0, .slice va7 0 vc7] 25)).alloc (.cells #[] 5)) := by rw [← hu8]; exact bL
  clear oL bL s8
  go_wp2_with (first
    | (at_builtin; (refine wpList_append_rd2 _ rfl (.tmp 66) (.tmp 67) 26 rfl u8.heap.size 5 i0 Try.underlying26 hi hz0 hz1 hz2 _ _ _ rfl oL' _ Q rfl RxL (by show 0 + _ ≤ _; omega) bL'.size ?_); intro v9 w9 h9 g9 e9; have o9 := cat16 h9; have B9 := bL'.grown g9 bL'.size (fun q hq => (World.ownsRow.lt oL' q hq).1); clear h9 g9 e9 oL' RxL bL'; have oM := OwnP.alloc o9 (.cells #[.int .u8 0] 5); have bM := B9.step16 (belR w9 (.cells #[.int .u8 0] 5)) B9.size; have rM : Rd (w9.alloc (.cells #[.int .u8 0] 5)) (.slice (some ⟨w9.heap.size, 0, none⟩) 1 1) [0] := rd_lit [0] rfl rfl (by decide))
    | (at_builtin; (refine wpList_append_rd2 _ rfl (.tmp 68) (.tmp 69) 26 rfl u8.heap.size 5 i0 Try.underlying26 hi hz0 hz1 hz2 _ _ _ rfl oM _ [0] rfl rM (by rw [List.nil_append]; show Q.length + 1 ≤ _; omega) bM.size ?_); intro v10 w10 h10 g10 e10; have o10 := cat16 h10; have B10 := bM.grown g10 bM.size (fun q hq => (World.ownsRow.lt oM q hq).1); clear h10 g10 e10 oM rM bM))
  have R10 : Rd w10 v10 (Q ++ [0]) := Rd.owned o10
  have KD := dec16_any R10 (by rw [List.length_append]; show Q.length + 1 ≤ _; omega) (X := 160) (if_neg Q3.out) (r := noR) (if_neg Q3.out)
  refine KD.mono ?_
  rintro _ u11 ⟨c, rfl, hc, hi, b, -⟩
  clear KD R10 o10
  obtain ⟨cr, vs⟩ := c
  simp only at hc
  subst hc
  obtain ⟨va11, vc11, ev⟩ := hi.rs.form
  simp only at ev
  subst ev
  rw [show aggR ⟨noR, .slice va11 noR.st.length vc11⟩ = .agg #[.int .i64 0, .string ⟨#[]⟩, .int .i64 0, .slice va11 0 vc11] from rfl]
  clear hi
  obtain ⟨uz, huz⟩ : ∃ uz, uz = u11.alloc (.cells #[.int .i64 0, .string ⟨#[]⟩, .int .i64 0, .slice va11 0 vc11] 25) := ⟨_, rfl⟩
  have bz : Below u8.heap.size u8 uz := (B10.step16 b B10.size).step16 (by rw [huz]; exact belR _ _) (Nat.le_trans B10.size b.size)
  replace T := T.step16 bz T.size
  clear b bz B9 B10 Rx q0 hu8
  go_wp2_with fail
  rw [← huz]
  clear huz
  exact back_tail

/-! ### THE ROW's STEP: WRITTEN OUT: LEAVE IT -/
set_option maxRecDepth 100000 in
set_option maxHeartbeats 2000000 in
theorem lifted (os : Os) (started : os.Started) (H : Type) (enc : TypeId × Value → H) :
    ReturnsInHanded {} Try.checked os 5 .any (Rows.recordBackSpec.pre6 enc Try.prog Try.f5 Rows.recordBackRow.domain false) (Rows.recordBackSpec.post enc Try.prog Try.f5 false true false false) := by
  refine returnsInHanded_of_change (C := Try.checked) own started (by kernel_rfl) Try.func5
    (ChangeSpec.witness6 (enc := enc) (C := Try.checked) false ⟨#[], #[.agg #[.int .i64 0, .string ⟨#[]⟩, .int .i64 0, .slice none 0 0], .slice none 0 0], []⟩ 8 (by kernel_rfl) (by kernel_rfl) (by kernel_rfl) (by kernel_rfl)) ?_
  intro W base args ds gs before hval0 hW hcnd _
  have hval : ∀ (j : Nat) t v, Try.f5.params[j]? = some t → args[j]? = some v → Value.okWide Try.prog W .any base t v := hval0
  have hW' := hW
  obtain ⟨p, q, hA0, hV, rfl, hfz, hnd⟩ := hW
  have hA : DataW.TrodAll enc Try.prog W 0 (fun _ => true) true Try.f5.params.toList args.toList ds p := hA0
  rw [Try.params5] at hA hval
  obtain ⟨v0, vs0, d0, ds0, p0, q0, hargs, rfl, rfl, h0, r0⟩ := trodAll_cons hA
  obtain ⟨v1, vs1, d1, ds1, p1, q1, rfl, rfl, rfl, h1, r1⟩ := trodAll_cons r0
  obtain ⟨rfl, rfl, rfl⟩ := trodAll_nil r1
  obtain rfl : args = #[v0, v1] := by cases args; simp_all
  obtain ⟨rfl, rfl⟩ := trodVars_none hV
  have k0 := h0
  have lt0 : ∀ x ∈ p0, x.block < W.heap.size := by obtain ⟨m, hm⟩ := k0; exact DataW.trod_lt m _ _ _ hm
  obtain ⟨c0, rfl, w0⟩ := open_rec (si := 3) Try.underlying25 (by kernel_rfl) (by kernel_rfl) (by kernel_rfl) (by kernel_rfl) (by kernel_rfl) (by kernel_rfl) (by kernel_rfl) (by kernel_rfl) (hval 0 25 v0 rfl rfl) h0
  obtain ⟨a1, len1, cap1, rfl⟩ := okWide_slice Try.underlying26 (hval 1 26 v1 rfl rfl)
  have k1 := h1
  have lt1 : ∀ x ∈ p1, x.block < W.heap.size := by obtain ⟨m, hm⟩ := k1; exact DataW.trod_lt m _ _ _ hm
  obtain ⟨z1, w1⟩ : ∃ zs, IsRow .u8 W a1 len1 cap1 zs := by
    obtain ⟨fuel, hf⟩ := h1
    rcases open_ints Try.underlying26 Try.underlying5 (by kernel_rfl) hf with ⟨hcs, _⟩ | ⟨x, l, c, zs, hcs, _, hl, hm, hz, _, hcell, hwz⟩
    · simp [Value.cells] at hcs
      obtain ⟨rfl, rfl, rfl⟩ := hcs
      exact ⟨[], .inl ⟨rfl, rfl, rfl, rfl⟩⟩
    · simp [Value.cells] at hcs
      obtain ⟨rfl, rfl, rfl⟩ := hcs
      exact ⟨zs, .inr ⟨_, rfl, hl, hm, by simpa using hz, hcell, hwz⟩⟩
  clear hA0 hval0
  refine (walk c0 a1 len1 cap1 z1 W w0 w1).mono fun e W' ⟨he, bel⟩ => ?_
  subst he
  exact ⟨_, rfl, _, _, _, [], _, [], hW', trodAll_mk1 (shut_bool Try.underlying4 _), (trodAll_cons_mk (Below.trod laidOut (by kernel_rfl) (of_decide_eq_true (by kernel_rfl)) k0 bel lt0) (trodAll_cons_mk (Below.trod laidOut (by kernel_rfl) (of_decide_eq_true (by kernel_rfl)) k1 bel lt1) trodAll_mk0)), rfl, bel.frame _, fun h => by cases h⟩

theorem over : Rows.recordBackRow.holds Try.pinned (OpenSpec.ofChange Rows.recordBackSpec) :=
  OpenClaim.holds_of_wide 5 Try.f5 rfl rfl rfl rfl rfl rfl rfl ⟨rfl, rfl, rfl, rfl, rfl⟩ rfl rfl rfl rfl rfl (by kernel_rfl) Try.func5 (by kernel_rfl)
    (of_decide_eq_true (by kernel_rfl)) (by unfold Func.isWrapper; first | (rw [if_pos (by decide +kernel)]; kernel_rfl) | (rw [if_neg (by decide +kernel)]; exact ⟨rfl, rfl⟩))
    (fun os started H enc _ => lifted os started H enc)

/-- ████ THE STATEMENT ████ -/
theorem proved : Rows.RecordBackSaid := over
end Go.Proofs.Ythmoiffkgcnjmaa.recordBack
namespace Go.Proofs.Ythmoiffkgcnjmaa
theorem recordBack_holds : Rows.RecordBackSaid := recordBack.proved
#print axioms recordBack_holds
end Go.Proofs.Ythmoiffkgcnjmaa
