/- PROVED: for every record r and every list b of bytes the call RecordTells(r, b) returns true, and its arguments read behind it as before; no conditions. -/
import Derived.ProofKit
import Derived.ShutString
import Derived.ChangeOld
import Derived.Below
import Derived.Test.YthmoiffkgcnjmaaPome13
import Derived.Test.YthmoiffkgcnjmaaPome16
namespace Go.Proofs.Ythmoiffkgcnjmaa.recordTells
open Go.ChangeShapes Go.WideShapes Go.ChangeAt Go.RowKit
open Go.ChangeMaps (open_string shut_string)
set_option linter.unusedVariables false

theorem own : ownKnob Try.prog.godebug = none := by kernel_rfl
theorem laidOut : laidOutB Try.prog = true := by kernel_rfl

/-- WHAT THE WALK IS TOLD OF A SLICE OF INTEGERS THAT CAME IN: it is nil; or it leads to a row of 'cap' cells, the numbers 'zs' (the first 'len' are its elements, the rest its spare room), each fitting its kind. -/
def IsRow (k : IntKind) (w : World) (a : Option Addr) (len cap : Nat) (zs : List Int) : Prop :=
  (a = none ∧ len = 0 ∧ cap = 0 ∧ zs = []) ∨
  ∃ x, a = some x ∧ len ≤ cap ∧ cap ≤ maxLen ∧ zs.length = cap ∧ (∀ i, i < zs.length → w.cell? (x.add i) = some (.int k (zs.getD i 0))) ∧ ∀ n ∈ zs, (Lit.int k n).wf = true

open Gf
set_option linter.unusedSimpArgs false
theorem dec_st (P : List UInt8) : (if IsR P then raR P else noR).st.length < 65536 := by
  by_cases h : IsR P
  · rw [if_pos h]
    show (stN _ _).length < _
    rw [stN_length]; exact un_lt _
  · rw [if_neg h]; decide

set_option maxRecDepth 100000 in
set_option maxHeartbeats 4000000 in
theorem walk (c0 : RcV) (a1 : Option Addr) (len1 cap1 : Nat) (z1 : List Int) (w : World) (w0 : c0.In w) (w1 : IsRow .u8 w a1 len1 cap1 z1) :
    Calls Try.prog 4 #[aggR c0, .slice a1 len1 cap1] w fun e w' => e = .returned (.bool true) ∧ Below w.heap.size w w' := by
  obtain ⟨P, rfl, RP⟩ := rd_row w1
  obtain ⟨⟨k0, y0, n0, s0⟩, v0⟩ := c0
  obtain ⟨a0, p0, e⟩ := w0.rs.form
  simp only at e
  subst e
  obtain ⟨ab, cb, eb⟩ := RP.form
  simp at eb
  obtain ⟨rfl, rfl, rfl⟩ := eb
  show Calls Try.prog 4 #[.agg #[.int .i64 k0, .string ⟨y0.toArray⟩, .int .i64 n0, .slice a0 s0.length p0], .slice a1 P.length cap1] w _
  obtain ⟨wb, hwb⟩ : ∃ wb, wb = w.alloc (.cells #[.int .i64 k0, .string ⟨y0.toArray⟩, .int .i64 n0, .slice a0 s0.length p0] 25) := ⟨_, rfl⟩
  have BB : Below w.heap.size w wb := by rw [hwb]; exact belR _ _
  have sb : wb.heap.size = w.heap.size + 1 := by rw [hwb]; simp
  have KP : Hid (∀ W, Below wb.heap.size wb W → W.cell? ⟨w.heap.size, 0, none⟩ = some (.int .i64 k0) ∧ W.cell? ⟨w.heap.size, 1, none⟩ = some (.string ⟨y0.toArray⟩) ∧ W.cell? ⟨w.heap.size, 2, none⟩ = some (.int .i64 n0) ∧ W.cell? ⟨w.heap.size, 3, none⟩ = some (.slice a0 s0.length p0)) := by
    have g : ∀ j, wb.cell? ⟨w.heap.size, j, none⟩ = #[Value.int .i64 k0, .string ⟨y0.toArray⟩, .int .i64 n0, .slice a0 s0.length p0][j]? := fun j => by rw [hwb, World.cell?_alloc_new]
    have f0 : ∀ W, Below wb.heap.size wb W → ∀ j, W.cell? ⟨w.heap.size, j, none⟩ = wb.cell? ⟨w.heap.size, j, none⟩ := fun W b j => b.cell (p := ⟨w.heap.size, j, none⟩) (by show w.heap.size < _; omega)
    exact fun W b => ⟨(f0 W b 0).trans (g 0), (f0 W b 1).trans (g 1), (f0 W b 2).trans (g 2), (f0 W b 3).trans (g 3)⟩
  have I0 := w0.below BB
  have FR : Hid (∀ W, Below wb.heap.size wb W → Below w.heap.size w W) := fun W b => BB.step16 b BB.size
  have RB : Hid (∀ W, Below wb.heap.size wb W → Rd W (.slice a1 P.length cap1) P) := fun W b => (RP.below BB).below b
  have I0' : Hid (∀ W, Below wb.heap.size wb W → RcV.In W ⟨⟨k0, y0, n0, s0⟩, .slice a0 s0.length p0⟩) := fun W b => I0.below b
  clear BB sb I0 w0 RP w1
  go_enter Try.func4, Try.ntmps4
  go_wp2_with fail
  rw [← hwb]
  clear hwb
  refine (awake16_any _).mono ?_
  rintro _ u1 ⟨rfl, T⟩
  obtain ⟨z0, z1, z2, z3⟩ := KP.out u1 T
  have KF : Calls Try.prog 10 #[.agg #[.int .i64 k0, .string ⟨y0.toArray⟩, .int .i64 n0, .slice a0 s0.length p0]] u1 (fun e w' => e = .returned (.bool (decide (y0.length ≤ 300 ∧ s0.length ≤ 300))) ∧ Below u1.heap.size u1 w') := few16_any (c := ⟨⟨k0, y0, n0, s0⟩, .slice a0 s0.length p0⟩) (I0'.out u1 T)
  go_wp2_with fail
  refine KF.mono ?_
  rintro _ u2 ⟨rfl, b⟩
  clear KF z0 z1 z2 z3
  replace T := T.step16 b T.size
  clear b
  by_cases hf0 : y0.length ≤ 300 ∧ s0.length ≤ 300
  rotate_left
  · have FIN := FR.out _ T
    rw [decide_eq_false hf0]
    clear hf0
    go_wp2
    go_ret
    exact ⟨rfl, FIN⟩
  rw [decide_eq_true hf0]
  clear hf0
  by_cases hP : (P.length : Int) > 1000
  · have FIN := FR.out _ T
    go_wp2
    go_ret
    exact ⟨rfl, FIN⟩
  have hPl : P.length ≤ 100000 := by omega
  obtain ⟨z0, z1, z2, z3⟩ := KP.out u2 T
  obtain ⟨Q, hQ⟩ : ∃ Q, (if OkR ⟨k0, y0, n0, s0⟩ then enR ⟨k0, y0, n0, s0⟩ else []) = Q := ⟨_, rfl⟩
  obtain ⟨x0, hx0⟩ : ∃ x0, chR ⟨k0, y0, n0, s0⟩ = x0 := ⟨_, rfl⟩
  obtain ⟨rd, hrd⟩ : ∃ rd, (if IsR P then raR P else noR) = rd := ⟨_, rfl⟩
  obtain ⟨xd, hxd⟩ : ∃ xd, (if IsR P then (0 : Int) else 160) = xd := ⟨_, rfl⟩
  have lrd : Hid (rd.st.length < 65536) := by rw [← hrd]; exact dec_st P
  have HQ : Hid _ := hQ
  have HX0 : Hid _ := hx0
  have HRD : Hid _ := hrd
  have HXD : Hid _ := hxd
  clear hQ hx0 hrd hxd
  have KE : Calls Try.prog 11 #[.agg #[.int .i64 k0, .string ⟨y0.toArray⟩, .int .i64 n0, .slice a0 s0.length p0]] u2 (MakesE16 u2 x0 Q) := enc16_any (c := ⟨⟨k0, y0, n0, s0⟩, .slice a0 s0.length p0⟩) (I0'.out u2 T) HX0.out HQ.out
  go_wp2_with fail
  refine KE.mono ?_
  rintro _ u3 ⟨vx, rfl, Rx, b⟩
  clear KE z0 z1 z2 z3
  replace T := T.step16 b T.size
  clear b
  obtain ⟨xa, xc, ex⟩ := Rx.form
  subst ex
  obtain ⟨z0, z1, z2, z3⟩ := KP.out u3 T
  have KE : Calls Try.prog 12 #[.agg #[.int .i64 k0, .string ⟨y0.toArray⟩, .int .i64 n0, .slice a0 s0.length p0]] u3 (MakesE16 u3 x0 Q) := renc16_any (c := ⟨⟨k0, y0, n0, s0⟩, .slice a0 s0.length p0⟩) (I0'.out u3 T) HX0.out HQ.out
  go_wp2_with fail
  refine KE.mono ?_
  rintro _ u4 ⟨vy, rfl, Ry, b⟩
  clear KE z0 z1 z2 z3
  replace T := T.step16 b T.size
  replace Rx := Rx.below b
  clear b
  obtain ⟨ya, yc, ey⟩ := Ry.form
  subst ey
  have KD := dec16_any (RB.out u4 T) hPl HXD.out HRD.out
  go_wp2_with fail
  refine KD.mono ?_
  rintro _ u5 ⟨c, rfl, hc, hi, b, -⟩
  clear KD
  obtain ⟨⟨kc, yc', nc, sc⟩, vs⟩ := c
  obtain ⟨va, vc, ev⟩ := hi.rs.form
  simp only at ev hc
  subst ev
  rw [show aggR ⟨⟨kc, yc', nc, sc⟩, .slice va sc.length vc⟩ = .agg #[.int .i64 kc, .string ⟨yc'.toArray⟩, .int .i64 nc, .slice va sc.length vc] from rfl]
  obtain ⟨u6, hu6⟩ : ∃ u6, u6 = u5.alloc (.cells #[.int .i64 kc, .string ⟨yc'.toArray⟩, .int .i64 nc, .slice va sc.length vc] 25) := ⟨_, rfl⟩
  have b6 : Below u5.heap.size u5 u6 := by rw [hu6]; exact belR _ _
  have bx := b.step16 b6 b.size
  replace T := T.step16 bx T.size
  replace Rx := Rx.below bx
  replace Ry := Ry.below bx
  have i6 := hi.below b6
  have l6 : u5.heap.size < u6.heap.size := by rw [hu6]; show u5.heap.size < (u5.heap.push _).size; rw [Array.size_push]; exact Nat.lt_succ_self _
  have gC : Hid (∀ W, Below u6.heap.size u6 W → W.cell? ⟨u5.heap.size, 0, none⟩ = some (.int .i64 kc) ∧ W.cell? ⟨u5.heap.size, 1, none⟩ = some (.string ⟨yc'.toArray⟩) ∧ W.cell? ⟨u5.heap.size, 2, none⟩ = some (.int .i64 nc) ∧ W.cell? ⟨u5.heap.size, 3, none⟩ = some (.slice va sc.length vc)) := by
    have g : ∀ j, u6.cell? ⟨u5.heap.size, j, none⟩ = #[Value.int .i64 kc, .string ⟨yc'.toArray⟩, .int .i64 nc, .slice va sc.length vc][j]? := fun j => by rw [hu6, World.cell?_alloc_new]
    exact fun W q => ⟨(q.cell (p := ⟨u5.heap.size, 0, none⟩) l6).trans (g 0), (q.cell (p := ⟨u5.heap.size, 1, none⟩) l6).trans (g 1), (q.cell (p := ⟨u5.heap.size, 2, none⟩) l6).trans (g 2), (q.cell (p := ⟨u5.heap.size, 3, none⟩) l6).trans (g 3)⟩
  clear hi b b6 bx l6
  have KD := rdec16_any (RB.out u6 T) hPl HXD.out HRD.out
  go_wp2_with fail
  rw [← hu6]
  clear hu6
  refine KD.mono ?_
  rintro _ u7 ⟨c, rfl, hd, hi, b, -⟩
  clear KD
  obtain ⟨⟨kd, yd, nd, sd⟩, vs⟩ := c
  obtain ⟨vb', vd, ev⟩ := hi.rs.form
  simp only at ev hd
  subst ev
  have ECD : (⟨kc, yc', nc, sc⟩ : RcS) = ⟨kd, yd, nd, sd⟩ := hc.trans hd.symm
  simp only [RcS.mk.injEq] at ECD
  obtain ⟨rfl, rfl, rfl, rfl⟩ := ECD
  rw [show aggR ⟨⟨kc, yc', nc, sc⟩, .slice vb' sc.length vd⟩ = .agg #[.int .i64 kc, .string ⟨yc'.toArray⟩, .int .i64 nc, .slice vb' sc.length vd] from rfl]
  obtain ⟨u8, hu8⟩ : ∃ u8, u8 = u7.alloc (.cells #[.int .i64 kc, .string ⟨yc'.toArray⟩, .int .i64 nc, .slice vb' sc.length vd] 25) := ⟨_, rfl⟩
  have b8 : Below u7.heap.size u7 u8 := by rw [hu8]; exact belR _ _
  have bx := b.step16 b8 b.size
  replace T := T.step16 bx T.size
  replace Rx := Rx.below bx
  replace Ry := Ry.below bx
  have i8 := hi.below b8
  replace i6 := i6.below bx
  have lsc : sc.length ≤ 1000000 := by have := lrd.out; rw [← hc] at this; simp only at this; omega
  have l8 : u7.heap.size < u8.heap.size := by rw [hu8]; show u7.heap.size < (u7.heap.push _).size; rw [Array.size_push]; exact Nat.lt_succ_self _
  have gD : Hid (∀ W, Below u8.heap.size u8 W → W.cell? ⟨u7.heap.size, 0, none⟩ = some (.int .i64 kc) ∧ W.cell? ⟨u7.heap.size, 1, none⟩ = some (.string ⟨yc'.toArray⟩) ∧ W.cell? ⟨u7.heap.size, 2, none⟩ = some (.int .i64 nc) ∧ W.cell? ⟨u7.heap.size, 3, none⟩ = some (.slice vb' sc.length vd)) := by
    have g : ∀ j, u8.cell? ⟨u7.heap.size, j, none⟩ = #[Value.int .i64 kc, .string ⟨yc'.toArray⟩, .int .i64 nc, .slice vb' sc.length vd][j]? := fun j => by rw [hu8, World.cell?_alloc_new]
    exact fun W q => ⟨(q.cell (p := ⟨u7.heap.size, 0, none⟩) l8).trans (g 0), (q.cell (p := ⟨u7.heap.size, 1, none⟩) l8).trans (g 1), (q.cell (p := ⟨u7.heap.size, 2, none⟩) l8).trans (g 2), (q.cell (p := ⟨u7.heap.size, 3, none⟩) l8).trans (g 3)⟩
  have KS := same_b Rx Ry
  have BX : Hid (Below u6.heap.size u6 u8) := bx
  clear hi b b8 bx l8 Rx Ry hc hd
  go_wp2_with fail
  rw [← hu8]
  clear hu8
  refine KS.mono ?_
  rintro _ u9 ⟨rfl, b⟩
  clear KS
  rw [sameB_of rfl]
  have T9 := T.step16 b T.size
  obtain ⟨z0, z1, z2, z3⟩ := gC.out u9 (BX.out.step16 b BX.out.size)
  obtain ⟨q0, q1, q2, q3⟩ := gD.out u9 b
  have KA : Calls Try.prog 16 #[.agg #[.int .i64 kc, .string ⟨yc'.toArray⟩, .int .i64 nc, .slice va sc.length vc], .agg #[.int .i64 kc, .string ⟨yc'.toArray⟩, .int .i64 nc, .slice vb' sc.length vd]] u9 (fun e w' => e = .returned (.bool true) ∧ Below u9.heap.size u9 w') := same16_any (c := ⟨⟨kc, yc', nc, sc⟩, .slice va sc.length vc⟩) (d := ⟨⟨kc, yc', nc, sc⟩, .slice vb' sc.length vd⟩) (i6.below b) (i8.below b) lsc lsc (sameR_iff.2 rfl)
  clear b i6 i8 T
  go_wp2_with fail
  refine KA.mono ?_
  rintro _ ua ⟨rfl, b⟩
  clear KA z0 z1 z2 z3 q0 q1 q2 q3
  have T := T9.step16 b T9.size
  clear T9 b gC gD BX
  have KC1 : ∀ W, Below ua.heap.size ua W → Calls Try.prog 17 #[.agg #[.int .i64 k0, .string ⟨y0.toArray⟩, .int .i64 n0, .slice a0 s0.length p0]] W (fun e w' => e = .returned (.int .i64 x0) ∧ Below ua.heap.size ua w') := fun W q => (chk16_any (c := ⟨⟨k0, y0, n0, s0⟩, .slice a0 s0.length p0⟩) (I0'.out W (T.step16 q T.size)) HX0.out).mono fun e w' ⟨he, hb⟩ => ⟨he, q.step16 hb q.size⟩
  have KC2 : ∀ W, Below ua.heap.size ua W → Calls Try.prog 18 #[.agg #[.int .i64 k0, .string ⟨y0.toArray⟩, .int .i64 n0, .slice a0 s0.length p0]] W (fun e w' => e = .returned (.int .i64 x0) ∧ Below ua.heap.size ua w') := fun W q => (rchk16_any (c := ⟨⟨k0, y0, n0, s0⟩, .slice a0 s0.length p0⟩) (I0'.out W (T.step16 q T.size)) HX0.out).mono fun e w' ⟨he, hb⟩ => ⟨he, q.step16 hb q.size⟩
  have SB : ∀ W, Below ua.heap.size ua W → W.cell? ⟨w.heap.size, 0, none⟩ = some (.int .i64 k0) ∧ W.cell? ⟨w.heap.size, 1, none⟩ = some (.string ⟨y0.toArray⟩) ∧ W.cell? ⟨w.heap.size, 2, none⟩ = some (.int .i64 n0) ∧ W.cell? ⟨w.heap.size, 3, none⟩ = some (.slice a0 s0.length p0) := fun W q => KP.out W (T.step16 q T.size)
  have FB : Hid (∀ W, Below ua.heap.size ua W → Below w.heap.size w W) := fun W q => FR.out W (T.step16 q T.size)
  have D0 : Below ua.heap.size ua ua.drew := (Below.refl _ _).drew
  clear T KP I0' FR RB
  go_wp2
  go_region_held3 (fun wx => wx.cell? ⟨w.heap.size, 0, none⟩ = some (.int .i64 k0) ∧ wx.cell? ⟨w.heap.size, 1, none⟩ = some (.string ⟨y0.toArray⟩) ∧ wx.cell? ⟨w.heap.size, 2, none⟩ = some (.int .i64 n0) ∧ wx.cell? ⟨w.heap.size, 3, none⟩ = some (.slice a0 s0.length p0)) (exact SB _ (by assumption)) (first | (go_at_call 17; refine (KC1 _ (by assumption)).mono ?_; rintro _ wc ⟨rfl, bc⟩) | (go_at_call 18; refine (KC2 _ (by assumption)).mono ?_; rintro _ wd ⟨rfl, bd⟩))
  have FIN := FB.out _ bd
  clear KC1 KC2 SB FB
  go_wp2
  go_ret
  exact ⟨rfl, FIN⟩

/-! ### THE ROW's STEP: WRITTEN OUT: LEAVE IT -/
set_option maxRecDepth 100000 in
set_option maxHeartbeats 2000000 in
theorem lifted (os : Os) (started : os.Started) (H : Type) (enc : TypeId × Value → H) :
    ReturnsInHanded {} Try.checked os 4 .any (Rows.recordTellsSpec.pre6 enc Try.prog Try.f4 Rows.recordTellsRow.domain false) (Rows.recordTellsSpec.post enc Try.prog Try.f4 false true false false) := by
  refine returnsInHanded_of_change (C := Try.checked) own started (by kernel_rfl) Try.func4
    (ChangeSpec.witness6 (enc := enc) (C := Try.checked) false ⟨#[], #[.agg #[.int .i64 0, .string ⟨#[]⟩, .int .i64 0, .slice none 0 0], .slice none 0 0], []⟩ 8 (by kernel_rfl) (by kernel_rfl) (by kernel_rfl) (by kernel_rfl)) ?_
  intro W base args ds gs before hval0 hW hcnd _
  have hval : ∀ (j : Nat) t v, Try.f4.params[j]? = some t → args[j]? = some v → Value.okWide Try.prog W .any base t v := hval0
  have hW' := hW
  obtain ⟨p, q, hA0, hV, rfl, hfz, hnd⟩ := hW
  have hA : DataW.TrodAll enc Try.prog W 0 (fun _ => true) true Try.f4.params.toList args.toList ds p := hA0
  rw [Try.params4] at hA hval
  obtain ⟨v0, vs0, d0, ds0, p0, q0, hargs, rfl, rfl, h0, r0⟩ := trodAll_cons hA
  obtain ⟨v1, vs1, d1, ds1, p1, q1, rfl, rfl, rfl, h1, r1⟩ := trodAll_cons r0
  obtain ⟨rfl, rfl, rfl⟩ := trodAll_nil r1
  obtain rfl : args = #[v0, v1] := by cases args; simp_all
  obtain ⟨rfl, rfl⟩ := trodVars_none hV
  have k0 := h0
  have lt0 : ∀ x ∈ p0, x.block < W.heap.size := by obtain ⟨m, hm⟩ := k0; exact DataW.trod_lt m _ _ _ hm
  obtain ⟨c0, rfl, w0⟩ := open_rec (si := 3) Try.underlying25 (by kernel_rfl) (by kernel_rfl) (by kernel_rfl) (by kernel_rfl) (by kernel_rfl) (by kernel_rfl) (by kernel_rfl) (by kernel_rfl) (hval 0 25 v0 rfl rfl) h0
  obtain ⟨a1, len1, cap1, rfl⟩ := okWide_slice Try.underlying26 (hval 1 26 v1 rfl rfl)
  have k1 := h1
  have lt1 : ∀ x ∈ p1, x.block < W.heap.size := by obtain ⟨m, hm⟩ := k1; exact DataW.trod_lt m _ _ _ hm
  obtain ⟨z1, w1⟩ : ∃ zs, IsRow .u8 W a1 len1 cap1 zs := by
    obtain ⟨fuel, hf⟩ := h1
    rcases open_ints Try.underlying26 Try.underlying5 (by kernel_rfl) hf with ⟨hcs, _⟩ | ⟨x, l, c, zs, hcs, _, hl, hm, hz, _, hcell, hwz⟩
    · simp [Value.cells] at hcs
      obtain ⟨rfl, rfl, rfl⟩ := hcs
      exact ⟨[], .inl ⟨rfl, rfl, rfl, rfl⟩⟩
    · simp [Value.cells] at hcs
      obtain ⟨rfl, rfl, rfl⟩ := hcs
      exact ⟨zs, .inr ⟨_, rfl, hl, hm, by simpa using hz, hcell, hwz⟩⟩
  clear hA0 hval0
  refine (walk c0 a1 len1 cap1 z1 W w0 w1).mono fun e W' ⟨he, bel⟩ => ?_
  subst he
  exact ⟨_, rfl, _, _, _, [], _, [], hW', trodAll_mk1 (shut_bool Try.underlying4 _), (trodAll_cons_mk (Below.trod laidOut (by kernel_rfl) (of_decide_eq_true (by kernel_rfl)) k0 bel lt0) (trodAll_cons_mk (Below.trod laidOut (by kernel_rfl) (of_decide_eq_true (by kernel_rfl)) k1 bel lt1) trodAll_mk0)), rfl, bel.frame _, fun h => by cases h⟩

theorem over : Rows.recordTellsRow.holds Try.pinned (OpenSpec.ofChange Rows.recordTellsSpec) :=
  OpenClaim.holds_of_wide 4 Try.f4 rfl rfl rfl rfl rfl rfl rfl ⟨rfl, rfl, rfl, rfl, rfl⟩ rfl rfl rfl rfl rfl (by kernel_rfl) Try.func4 (by kernel_rfl)
    (of_decide_eq_true (by kernel_rfl)) (by unfold Func.isWrapper; first | (rw [if_pos (by decide +kernel)]; kernel_rfl) | (rw [if_neg (by decide +kernel)]; exact ⟨rfl, rfl⟩))
    (fun os started H enc _ => lifted os started H enc)

/-- ████ THE STATEMENT ████ -/
theorem proved : Rows.RecordTellsSaid := over
end Go.Proofs.Ythmoiffkgcnjmaa.recordTells
namespace Go.Proofs.Ythmoiffkgcnjmaa
theorem recordTells_holds : Rows.RecordTellsSaid := recordTells.proved
#print axioms recordTells_holds
end Go.Proofs.Ythmoiffkgcnjmaa
