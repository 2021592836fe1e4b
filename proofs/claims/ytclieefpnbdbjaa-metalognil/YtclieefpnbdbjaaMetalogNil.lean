/- PROVED: for every geometry g, every number n and every record r the call MetalogNil(g, n, r) returns true, and its arguments read behind it as before; no conditions. -/
import Derived.ProofKit
import Derived.ShutString
import Derived.ChangeOld
import Derived.Test.YtclieefpnbdbjaaTome41
import Derived.Test.YtclieefpnbdbjaaTome42
namespace Go.Proofs.Ytclieefpnbdbjaa.metalogNil
open Go.ChangeShapes Go.WideShapes Go.ChangeAt Go.RowKit
open Go.ChangeMaps (open_string shut_string)
set_option linter.unusedVariables false

theorem own : ownKnob Try.prog.godebug = none := by kernel_rfl
theorem laidOut : laidOutB Try.prog = true := by kernel_rfl

/-- WHAT THE WALK IS TOLD OF A SLICE OF INTEGERS THAT CAME IN: it is nil; or it leads to a row of 'cap' cells, the numbers 'zs' (the first 'len' are its elements, the rest its spare room), each fitting its kind. -/
def IsRow (k : IntKind) (w : World) (a : Option Addr) (len cap : Nat) (zs : List Int) : Prop :=
  (a = none ∧ len = 0 ∧ cap = 0 ∧ zs = []) ∨
  ∃ x, a = some x ∧ len ≤ cap ∧ cap ≤ maxLen ∧ zs.length = cap ∧ (∀ i, i < zs.length → w.cell? (x.add i) = some (.int k (zs.getD i 0))) ∧ ∀ n ∈ zs, (Lit.int k n).wf = true

open Gf
set_option linter.unusedSimpArgs false
set_option maxRecDepth 100000 in
set_option maxHeartbeats 4000000 in
theorem walk (c0 : GeoS) (a1 : Int) (c2 : RcV) (w : World) (w0 : c0.Wf) (w1 : (Lit.int .i64 a1).wf = true) (w2 : c2.In w) :
    Calls Try.prog 4 #[aggG c0, .int .i64 a1, aggR c2] w fun e w' => e = .returned (.bool true) ∧ Below w.heap.size w w' := by
  obtain ⟨⟨kd, ky, ln, st⟩, vs⟩ := c2
  obtain ⟨va, vc, ev⟩ := w2.rs.form
  simp only at ev
  subst ev
  have KR := fun W => @mreplay_nil W c0 w0 a1
  have KT := fun W => @mlatest_nil W c0 w0
  have KA := fun W (h : RcV.In W ⟨⟨kd, ky, ln, st⟩, .slice va st.length vc⟩) => @mappend_nil W c0 w0 a1 a1 _ h
  have KS := fun W => @msave_nil W c0 w0 0 0 (by decide) (.slice none 0 0) [] (Or.inl ⟨none, 0, rfl, rfl⟩) (fun i hi => absurd hi (Nat.not_lt_zero i))
  have LG := geo_laid w c0 24
  obtain ⟨k, m, z, s, t, o⟩ := c0
  rw [aggE] at KR KT KA KS ⊢
  rw [show aggR ⟨⟨kd, ky, ln, st⟩, .slice va st.length vc⟩ = .agg #[.int .i64 kd, .string ⟨ky.toArray⟩, .int .i64 ln, .slice va st.length vc] from rfl] at KA ⊢
  obtain ⟨wa, hwa⟩ : ∃ wa, wa = w.alloc (.cells (cellsG ⟨k, m, z, s, t, o⟩) 24) := ⟨_, rfl⟩
  rw [← hwa] at LG
  obtain ⟨wb, hwb⟩ : ∃ wb, wb = wa.alloc (.cells #[.int .i64 kd, .string ⟨ky.toArray⟩, .int .i64 ln, .slice va st.length vc] 27) := ⟨_, rfl⟩
  obtain ⟨r0, r1, r2, r3, br, rf, lr⟩ := @lay4r wa (.int .i64 kd) (.string ⟨ky.toArray⟩) (.int .i64 ln) (.slice va st.length vc) 27
  rw [← hwb] at r0 r1 r2 r3 br rf lr
  have sa : wa.heap.size = w.heap.size + 1 := by rw [hwa]; simp
  rw [sa] at r0 r1 r2 r3 rf lr
  have GB := hidI (fun V (b : Below wb.heap.size wb V) => (LG V (br.step16 b br.size)).1)
  have WB := hidI (fun V (b : Below wb.heap.size wb V) => (LG V (br.step16 b br.size)).2)
  have RB := hidI (fun V (b : Below wb.heap.size wb V) => And.intro ((b.cell (p := ⟨w.heap.size + 1, 0, none⟩) lr).trans r0) (And.intro ((b.cell (p := ⟨w.heap.size + 1, 1, none⟩) lr).trans r1) (And.intro ((b.cell (p := ⟨w.heap.size + 1, 2, none⟩) lr).trans r2) ((b.cell (p := ⟨w.heap.size + 1, 3, none⟩) lr).trans r3))))
  have IB := hidI (fun V (b : Below wb.heap.size wb V) => w2.below (LG V (br.step16 b br.size)).2)
  rw [hwa] at hwb
  clear w0 w1 w2 LG hwa r0 r1 r2 r3 br rf lr sa
  go_enter Try.func4, Try.ntmps4
  go_wp2_with fail
  replace hwb : wb = (w.alloc (.cells #[.int .i64 k, .int .i64 m, .int .i64 z, .int .i64 s, .int .i64 t, .int .i64 o] 24)).alloc (.cells #[.int .i64 kd, .string ⟨ky.toArray⟩, .int .i64 ln, .slice va st.length vc] 27) := hwb
  rw [← hwb]
  clear hwb
  refine awake18_any.mono ?_
  rintro _ u1 ⟨rfl, B1⟩
  go_wp2_with fail
  refine mknows_nil.mono ?_
  rintro _ u2 ⟨rfl, b2⟩
  have B2 := B1.step16 b2 B1.size
  obtain ⟨x0, x1, x2, x3, x4, x5⟩ := GB.out u2 B2
  simp only at x0 x1 x2 x3 x4 x5
  clear B1 b2
  go_wp2_with fail
  refine (KR _).mono ?_
  rintro _ u3 ⟨rfl, b3⟩
  clear x0 x1 x2 x3 x4 x5 KR
  have B3 := B2.step16 b3 B2.size
  obtain ⟨x0, x1, x2, x3, x4, x5⟩ := GB.out u3 B3
  simp only at x0 x1 x2 x3 x4 x5
  clear B2 b3
  go_wp2_with fail
  refine (KT _).mono ?_
  rintro _ u4 ⟨rfl, b4⟩
  clear x0 x1 x2 x3 x4 x5 KT
  have B4 := B3.step16 b4 B3.size
  obtain ⟨z0, z1, z2, bz, zf, lz⟩ := @lay3 u4 (.int .i64 0) (.int .i64 0) (.slice none 0 0) 37
  obtain ⟨u5, hu5⟩ : ∃ u5, u5 = u4.alloc (.cells #[.int .i64 0, .int .i64 0, .slice none 0 0] 37) := ⟨_, rfl⟩
  obtain ⟨lb, hlb⟩ : ∃ lb, lb = u4.heap.size := ⟨_, rfl⟩
  rw [← hu5] at z0 z1 z2 bz lz
  have B5 := B4.step16 bz B4.size
  rw [← hlb] at z0 z1 z2 lz
  have LB := hidI (fun V (b : Below u5.heap.size u5 V) => And.intro ((b.cell (p := ⟨lb, 0, none⟩) lz).trans z0) (And.intro ((b.cell (p := ⟨lb, 1, none⟩) lz).trans z1) ((b.cell (p := ⟨lb, 2, none⟩) lz).trans z2)))
  clear B3 b4 B4 z0 z1 z2 bz zf lz
  go_wp2_with fail
  rw [← hu5]
  rw [← hlb]
  clear hu5 hlb
  refine mlabelA_nil.mono ?_
  rintro _ u6 ⟨rfl, b6⟩
  have B6 := B5.step16 b6 B5.size
  obtain ⟨x0, x1, x2, x3, x4, x5⟩ := GB.out u6 B6
  simp only at x0 x1 x2 x3 x4 x5
  obtain ⟨r0, r1, r2, r3⟩ := RB.out u6 B6
  have KA6 := KA u6 (IB.out u6 B6)
  clear KA RB IB
  go_wp2_with fail
  refine KA6.mono ?_
  rintro _ u7 ⟨rfl, b7⟩
  clear x0 x1 x2 x3 x4 x5 r0 r1 r2 r3 KA6
  have b57 := b6.step16 b7 b6.size
  have B7 := B5.step16 b57 B5.size
  obtain ⟨x0, x1, x2, x3, x4, x5⟩ := GB.out u7 B7
  simp only at x0 x1 x2 x3 x4 x5
  obtain ⟨y0, y1, y2⟩ := LB.out u7 b57
  go_wp2_with fail
  refine (KS _).mono ?_
  rintro _ u8 ⟨rfl, b8⟩
  clear x0 x1 x2 x3 x4 x5 y0 y1 y2 KS
  have b58 := b57.step16 b8 b57.size
  have FIN := hidI (WB.out u8 (B5.step16 b58 B5.size))
  obtain ⟨y0, y1, y2⟩ := LB.out u8 b58
  clear B5 B6 B7 b6 b7 b8 b57 b58 GB WB LB
  go_wp2
  go_ret
  exact ⟨rfl, FIN.out⟩

/-! ### THE ROW's STEP: WRITTEN OUT: LEAVE IT -/
set_option maxRecDepth 100000 in
set_option maxHeartbeats 2000000 in
set_option maxHeartbeats 2000000 in
theorem lifted (os : Os) (started : os.Started) (H : Type) (enc : TypeId × Value → H) :
    ReturnsInHanded {} Try.checked os 4 .any (Rows.metalogNilSpec.pre6 enc Try.prog Try.f4 Rows.metalogNilRow.domain false) (Rows.metalogNilSpec.post enc Try.prog Try.f4 false true false false) := by
  refine returnsInHanded_of_change (C := Try.checked) own started (by kernel_rfl) Try.func4
    (ChangeSpec.witness6 (enc := enc) (C := Try.checked) false ⟨#[], #[.agg #[.int .i64 0, .int .i64 0, .int .i64 0, .int .i64 0, .int .i64 0, .int .i64 0], .int .i64 0, .agg #[.int .i64 0, .string ⟨#[]⟩, .int .i64 0, .slice none 0 0]], []⟩ 8 (by kernel_rfl) (by kernel_rfl) (by kernel_rfl) (by kernel_rfl)) ?_
  intro W base args ds gs before hval0 hW hcnd _
  have hval : ∀ (j : Nat) t v, Try.f4.params[j]? = some t → args[j]? = some v → Value.okWide Try.prog W .any base t v := hval0
  have hW' := hW
  obtain ⟨p, q, hA0, hV, rfl, hfz, hnd⟩ := hW
  have hA : DataW.TrodAll enc Try.prog W 0 (fun _ => true) true Try.f4.params.toList args.toList ds p := hA0
  rw [Try.params4] at hA hval
  obtain ⟨v0, vs0, d0, ds0, p0, q0, hargs, rfl, rfl, h0, r0⟩ := trodAll_cons hA
  obtain ⟨v1, vs1, d1, ds1, p1, q1, rfl, rfl, rfl, h1, r1⟩ := trodAll_cons r0
  obtain ⟨v2, vs2, d2, ds2, p2, q2, rfl, rfl, rfl, h2, r2⟩ := trodAll_cons r1
  obtain ⟨rfl, rfl, rfl⟩ := trodAll_nil r2
  obtain rfl : args = #[v0, v1, v2] := by cases args; simp_all
  obtain ⟨rfl, rfl⟩ := trodVars_none hV
  have k0 := h0
  have lt0 : ∀ x ∈ p0, x.block < W.heap.size := by obtain ⟨m, hm⟩ := k0; exact DataW.trod_lt m _ _ _ hm
  obtain ⟨c0, rfl, w0⟩ := open_geo Try.underlying24 (by kernel_rfl) rfl rfl rfl rfl rfl rfl (by kernel_rfl) (by kernel_rfl) (by kernel_rfl) (by kernel_rfl) (by kernel_rfl) (by kernel_rfl) (by kernel_rfl) (by kernel_rfl) (by kernel_rfl) (by kernel_rfl) (by kernel_rfl) (by kernel_rfl) (hval 0 24 v0 rfl rfl) h0
  obtain ⟨a1, rfl, rfl, rfl, w1⟩ := open_int Try.underlying3 (hval 1 3 v1 rfl rfl) h1
  have k2 := h2
  have lt2 : ∀ x ∈ p2, x.block < W.heap.size := by obtain ⟨m, hm⟩ := k2; exact DataW.trod_lt m _ _ _ hm
  obtain ⟨c2, rfl, w2⟩ := open_rec (si := 3) Try.underlying27 (by kernel_rfl) (by kernel_rfl) (by kernel_rfl) (by kernel_rfl) (by kernel_rfl) (by kernel_rfl) (by kernel_rfl) (by kernel_rfl) (hval 2 27 v2 rfl rfl) h2
  clear hA0 hval0
  refine (walk c0 a1 c2 W w0 w1 w2).mono fun e W' ⟨he, bel⟩ => ?_
  subst he
  exact ⟨_, rfl, _, _, _, [], _, [], hW', trodAll_mk1 (shut_bool Try.underlying4 _), (trodAll_cons_mk (Below.trod laidOut (by kernel_rfl) (of_decide_eq_true (by kernel_rfl)) k0 bel lt0) (trodAll_cons_mk (shut_int Try.underlying3 w1) (trodAll_cons_mk (Below.trod laidOut (by kernel_rfl) (of_decide_eq_true (by kernel_rfl)) k2 bel lt2) trodAll_mk0))), rfl, bel.frame _, fun h => by cases h⟩

theorem over : Rows.metalogNilRow.holds Try.pinned (OpenSpec.ofChange Rows.metalogNilSpec) :=
  OpenClaim.holds_of_wide 4 Try.f4 rfl rfl rfl rfl rfl rfl rfl ⟨rfl, rfl, rfl, rfl, rfl⟩ rfl rfl rfl rfl rfl (by kernel_rfl) Try.func4 (by kernel_rfl)
    (of_decide_eq_true (by kernel_rfl)) (by unfold Func.isWrapper; first | (rw [if_pos (by decide +kernel)]; kernel_rfl) | (rw [if_neg (by decide +kernel)]; exact ⟨rfl, rfl⟩))
    (fun os started H enc _ => lifted os started H enc)

/-- ████ THE STATEMENT ████ -/
theorem proved : Rows.MetalogNilSaid := over
end Go.Proofs.Ytclieefpnbdbjaa.metalogNil
namespace Go.Proofs.Ytclieefpnbdbjaa
theorem metalogNil_holds : Rows.MetalogNilSaid := metalogNil.proved
#print axioms metalogNil_holds
end Go.Proofs.Ytclieefpnbdbjaa
