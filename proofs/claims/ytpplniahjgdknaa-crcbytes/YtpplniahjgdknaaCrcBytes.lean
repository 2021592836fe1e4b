/- PROVED: for all numbers sum and other, every list b of bytes and every byte c the call CrcBytes(sum, other, b, c) returns true, and its arguments read behind it as before; no conditions. -/
import Derived.Test.YtpplniahjgdknaaRows
import Derived.Test.YtpplniahjgdknaaCrLaws
import Derived.WalkKit
import Derived.ProofKit
import Derived.OpenShut
import Derived.ShutString
import Derived.ChangeOld
import Derived.Below
namespace Go.Proofs.Ytpplniahjgdknaa.crcBytes
open Go.ChangeShapes Go.WideShapes Go.ChangeAt Go.RowKit
open Go.ChangeMaps (open_string shut_string)
set_option linter.unusedVariables false

theorem own : ownKnob Try.prog.godebug = none := by kernel_rfl
theorem laidOut : laidOutB Try.prog = true := by kernel_rfl

/-- WHAT THE WALK IS TOLD OF A SLICE OF INTEGERS THAT CAME IN: it is nil; or it leads to a row of 'cap' cells, the numbers 'zs' (the first 'len' are its elements, the rest its spare room), each fitting its kind. -/
def IsRow (k : IntKind) (w : World) (a : Option Addr) (len cap : Nat) (zs : List Int) : Prop :=
  (a = none ∧ len = 0 ∧ cap = 0 ∧ zs = []) ∨
  ∃ x, a = some x ∧ len ≤ cap ∧ cap ≤ maxLen ∧ zs.length = cap ∧ (∀ i, i < zs.length → w.cell? (x.add i) = some (.int k (zs.getD i 0))) ∧ ∀ n ∈ zs, (Lit.int k n).wf = true

open Gf
set_option linter.unusedSimpArgs false
set_option maxRecDepth 100000 in
set_option maxHeartbeats 2000000 in
theorem walk (a0 : Int) (a1 : Int) (a2 : Option Addr) (len2 cap2 : Nat) (z2 : List Int) (a3 : Int) (w : World) (w0 : (Lit.int .u32 a0).wf = true) (w1 : (Lit.int .u32 a1).wf = true) (w2 : IsRow .u8 w a2 len2 cap2 z2) (w3 : (Lit.int .u8 a3).wf = true) :
    Calls Try.prog 7 #[.int .u32 a0, .int .u32 a1, .slice a2 len2 cap2, .int .u8 a3] w fun e w' => e = .returned (.bool true) ∧ Below w.heap.size w w' := by
  obtain ⟨L, rfl, R⟩ := rd_row w2
  obtain ⟨s, hs, rfl⟩ := u32_nat w0
  obtain ⟨o, ho, rfl⟩ := u32_nat w1
  obtain ⟨y, rfl⟩ := u8_nat w3
  by_cases hl : L.length ≤ 2000
  · have hl' : ¬ (L.length : Int) > 2000 := by omega
    obtain ⟨i0, hi, hz0, hz1, hz2⟩ := info_parts info_u8
    have HS : Hid (more s (L ++ [y]) = more (more s L) [y]) := more_append hs L [y]
    have HL : Hid ((L ++ [y]).length ≤ 2001) := by show _ ≤ _; simp; omega
    by_cases heq : s = o
    · subst heq
      go_enter Try.func7, Try.ntmps7
      go_wp2_with fail
      refine (awake4_any _).mono ?_
      rintro e u1 ⟨rfl, b⟩
      have B : Below w.heap.size w u1 := b
      replace R := R.below b
      clear b
      go_wp2_with fail
      refine (cmore_any rfl hs R (by omega)).mono ?_
      rintro e u2 ⟨rfl, b⟩
      replace B := Below.step B b
      replace R := R.below b
      clear b
      go_wp2_with fail
      refine (cmore_any rfl ho R (by omega)).mono ?_
      rintro e u3 ⟨rfl, b⟩
      replace B := Below.step B b
      replace R := R.below b
      clear b
      go_wp2_with fail
      refine (cmore_any rfl (more_lt _ _) (rd_y _ _ _) (len_y y)).mono ?_
      rintro e u4 ⟨rfl, b⟩
      have D := Below.step ((Below.refl u3.heap.size u3).alloc (Nat.le_refl _) _) b
      replace B := Below.step B D
      replace R := R.below D
      clear b D
      go_wp2_with fail
      refine (rmore_any rfl (more_lt _ _) (rd_y _ _ _) (len_y y)).mono ?_
      rintro e u5 ⟨rfl, rfl⟩
      have D : Below u4.heap.size u4 (u4.alloc (.cells #[.int .u8 ((y.toNat : Nat) : Int)] 5)) := (Below.refl _ _).alloc (Nat.le_refl _) _
      replace B := Below.step B D
      replace R := R.below D
      clear D
      generalize u4.alloc (.cells #[.int .u8 ((y.toNat : Nat) : Int)] 5) = u5 at *
      have R1 := R.below ((Below.refl u5.heap.size u5).alloc (Nat.le_refl _) (.cells #[] 5))
      go_wp2_with (first
        | (at_builtin; refine wpList_append_rdg _ (by rfl) (.tmp 46) (.tmp 47) 23 rfl u5.heap.size 5 i0 Try.underlying23 hi hz0 hz1 hz2 (.slice (some ⟨u5.heap.size, 0, none⟩) 0 0) 0 [] rfl (own_new _ _) _ L rfl R1 (by omega) (by simp) ?_; intro v1 u6 hv1 hg1; rw [own_block] at hg1; have B1 := below_new hg1)
        | (at_builtin; refine wpList_append_rdg _ (by rfl) (.tmp 48) (.tmp 50) 23 rfl u5.heap.size 5 i0 Try.underlying23 hi hz0 hz1 hz2 v1 _ _ rfl (World.ownsRow.alloc hv1 _) _ [y] rfl (rd_y _ _ _) (by simp; omega) (by have := B1.size; simp; omega) ?_; intro v2 u7 hv2 hg2; have B2 := (B1.alloc B1.size _).grown hg2 (by have := B1.size; simp; omega) (fun k hk => (World.ownsRow.lt hv1 k hk).1); clear hg1 hg2 B1 hv1)
        | fail)
      have R2 := rd_two hv2
      replace B := Below.step B B2
      replace R := R.below B2
      clear hv2 B2 R1
      refine (cmore_any rfl hs R2 (by have := HL.out; omega)).mono ?_
      rintro e u8 ⟨rfl, b⟩
      rw [HS.out]
      replace B := Below.step B b
      clear b R2
      go_wp2_with fail
      refine (cmore_any rfl (more_lt _ _) (rd_y _ _ _) (len_y y)).mono ?_
      rintro e u9 ⟨rfl, b⟩
      replace B := Below.step (below_lit B _) b
      clear b
      go_wp2
      go_ret
      exact ⟨rfl, B⟩
    · have d1 : ((s : Int) == (o : Int)) = false := by rw [beq_eq_false_iff_ne]; omega
      have d2 : (((more s L : Nat) : Int) == ((more o L : Nat) : Int)) = false := by
        rw [beq_eq_false_iff_ne]
        intro e
        exact heq (more_inj hs ho L (by omega))
      go_enter Try.func7, Try.ntmps7
      go_wp2_with fail
      refine (awake4_any _).mono ?_
      rintro e u1 ⟨rfl, b⟩
      have B : Below w.heap.size w u1 := b
      replace R := R.below b
      clear b
      go_wp2_with fail
      refine (cmore_any rfl hs R (by omega)).mono ?_
      rintro e u2 ⟨rfl, b⟩
      replace B := Below.step B b
      replace R := R.below b
      clear b
      go_wp2_with fail
      refine (cmore_any rfl ho R (by omega)).mono ?_
      rintro e u3 ⟨rfl, b⟩
      replace B := Below.step B b
      replace R := R.below b
      clear b
      go_wp2_with fail
      refine (cmore_any rfl (more_lt _ _) (rd_y _ _ _) (len_y y)).mono ?_
      rintro e u4 ⟨rfl, b⟩
      have D := Below.step ((Below.refl u3.heap.size u3).alloc (Nat.le_refl _) _) b
      replace B := Below.step B D
      replace R := R.below D
      clear b D
      go_wp2_with fail
      refine (rmore_any rfl (more_lt _ _) (rd_y _ _ _) (len_y y)).mono ?_
      rintro e u5 ⟨rfl, rfl⟩
      have D : Below u4.heap.size u4 (u4.alloc (.cells #[.int .u8 ((y.toNat : Nat) : Int)] 5)) := (Below.refl _ _).alloc (Nat.le_refl _) _
      replace B := Below.step B D
      replace R := R.below D
      clear D
      generalize u4.alloc (.cells #[.int .u8 ((y.toNat : Nat) : Int)] 5) = u5 at *
      have R1 := R.below ((Below.refl u5.heap.size u5).alloc (Nat.le_refl _) (.cells #[] 5))
      go_wp2_with (first
        | (at_builtin; refine wpList_append_rdg _ (by rfl) (.tmp 46) (.tmp 47) 23 rfl u5.heap.size 5 i0 Try.underlying23 hi hz0 hz1 hz2 (.slice (some ⟨u5.heap.size, 0, none⟩) 0 0) 0 [] rfl (own_new _ _) _ L rfl R1 (by omega) (by simp) ?_; intro v1 u6 hv1 hg1; rw [own_block] at hg1; have B1 := below_new hg1)
        | (at_builtin; refine wpList_append_rdg _ (by rfl) (.tmp 48) (.tmp 50) 23 rfl u5.heap.size 5 i0 Try.underlying23 hi hz0 hz1 hz2 v1 _ _ rfl (World.ownsRow.alloc hv1 _) _ [y] rfl (rd_y _ _ _) (by simp; omega) (by have := B1.size; simp; omega) ?_; intro v2 u7 hv2 hg2; have B2 := (B1.alloc B1.size _).grown hg2 (by have := B1.size; simp; omega) (fun k hk => (World.ownsRow.lt hv1 k hk).1); clear hg1 hg2 B1 hv1)
        | fail)
      have R2 := rd_two hv2
      replace B := Below.step B B2
      replace R := R.below B2
      clear hv2 B2 R1
      refine (cmore_any rfl hs R2 (by have := HL.out; omega)).mono ?_
      rintro e u8 ⟨rfl, b⟩
      rw [HS.out]
      replace B := Below.step B b
      clear b R2
      go_wp2_with fail
      refine (cmore_any rfl (more_lt _ _) (rd_y _ _ _) (len_y y)).mono ?_
      rintro e u9 ⟨rfl, b⟩
      replace B := Below.step (below_lit B _) b
      clear b
      go_wp2
      go_ret
      exact ⟨rfl, B⟩
  · have hl' : (L.length : Int) > 2000 := by omega
    go_enter Try.func7, Try.ntmps7
    go_wp2_with fail
    refine (awake4_any _).mono ?_
    rintro e u1 ⟨rfl, b⟩
    go_wp2
    go_ret
    exact ⟨rfl, b⟩

/-! ### THE ROW's STEP: WRITTEN OUT: LEAVE IT -/
set_option maxRecDepth 100000 in
theorem lifted (os : Os) (started : os.Started) (H : Type) (enc : TypeId × Value → H) :
    ReturnsInHanded {} Try.checked os 7 .any (Rows.crcBytesSpec.pre6 enc Try.prog Try.f7 Rows.crcBytesRow.domain false) (Rows.crcBytesSpec.post enc Try.prog Try.f7 false true false false) := by
  refine returnsInHanded_of_change (C := Try.checked) own started (by kernel_rfl) Try.func7
    (ChangeSpec.witness6 (enc := enc) (C := Try.checked) false ⟨#[], #[.int .u32 0, .int .u32 0, .slice none 0 0, .int .u8 0], []⟩ 8 (by kernel_rfl) (by kernel_rfl) (by kernel_rfl) (by kernel_rfl)) ?_
  intro W base args ds gs before hval0 hW hcnd _
  have hval : ∀ (j : Nat) t v, Try.f7.params[j]? = some t → args[j]? = some v → Value.okWide Try.prog W .any base t v := hval0
  have hW' := hW
  obtain ⟨p, q, hA0, hV, rfl, hfz, hnd⟩ := hW
  have hA : DataW.TrodAll enc Try.prog W 0 (fun _ => true) true Try.f7.params.toList args.toList ds p := hA0
  rw [Try.params7] at hA hval
  obtain ⟨v0, vs0, d0, ds0, p0, q0, hargs, rfl, rfl, h0, r0⟩ := trodAll_cons hA
  obtain ⟨v1, vs1, d1, ds1, p1, q1, rfl, rfl, rfl, h1, r1⟩ := trodAll_cons r0
  obtain ⟨v2, vs2, d2, ds2, p2, q2, rfl, rfl, rfl, h2, r2⟩ := trodAll_cons r1
  obtain ⟨v3, vs3, d3, ds3, p3, q3, rfl, rfl, rfl, h3, r3⟩ := trodAll_cons r2
  obtain ⟨rfl, rfl, rfl⟩ := trodAll_nil r3
  obtain rfl : args = #[v0, v1, v2, v3] := by cases args; simp_all
  obtain ⟨rfl, rfl⟩ := trodVars_none hV
  obtain ⟨a0, rfl, rfl, rfl, w0⟩ := open_int Try.underlying22 (hval 0 22 v0 rfl rfl) h0
  obtain ⟨a1, rfl, rfl, rfl, w1⟩ := open_int Try.underlying22 (hval 1 22 v1 rfl rfl) h1
  obtain ⟨a2, len2, cap2, rfl⟩ := okWide_slice Try.underlying23 (hval 2 23 v2 rfl rfl)
  have k2 := h2
  have lt2 : ∀ x ∈ p2, x.block < W.heap.size := by obtain ⟨m, hm⟩ := k2; exact DataW.trod_lt m _ _ _ hm
  obtain ⟨z2, w2⟩ : ∃ zs, IsRow .u8 W a2 len2 cap2 zs := by
    obtain ⟨fuel, hf⟩ := h2
    rcases open_ints Try.underlying23 Try.underlying5 (by kernel_rfl) hf with ⟨hcs, _⟩ | ⟨x, l, c, zs, hcs, _, hl, hm, hz, _, hcell, hwz⟩
    · simp [Value.cells] at hcs
      obtain ⟨rfl, rfl, rfl⟩ := hcs
      exact ⟨[], .inl ⟨rfl, rfl, rfl, rfl⟩⟩
    · simp [Value.cells] at hcs
      obtain ⟨rfl, rfl, rfl⟩ := hcs
      exact ⟨zs, .inr ⟨_, rfl, hl, hm, by simpa using hz, hcell, hwz⟩⟩
  obtain ⟨a3, rfl, rfl, rfl, w3⟩ := open_int Try.underlying5 (hval 3 5 v3 rfl rfl) h3
  clear hA0 hval0
  refine (walk a0 a1 a2 len2 cap2 z2 a3 W w0 w1 w2 w3).mono fun e W' ⟨he, bel⟩ => ?_
  subst he
  exact ⟨_, rfl, _, _, _, [], _, [], hW', trodAll_mk1 (shut_bool Try.underlying4 _), (trodAll_cons_mk (shut_int Try.underlying22 w0) (trodAll_cons_mk (shut_int Try.underlying22 w1) (trodAll_cons_mk (Below.trod laidOut (by kernel_rfl) (of_decide_eq_true (by kernel_rfl)) k2 bel lt2) (trodAll_cons_mk (shut_int Try.underlying5 w3) trodAll_mk0)))), rfl, bel.frame _, fun h => by cases h⟩

theorem over : Rows.crcBytesRow.holds Try.pinned (OpenSpec.ofChange Rows.crcBytesSpec) :=
  OpenClaim.holds_of_wide 7 Try.f7 rfl rfl rfl rfl rfl rfl rfl ⟨rfl, rfl, rfl, rfl, rfl⟩ rfl rfl rfl rfl rfl (by kernel_rfl) Try.func7 (by kernel_rfl)
    (of_decide_eq_true (by kernel_rfl)) (by unfold Func.isWrapper; first | (rw [if_pos (by decide +kernel)]; kernel_rfl) | (rw [if_neg (by decide +kernel)]; exact ⟨rfl, rfl⟩))
    (fun os started H enc _ => lifted os started H enc)

/-- ████ THE STATEMENT ████ -/
theorem proved : Rows.CrcBytesSaid := over
end Go.Proofs.Ytpplniahjgdknaa.crcBytes
namespace Go.Proofs.Ytpplniahjgdknaa
theorem crcBytes_holds : Rows.CrcBytesSaid := crcBytes.proved
#print axioms crcBytes_holds
end Go.Proofs.Ytpplniahjgdknaa
