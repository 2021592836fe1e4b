/- PROVED: for all byte slices p, q and every byte x the call PolyValues(p, q, x) returns true, and its arguments read behind it as before; no conditions. -/
import Derived.Test.YtjojcdikkgnfgaaRows
import Derived.Test.YtjojcdikkgnfgaaPoAwake
import Derived.Test.YtjojcdikkgnfgaaPoShort
import Derived.Test.YtjojcdikkgnfgaaPoLaws
import Derived.WalkKit
import Derived.ProofKit
import Derived.OpenShut
import Derived.ShutString
import Derived.ChangeOld
import Derived.Below
namespace Go.Proofs.Ytjojcdikkgnfgaa.polyValues
open Go.ChangeShapes Go.WideShapes Go.ChangeAt Go.RowKit
open Go.ChangeMaps (open_string shut_string)
set_option linter.unusedVariables false

theorem own : ownKnob Try.prog.godebug = none := by kernel_rfl
theorem laidOut : laidOutB Try.prog = true := by kernel_rfl

/-- WHAT THE WALK IS TOLD OF A SLICE OF INTEGERS THAT CAME IN: it is nil; or it leads to a row of 'cap' cells, the numbers 'zs' (the first 'len' are its elements, the rest its spare room), each fitting its kind. -/
def IsRow (k : IntKind) (w : World) (a : Option Addr) (len cap : Nat) (zs : List Int) : Prop :=
  (a = none ∧ len = 0 ∧ cap = 0 ∧ zs = []) ∨
  ∃ x, a = some x ∧ len ≤ cap ∧ cap ≤ maxLen ∧ zs.length = cap ∧ (∀ i, i < zs.length → w.cell? (x.add i) = some (.int k (zs.getD i 0))) ∧ ∀ n ∈ zs, (Lit.int k n).wf = true

open Gf
set_option linter.unusedSimpArgs false
set_option maxRecDepth 100000 in
set_option maxHeartbeats 2000000 in
theorem walk (a0 : Option Addr) (len0 cap0 : Nat) (z0 : List Int) (a1 : Option Addr) (len1 cap1 : Nat) (z1 : List Int) (a2 : Int) (w : World) (w0 : IsRow .u8 w a0 len0 cap0 z0) (w1 : IsRow .u8 w a1 len1 cap1 z1) (w2 : (Lit.int .u8 a2).wf = true) :
    Calls Try.prog 6 #[.slice a0 len0 cap0, .slice a1 len1 cap1, .int .u8 a2] w fun e w' => e = .returned (.bool true) ∧ Below w.heap.size w w' := by
  obtain ⟨p, rfl, hp⟩ := rd_row w0
  obtain ⟨q, rfl, hq⟩ := rd_row w1
  obtain ⟨x, rfl⟩ := u8_byte w2
  by_cases hs : p.length ≤ 60 ∧ q.length ≤ 60
  · have h1 : p.length ≤ 60 := hs.1
    have h2 : q.length ≤ 60 := hs.2
    have y1 : evP (mulP p q) x = mu (evP p x) (evP q x) := evP_mulP p q x
    have y2 : evP (addP p q) x = evP p x ^^^ evP q x := evP_addP p q x
    have y3 := xor_u8 (evP p x) (evP q x)
    have g1 := mulP_length_le p q
    have g6 := addP_length p q
    clear hs
    go_enter Try.func6, Try.ntmps6
    have B : Below w.heap.size w w := Below.refl _ _
    go_wp2_with fail
    refine (awake2_any _).mono ?_
    rintro e u1 ⟨rfl, b⟩
    replace hp := hp.below (Below.next (by repeat (first | exact Below.refl _ _ | apply Below.draws | apply below_lit)) b)
    replace hq := hq.below (Below.next (by repeat (first | exact Below.refl _ _ | apply Below.draws | apply below_lit)) b)
    replace B := Below.next B (Below.next (by repeat (first | exact Below.refl _ _ | apply Below.draws | apply below_lit)) b)
    clear b
    go_wp2_with fail
    refine (new_any _).mono ?_
    rintro e u2 ⟨rfl, F, hO⟩
    have b := hO.below
    clear hO
    replace hp := hp.below (Below.next (by repeat (first | exact Below.refl _ _ | apply Below.draws | apply below_lit)) b)
    replace hq := hq.below (Below.next (by repeat (first | exact Below.refl _ _ | apply Below.draws | apply below_lit)) b)
    replace B := Below.next B (Below.next (by repeat (first | exact Below.refl _ _ | apply Below.draws | apply below_lit)) b)
    clear b
    go_wp2_with fail
    refine (short_yes h1 h2).mono ?_
    rintro e w' ⟨rfl, rfl⟩
    go_wp2_with fail
    refine (peval_any (F.below (by repeat (first | exact Below.refl _ _ | apply Below.draws | apply below_lit))) (hp.below (by repeat (first | exact Below.refl _ _ | apply Below.draws | apply below_lit))) x rfl (by omega)).mono ?_
    rintro e u3 ⟨rfl, b⟩
    replace hp := hp.below (Below.next (by repeat (first | exact Below.refl _ _ | apply Below.draws | apply below_lit)) b)
    replace hq := hq.below (Below.next (by repeat (first | exact Below.refl _ _ | apply Below.draws | apply below_lit)) b)
    replace F := F.below (Below.next (by repeat (first | exact Below.refl _ _ | apply Below.draws | apply below_lit)) b)
    replace B := Below.next B (Below.next (by repeat (first | exact Below.refl _ _ | apply Below.draws | apply below_lit)) b)
    clear b
    go_wp2_with fail
    refine (peval_any (F.below (by repeat (first | exact Below.refl _ _ | apply Below.draws | apply below_lit))) (hq.below (by repeat (first | exact Below.refl _ _ | apply Below.draws | apply below_lit))) x rfl (by omega)).mono ?_
    rintro e u4 ⟨rfl, b⟩
    replace hp := hp.below (Below.next (by repeat (first | exact Below.refl _ _ | apply Below.draws | apply below_lit)) b)
    replace hq := hq.below (Below.next (by repeat (first | exact Below.refl _ _ | apply Below.draws | apply below_lit)) b)
    replace F := F.below (Below.next (by repeat (first | exact Below.refl _ _ | apply Below.draws | apply below_lit)) b)
    replace B := Below.next B (Below.next (by repeat (first | exact Below.refl _ _ | apply Below.draws | apply below_lit)) b)
    clear b
    go_wp2_with fail
    refine (pmul_any (F.below (by repeat (first | exact Below.refl _ _ | apply Below.draws | apply below_lit))) (hp.below (by repeat (first | exact Below.refl _ _ | apply Below.draws | apply below_lit))) (hq.below (by repeat (first | exact Below.refl _ _ | apply Below.draws | apply below_lit))) (by omega) (by omega)).mono ?_
    rintro e u5 ⟨v1, rfl, r1, b⟩
    replace hp := hp.below (Below.next (by repeat (first | exact Below.refl _ _ | apply Below.draws | apply below_lit)) b)
    replace hq := hq.below (Below.next (by repeat (first | exact Below.refl _ _ | apply Below.draws | apply below_lit)) b)
    replace F := F.below (Below.next (by repeat (first | exact Below.refl _ _ | apply Below.draws | apply below_lit)) b)
    replace B := Below.next B (Below.next (by repeat (first | exact Below.refl _ _ | apply Below.draws | apply below_lit)) b)
    clear b
    go_wp2_with fail
    refine (peval_any (F.below (by repeat (first | exact Below.refl _ _ | apply Below.draws | apply below_lit))) (r1.below (by repeat (first | exact Below.refl _ _ | apply Below.draws | apply below_lit))) x rfl (by omega)).mono ?_
    rintro e u6 ⟨rfl, b⟩
    replace hp := hp.below (Below.next (by repeat (first | exact Below.refl _ _ | apply Below.draws | apply below_lit)) b)
    replace hq := hq.below (Below.next (by repeat (first | exact Below.refl _ _ | apply Below.draws | apply below_lit)) b)
    replace F := F.below (Below.next (by repeat (first | exact Below.refl _ _ | apply Below.draws | apply below_lit)) b)
    replace r1 := r1.below (Below.next (by repeat (first | exact Below.refl _ _ | apply Below.draws | apply below_lit)) b)
    replace B := Below.next B (Below.next (by repeat (first | exact Below.refl _ _ | apply Below.draws | apply below_lit)) b)
    clear b
    go_wp2_with fail
    refine (fmu_at (F.below (by repeat (first | exact Below.refl _ _ | apply Below.draws | apply below_lit))) (evP p x) (evP q x) rfl rfl).mono ?_
    rintro e u7 ⟨rfl, b⟩
    replace hp := hp.below (Below.next (by repeat (first | exact Below.refl _ _ | apply Below.draws | apply below_lit)) b)
    replace hq := hq.below (Below.next (by repeat (first | exact Below.refl _ _ | apply Below.draws | apply below_lit)) b)
    replace F := F.below (Below.next (by repeat (first | exact Below.refl _ _ | apply Below.draws | apply below_lit)) b)
    replace r1 := r1.below (Below.next (by repeat (first | exact Below.refl _ _ | apply Below.draws | apply below_lit)) b)
    replace B := Below.next B (Below.next (by repeat (first | exact Below.refl _ _ | apply Below.draws | apply below_lit)) b)
    clear b
    go_wp2_with fail
    refine (padd_any (hp.below (by repeat (first | exact Below.refl _ _ | apply Below.draws | apply below_lit))) (hq.below (by repeat (first | exact Below.refl _ _ | apply Below.draws | apply below_lit))) (by omega) (by omega)).mono ?_
    rintro e u8 ⟨v2, rfl, r2, b⟩
    replace hp := hp.below (Below.next (by repeat (first | exact Below.refl _ _ | apply Below.draws | apply below_lit)) b)
    replace hq := hq.below (Below.next (by repeat (first | exact Below.refl _ _ | apply Below.draws | apply below_lit)) b)
    replace F := F.below (Below.next (by repeat (first | exact Below.refl _ _ | apply Below.draws | apply below_lit)) b)
    replace r1 := r1.below (Below.next (by repeat (first | exact Below.refl _ _ | apply Below.draws | apply below_lit)) b)
    replace B := Below.next B (Below.next (by repeat (first | exact Below.refl _ _ | apply Below.draws | apply below_lit)) b)
    clear b
    go_wp2_with fail
    refine (peval_any (F.below (by repeat (first | exact Below.refl _ _ | apply Below.draws | apply below_lit))) (r2.below (by repeat (first | exact Below.refl _ _ | apply Below.draws | apply below_lit))) x rfl (by omega)).mono ?_
    rintro e u9 ⟨rfl, b⟩
    replace hp := hp.below (Below.next (by repeat (first | exact Below.refl _ _ | apply Below.draws | apply below_lit)) b)
    replace hq := hq.below (Below.next (by repeat (first | exact Below.refl _ _ | apply Below.draws | apply below_lit)) b)
    replace F := F.below (Below.next (by repeat (first | exact Below.refl _ _ | apply Below.draws | apply below_lit)) b)
    replace r1 := r1.below (Below.next (by repeat (first | exact Below.refl _ _ | apply Below.draws | apply below_lit)) b)
    replace r2 := r2.below (Below.next (by repeat (first | exact Below.refl _ _ | apply Below.draws | apply below_lit)) b)
    replace B := Below.next B (Below.next (by repeat (first | exact Below.refl _ _ | apply Below.draws | apply below_lit)) b)
    clear b
    clear r1 r2
    go_wp2_with fail
    have la : Rd (World.alloc u9 (.cells #[.int .u8 ((x.toNat : Nat) : Int), .int .u8 1] 5)) (.slice (some ⟨World.heap u9 |>.size, 0, none⟩) 2 2) [x, 1] := rd_lit [x, 1] rfl rfl (by decide)
    refine (pdivide_any (F.below (by repeat (first | exact Below.refl _ _ | apply Below.draws | apply below_lit))) (hp.below (by repeat (first | exact Below.refl _ _ | apply Below.draws | apply below_lit))) la (by omega) (by simp) (by rw [norm_root]; exact fun h => by cases h)).mono ?_
    rintro e u10 ⟨vs, vr, s, r, rfl, hd, rs, rr, b⟩
    replace hp := hp.below (Below.next (by repeat (first | exact Below.refl _ _ | apply Below.draws | apply below_lit)) b)
    replace hq := hq.below (Below.next (by repeat (first | exact Below.refl _ _ | apply Below.draws | apply below_lit)) b)
    replace F := F.below (Below.next (by repeat (first | exact Below.refl _ _ | apply Below.draws | apply below_lit)) b)
    replace B := Below.next B (Below.next (by repeat (first | exact Below.refl _ _ | apply Below.draws | apply below_lit)) b)
    clear b
    have hrr := rest_root hd
    clear hd la
    rcases hrr with ⟨er, ev0⟩ | ⟨c, er, ec, c0⟩
    · subst er
      obtain ⟨ar, cr, e2⟩ := rr.form
      subst e2
      have k0 : ((((evP p x).toNat : Nat) : Int) == 0) = true := by rw [eq_u8_zero]; simpa using ev0
      clear ev0
      go_wp2
      go_ret
      exact ⟨rfl, B⟩
    · subst er
      rw [ec] at rr c0
      rcases rr with ⟨_, _, h, _⟩ | ⟨b', off, cap, _, e2, _, _, _, hc⟩
      · cases h
      · subst e2
        have k1 := hc 0 (by simp)
        have k2 : World.cell? _ ⟨b', off, none⟩ = some (.int .u8 (((evP p x).toNat : Nat) : Int)) := k1
        have k0 : ((((evP p x).toNat : Nat) : Int) == 0) = false := by rw [eq_u8_zero]; simpa using c0
        clear k1 hc c0 ec
        go_wp2
        go_ret
        exact ⟨rfl, B⟩
  · go_enter Try.func6, Try.ntmps6
    have B : Below w.heap.size w w := Below.refl _ _
    go_wp2_with fail
    refine (awake2_any _).mono ?_
    rintro e u1 ⟨rfl, b⟩
    replace hp := hp.below (Below.next (by repeat (first | exact Below.refl _ _ | apply Below.draws | apply below_lit)) b)
    replace hq := hq.below (Below.next (by repeat (first | exact Below.refl _ _ | apply Below.draws | apply below_lit)) b)
    replace B := Below.next B (Below.next (by repeat (first | exact Below.refl _ _ | apply Below.draws | apply below_lit)) b)
    clear b
    go_wp2_with fail
    refine (new_any _).mono ?_
    rintro e u2 ⟨rfl, F, hO⟩
    have b := hO.below
    clear hO
    replace hp := hp.below (Below.next (by repeat (first | exact Below.refl _ _ | apply Below.draws | apply below_lit)) b)
    replace hq := hq.below (Below.next (by repeat (first | exact Below.refl _ _ | apply Below.draws | apply below_lit)) b)
    replace B := Below.next B (Below.next (by repeat (first | exact Below.refl _ _ | apply Below.draws | apply below_lit)) b)
    clear b
    go_wp2_with fail
    refine (short_no hs).mono ?_
    rintro e w' ⟨rfl, rfl⟩
    go_wp2_with fail
    refine (short_no hs).mono ?_
    rintro e w' ⟨rfl, rfl⟩
    go_wp2
    go_ret
    exact ⟨rfl, B⟩

/-! ### THE ROW's STEP: WRITTEN OUT: LEAVE IT -/
set_option maxRecDepth 100000 in
theorem lifted (os : Os) (started : os.Started) (H : Type) (enc : TypeId × Value → H) :
    ReturnsInHanded {} Try.checked os 6 .any (Rows.polyValuesSpec.pre6 enc Try.prog Try.f6 Rows.polyValuesRow.domain false) (Rows.polyValuesSpec.post enc Try.prog Try.f6 false true false false) := by
  refine returnsInHanded_of_change (C := Try.checked) own started (by kernel_rfl) Try.func6
    (ChangeSpec.witness6 (enc := enc) (C := Try.checked) false ⟨#[], #[.slice none 0 0, .slice none 0 0, .int .u8 0], []⟩ 8 (by kernel_rfl) (by kernel_rfl) (by kernel_rfl) (by kernel_rfl)) ?_
  intro W base args ds gs before hval0 hW hcnd _
  have hval : ∀ (j : Nat) t v, Try.f6.params[j]? = some t → args[j]? = some v → Value.okWide Try.prog W .any base t v := hval0
  have hW' := hW
  obtain ⟨p, q, hA0, hV, rfl, hfz, hnd⟩ := hW
  have hA : DataW.TrodAll enc Try.prog W 0 (fun _ => true) true Try.f6.params.toList args.toList ds p := hA0
  rw [Try.params6] at hA hval
  obtain ⟨v0, vs0, d0, ds0, p0, q0, hargs, rfl, rfl, h0, r0⟩ := trodAll_cons hA
  obtain ⟨v1, vs1, d1, ds1, p1, q1, rfl, rfl, rfl, h1, r1⟩ := trodAll_cons r0
  obtain ⟨v2, vs2, d2, ds2, p2, q2, rfl, rfl, rfl, h2, r2⟩ := trodAll_cons r1
  obtain ⟨rfl, rfl, rfl⟩ := trodAll_nil r2
  obtain rfl : args = #[v0, v1, v2] := by cases args; simp_all
  obtain ⟨rfl, rfl⟩ := trodVars_none hV
  obtain ⟨a0, len0, cap0, rfl⟩ := okWide_slice Try.underlying23 (hval 0 23 v0 rfl rfl)
  have k0 := h0
  have lt0 : ∀ x ∈ p0, x.block < W.heap.size := by obtain ⟨m, hm⟩ := k0; exact DataW.trod_lt m _ _ _ hm
  obtain ⟨z0, w0⟩ : ∃ zs, IsRow .u8 W a0 len0 cap0 zs := by
    obtain ⟨fuel, hf⟩ := h0
    rcases open_ints Try.underlying23 Try.underlying5 (by kernel_rfl) hf with ⟨hcs, _⟩ | ⟨x, l, c, zs, hcs, _, hl, hm, hz, _, hcell, hwz⟩
    · simp [Value.cells] at hcs
      obtain ⟨rfl, rfl, rfl⟩ := hcs
      exact ⟨[], .inl ⟨rfl, rfl, rfl, rfl⟩⟩
    · simp [Value.cells] at hcs
      obtain ⟨rfl, rfl, rfl⟩ := hcs
      exact ⟨zs, .inr ⟨_, rfl, hl, hm, by simpa using hz, hcell, hwz⟩⟩
  obtain ⟨a1, len1, cap1, rfl⟩ := okWide_slice Try.underlying23 (hval 1 23 v1 rfl rfl)
  have k1 := h1
  have lt1 : ∀ x ∈ p1, x.block < W.heap.size := by obtain ⟨m, hm⟩ := k1; exact DataW.trod_lt m _ _ _ hm
  obtain ⟨z1, w1⟩ : ∃ zs, IsRow .u8 W a1 len1 cap1 zs := by
    obtain ⟨fuel, hf⟩ := h1
    rcases open_ints Try.underlying23 Try.underlying5 (by kernel_rfl) hf with ⟨hcs, _⟩ | ⟨x, l, c, zs, hcs, _, hl, hm, hz, _, hcell, hwz⟩
    · simp [Value.cells] at hcs
      obtain ⟨rfl, rfl, rfl⟩ := hcs
      exact ⟨[], .inl ⟨rfl, rfl, rfl, rfl⟩⟩
    · simp [Value.cells] at hcs
      obtain ⟨rfl, rfl, rfl⟩ := hcs
      exact ⟨zs, .inr ⟨_, rfl, hl, hm, by simpa using hz, hcell, hwz⟩⟩
  obtain ⟨a2, rfl, rfl, rfl, w2⟩ := open_int Try.underlying5 (hval 2 5 v2 rfl rfl) h2
  clear hA0 hval0
  refine (walk a0 len0 cap0 z0 a1 len1 cap1 z1 a2 W w0 w1 w2).mono fun e W' ⟨he, bel⟩ => ?_
  subst he
  exact ⟨_, rfl, _, _, _, [], _, [], hW', trodAll_mk1 (shut_bool Try.underlying4 _), (trodAll_cons_mk (Below.trod laidOut (by kernel_rfl) (of_decide_eq_true (by kernel_rfl)) k0 bel lt0) (trodAll_cons_mk (Below.trod laidOut (by kernel_rfl) (of_decide_eq_true (by kernel_rfl)) k1 bel lt1) (trodAll_cons_mk (shut_int Try.underlying5 w2) trodAll_mk0))), rfl, bel.frame _, fun h => by cases h⟩

theorem over : Rows.polyValuesRow.holds Try.pinned (OpenSpec.ofChange Rows.polyValuesSpec) :=
  OpenClaim.holds_of_wide 6 Try.f6 rfl rfl rfl rfl rfl rfl rfl ⟨rfl, rfl, rfl, rfl, rfl⟩ rfl rfl rfl rfl rfl (by kernel_rfl) Try.func6 (by kernel_rfl)
    (of_decide_eq_true (by kernel_rfl)) (by unfold Func.isWrapper; first | (rw [if_pos (by decide +kernel)]; kernel_rfl) | (rw [if_neg (by decide +kernel)]; exact ⟨rfl, rfl⟩))
    (fun os started H enc _ => lifted os started H enc)

/-- ████ THE STATEMENT ████ -/
theorem proved : Rows.PolyValuesSaid := over
end Go.Proofs.Ytjojcdikkgnfgaa.polyValues
namespace Go.Proofs.Ytjojcdikkgnfgaa
theorem polyValues_holds : Rows.PolyValuesSaid := polyValues.proved
#print axioms polyValues_holds
end Go.Proofs.Ytjojcdikkgnfgaa
