/- PROVED: for every byte slice p, every int n and every byte c the call PolyShifts(p, n, c) returns true, and its arguments read behind it as before; no conditions. -/
import Derived.Test.YtjojcdikkgnfgabRows
import Derived.Test.YtjojcdikkgnfgabPoAwake
import Derived.Test.YtjojcdikkgnfgabPoLaws
import Derived.Test.YtjojcdikkgnfgabPoShort1
import Derived.Test.YtjojcdikkgnfgabPoShiftMath
import Derived.Test.YtjojcdikkgnfgabPoAppend
import Derived.Test.YtjojcdikkgnfgabPoInfo
import Derived.Test.YtjojcdikkgnfgabGfBytes
import Derived.WalkKit
import Derived.ProofKit
import Derived.OpenShut
import Derived.ShutString
import Derived.ChangeOld
import Derived.Below
namespace Go.Proofs.Ytjojcdikkgnfgab.polyShifts
open Go.ChangeShapes Go.WideShapes Go.ChangeAt Go.RowKit
open Go.ChangeMaps (open_string shut_string)
set_option linter.unusedVariables false

theorem own : ownKnob Try.prog.godebug = none := by kernel_rfl
theorem laidOut : laidOutB Try.prog = true := by kernel_rfl

/-- WHAT THE WALK IS TOLD OF A SLICE OF INTEGERS THAT CAME IN: it is nil; or it leads to a row of 'cap' cells, the numbers 'zs' (the first 'len' are its elements, the rest its spare room), each fitting its kind. -/
def IsRow (k : IntKind) (w : World) (a : Option Addr) (len cap : Nat) (zs : List Int) : Prop :=
  (a = none ∧ len = 0 ∧ cap = 0 ∧ zs = []) ∨
  ∃ x, a = some x ∧ len ≤ cap ∧ cap ≤ maxLen ∧ zs.length = cap ∧ (∀ i, i < zs.length → w.cell? (x.add i) = some (.int k (zs.getD i 0))) ∧ ∀ n ∈ zs, (Lit.int k n).wf = true

open Gf
set_option linter.unusedSimpArgs false
set_option maxRecDepth 100000 in
set_option maxHeartbeats 2000000 in
theorem walk (a0 : Option Addr) (len0 cap0 : Nat) (z0 : List Int) (a1 : Int) (a2 : Int) (w : World) (w0 : IsRow .u8 w a0 len0 cap0 z0) (w1 : (Lit.int .i64 a1).wf = true) (w2 : (Lit.int .u8 a2).wf = true) :
    Calls Try.prog 5 #[.slice a0 len0 cap0, .int .i64 a1, .int .u8 a2] w fun e w' => e = .returned (.bool true) ∧ Below w.heap.size w w' := by
  obtain ⟨p, rfl, hp⟩ := rd_row w0
  obtain ⟨n1, n2⟩ := i64_bounds w1
  obtain ⟨c, rfl⟩ := u8_byte w2
  obtain ⟨i0, hi, hz0, hz1, hz2⟩ := info_parts info_u8
  by_cases hs : p.length ≤ 50 ∧ 0 ≤ a1 ∧ a1 ≤ 30
  · obtain ⟨h1, h2, h3⟩ := hs
    obtain ⟨n, rfl⟩ := Int.eq_ofNat_of_zero_le h2
    have x1 : sameB (mulP p (upto (xpow n) (n + 1))) (norm (List.replicate n 0 ++ p)) = true := sameB_of (mul_xpow p n)
    have x2 : sameB (mulP p [c]) (norm (upto (tms p c) p.length)) = true := sameB_of (mul_single p c)
    go_enter Try.func5, Try.ntmps5
    go_wp2_with fail
    refine (awake2_any _).mono ?_
    rintro e u1 ⟨rfl, B⟩
    replace hp := hp.below B
    go_wp2_with fail
    refine (new_any _).mono ?_
    rintro e u2 ⟨rfl, F, hO⟩
    have b := hO.below
    replace hp := hp.below b
    replace B := Below.next B b
    clear hO b
    go_wp2_with (at_make; refine wpList_make_full _ rfl (.tmp 36) (.tmp 36) 22 rfl u2.heap.size 5 i0 (.int .u8 0) 1 Try.underlying22 hi hz0 hz1 _ _ _ _ (n + 1) rfl rfl (by omega) (by omega) (by rw [hz2]; omega) (by unfold maxLen; omega) (Nat.le_refl _) ?_; intro u3 hown3 hgrow3; have R3 := RowF.made hown3; have k3 := R3.cell (j := n) (by omega); have k4 := R3.unfrozen n; clear hown3)
    have rx := (R3.store (j := n) (by omega) 1 (xpow_store n)).rd
    have b : Below u2.heap.size u2 (u3.setCell ⟨u2.heap.size, n, none⟩ (.int .u8 1)) := ((Below.refl _ _).grown hgrow3 (Nat.le_refl _) (fun k h => by cases h)).setCell (p := ⟨u2.heap.size, n, none⟩) (Nat.le_refl _) _
    replace hp := hp.below b
    replace F := F.below b
    replace B := Below.next B b
    clear b R3 k3 k4 hgrow3
    refine (pmul_any F hp rx (by omega) (by rw [upto_length]; omega)).mono ?_
    rintro e u4 ⟨v10, rfl, r10, b⟩
    replace hp := hp.below b
    replace F := F.below b
    replace B := Below.next B b
    clear b rx
    go_wp2_with (first | (at_make; refine wpList_make_full _ rfl (.tmp 45) (.tmp 45) 22 rfl u4.heap.size 5 i0 (.int .u8 0) 1 Try.underlying22 hi hz0 hz1 _ _ _ _ n rfl rfl (by omega) (by omega) (by rw [hz2]; omega) (by unfold maxLen; omega) (Nat.le_refl _) ?_; intro u5 hown5 hgrow5; have R5 := RowF.made hown5; have b5 : Below u4.heap.size u4 u5 := ((Below.refl _ _).grown hgrow5 (Nat.le_refl _) (fun k h => by cases h)); have s5 := b5.size; have hp5 := hp.below b5; clear hown5 hgrow5) | (at_builtin; refine wpList_append_rd _ rfl (.tmp 46) (.tmp 47) 22 rfl u4.heap.size 5 i0 Try.underlying22 hi hz0 hz1 hz2 _ n _ rfl R5 _ p rfl hp5 (by omega) s5 ?_; intro v6 u6 hown6 hgrow6))
    have r6 : Rd u6 v6 (List.replicate n 0 ++ p) := Rd.owned (base := u4.heap.size) (e := 5) (by rw [vb_shift, List.length_append, List.length_replicate]; exact hown6)
    have b : Below u4.heap.size u4 u6 := b5.grown hgrow6 s5 (fun g hg => (World.ownsRow.lt R5 g hg).1)
    replace hp := hp.below b
    replace F := F.below b
    replace r10 := r10.below b
    replace B := Below.next B b
    clear b b5 s5 hp5 R5 hown6 hgrow6
    refine (pnorm_any r6 (by simp; omega)).mono ?_
    rintro e u7 ⟨v11, rfl, r11, b⟩
    replace hp := hp.below b
    replace F := F.below b
    replace r10 := r10.below b
    replace B := Below.next B b
    clear b r6
    go_wp2_with fail
    go_loopw [12, 13] (fun v i wr => ∃ k : Nat, k ≤ p.length ∧ i = .int .i64 k ∧ wr.ownsRow u7.heap.size 5 1 v k ((upto (tms p c) k).map vb) ∧ Below u7.heap.size u7 wr) (fun _ i _ => p.length - (intOf i).toNat)
    case atStart => exact ⟨0, by omega, rfl, World.ownsRow_nil _ _ _ _, Below.refl _ _⟩
    case round =>
      obtain ⟨k, hk, rfl, hown, hbl⟩ := hrel
      have hpk := hp.below hbl
      have Fk := F.below hbl
      by_cases hlt : k < p.length
      · rcases hpk with ⟨_, _, h, _⟩ | ⟨bp, offp, capp, hp0, e2, _, _, _, hpc⟩
        · rw [h] at hlt; cases hlt
        · simp only [Value.slice.injEq] at e2
          obtain ⟨ho1, _, ho2⟩ := e2
          subst ho1 ho2
          have c1 := hpc k hlt
          clear hpc
          go_wp2_with fail
          refine (fmu_at Fk (co p k) c rfl rfl).mono ?_
          rintro e w' ⟨rfl, b⟩
          have hown' := owns_later hown b
          have hbl' := Below.next hbl b
          have sz := hbl'.size
          clear c1 hown hbl b Fk
          go_wp2_with (at_builtin; refine wpList_append_own _ rfl (.tmp 56) (.tmp 64) 22 rfl u7.heap.size 5 i0 (.int .u8 0) 1 1 Try.underlying22 hi hz0 hz1 hz2 rfl (by decide) _ k _ rfl (hown'.alloc _) ⟨_, 0, none⟩ 1 1 [.int .u8 (((mu (co p k) c).toNat : Nat) : Int)] rfl rfl (cell_one_new _ _ _) (by simp [Value.oneCell']) (by unfold maxLen; omega) (by omega) (by simp; omega) ?_; intro v' wz hownz hgrow _)
          have R : wz.ownsRow u7.heap.size 5 1 v' (k + 1) ((upto (tms p c) (k + 1)).map vb) := by rw [upto_vb_succ]; exact hownz
          have RB := grow_below hbl' hown' hgrow
          go_roundw
          case rel => exact ⟨k + 1, by omega, by go_num, R, RB⟩
          case measure => simp [intOf]; omega
      · have ek : k = p.length := by omega
        subst ek
        have rt : Rd wr _ (upto (tms p c) p.length) := Rd.owned (base := u7.heap.size) (e := 5) (by rw [upto_length]; exact hown)
        replace r10 := r10.below hbl
        replace r11 := r11.below hbl
        replace B := Below.next B hbl
        replace hp := hpk
        replace F := Fk
        clear hown hbl hpk Fk
        go_wp2_with fail
        refine (same_b r10 r11).mono ?_
        rintro e u8 ⟨rfl, b⟩
        replace hp := hp.below b
        replace F := F.below b
        replace rt := rt.below b
        replace B := Below.next B b
        clear b r10 r11
        go_wp2_with fail
        have la : Rd (u8.alloc (.cells #[.int .u8 ((c.toNat : Nat) : Int)] 5)) (.slice (some ⟨u8.heap.size, 0, none⟩) 1 1) [c] := rd_lit [c] rfl rfl (by decide)
        have ba : Below u8.heap.size u8 (u8.alloc (.cells #[.int .u8 ((c.toNat : Nat) : Int)] 5)) := (Below.refl _ _).alloc (Nat.le_refl _) _
        refine (pmul_any (F.below ba) (hp.below ba) la (by omega) (by simp)).mono ?_
        rintro e u9 ⟨v20, rfl, r20, b⟩
        replace rt := rt.below (Below.next ba b)
        replace B := Below.next B (Below.next ba b)
        clear b ba la hp F
        go_wp2_with fail
        refine (pnorm_any rt (by rw [upto_length]; omega)).mono ?_
        rintro e u10 ⟨v21, rfl, r21, b⟩
        replace r20 := r20.below b
        replace B := Below.next B b
        clear b rt
        go_wp2_with fail
        refine (same_b r20 r21).mono ?_
        rintro e u11 ⟨rfl, b⟩
        replace B := Below.next B b
        go_wp2
        go_ret
        exact ⟨rfl, B⟩
  · by_cases h1 : p.length ≤ 50
    · by_cases h2 : a1 < 0
      · clear hs
        have k1 : decide (a1 < 0) = true := decide_eq_true h2
        go_enter Try.func5, Try.ntmps5
        go_wp2_with fail
        refine (awake2_any _).mono ?_
        rintro e u1 ⟨rfl, B⟩
        go_wp2_with fail
        refine (new_any _).mono ?_
        rintro e u2 ⟨rfl, F, hO⟩
        replace B := Below.next B hO.below
        clear hO
        go_wp2
        go_ret
        exact ⟨rfl, B⟩
      · have h3 : ¬ a1 ≤ 30 := fun h => hs ⟨h1, by omega, h⟩
        have k1 : decide ((30 : Int) < a1) = true := decide_eq_true (by omega)
        clear hs
        go_enter Try.func5, Try.ntmps5
        go_wp2_with fail
        refine (awake2_any _).mono ?_
        rintro e u1 ⟨rfl, B⟩
        go_wp2_with fail
        refine (new_any _).mono ?_
        rintro e u2 ⟨rfl, F, hO⟩
        replace B := Below.next B hO.below
        clear hO
        go_wp2
        go_ret
        exact ⟨rfl, B⟩
    · clear hs
      go_enter Try.func5, Try.ntmps5
      go_wp2_with fail
      refine (awake2_any _).mono ?_
      rintro e u1 ⟨rfl, B⟩
      go_wp2_with fail
      refine (new_any _).mono ?_
      rintro e u2 ⟨rfl, F, hO⟩
      replace B := Below.next B hO.below
      clear hO
      go_wp2
      go_ret
      exact ⟨rfl, B⟩

/-! ### THE ROW's STEP: WRITTEN OUT: LEAVE IT -/
set_option maxRecDepth 100000 in
theorem lifted (os : Os) (started : os.Started) (H : Type) (enc : TypeId × Value → H) :
    ReturnsInHanded {} Try.checked os 5 .any (Rows.polyShiftsSpec.pre6 enc Try.prog Try.f5 Rows.polyShiftsRow.domain false) (Rows.polyShiftsSpec.post enc Try.prog Try.f5 false true false false) := by
  refine returnsInHanded_of_change (C := Try.checked) own started (by kernel_rfl) Try.func5
    (ChangeSpec.witness6 (enc := enc) (C := Try.checked) false ⟨#[], #[.slice none 0 0, .int .i64 0, .int .u8 0], []⟩ 8 (by kernel_rfl) (by kernel_rfl) (by kernel_rfl) (by kernel_rfl)) ?_
  intro W base args ds gs before hval0 hW hcnd _
  have hval : ∀ (j : Nat) t v, Try.f5.params[j]? = some t → args[j]? = some v → Value.okWide Try.prog W .any base t v := hval0
  have hW' := hW
  obtain ⟨p, q, hA0, hV, rfl, hfz, hnd⟩ := hW
  have hA : DataW.TrodAll enc Try.prog W 0 (fun _ => true) true Try.f5.params.toList args.toList ds p := hA0
  rw [Try.params5] at hA hval
  obtain ⟨v0, vs0, d0, ds0, p0, q0, hargs, rfl, rfl, h0, r0⟩ := trodAll_cons hA
  obtain ⟨v1, vs1, d1, ds1, p1, q1, rfl, rfl, rfl, h1, r1⟩ := trodAll_cons r0
  obtain ⟨v2, vs2, d2, ds2, p2, q2, rfl, rfl, rfl, h2, r2⟩ := trodAll_cons r1
  obtain ⟨rfl, rfl, rfl⟩ := trodAll_nil r2
  obtain rfl : args = #[v0, v1, v2] := by cases args; simp_all
  obtain ⟨rfl, rfl⟩ := trodVars_none hV
  obtain ⟨a0, len0, cap0, rfl⟩ := okWide_slice Try.underlying22 (hval 0 22 v0 rfl rfl)
  have k0 := h0
  have lt0 : ∀ x ∈ p0, x.block < W.heap.size := by obtain ⟨m, hm⟩ := k0; exact DataW.trod_lt m _ _ _ hm
  obtain ⟨z0, w0⟩ : ∃ zs, IsRow .u8 W a0 len0 cap0 zs := by
    obtain ⟨fuel, hf⟩ := h0
    rcases open_ints Try.underlying22 Try.underlying5 (by kernel_rfl) hf with ⟨hcs, _⟩ | ⟨x, l, c, zs, hcs, _, hl, hm, hz, _, hcell, hwz⟩
    · simp [Value.cells] at hcs
      obtain ⟨rfl, rfl, rfl⟩ := hcs
      exact ⟨[], .inl ⟨rfl, rfl, rfl, rfl⟩⟩
    · simp [Value.cells] at hcs
      obtain ⟨rfl, rfl, rfl⟩ := hcs
      exact ⟨zs, .inr ⟨_, rfl, hl, hm, by simpa using hz, hcell, hwz⟩⟩
  obtain ⟨a1, rfl, rfl, rfl, w1⟩ := open_int Try.underlying3 (hval 1 3 v1 rfl rfl) h1
  obtain ⟨a2, rfl, rfl, rfl, w2⟩ := open_int Try.underlying5 (hval 2 5 v2 rfl rfl) h2
  clear hA0 hval0
  refine (walk a0 len0 cap0 z0 a1 a2 W w0 w1 w2).mono fun e W' ⟨he, bel⟩ => ?_
  subst he
  exact ⟨_, rfl, _, _, _, [], _, [], hW', trodAll_mk1 (shut_bool Try.underlying4 _), (trodAll_cons_mk (Below.trod laidOut (by kernel_rfl) (of_decide_eq_true (by kernel_rfl)) k0 bel lt0) (trodAll_cons_mk (shut_int Try.underlying3 w1) (trodAll_cons_mk (shut_int Try.underlying5 w2) trodAll_mk0))), rfl, bel.frame _, fun h => by cases h⟩

theorem over : Rows.polyShiftsRow.holds Try.pinned (OpenSpec.ofChange Rows.polyShiftsSpec) :=
  OpenClaim.holds_of_wide 5 Try.f5 rfl rfl rfl rfl rfl rfl rfl ⟨rfl, rfl, rfl, rfl, rfl⟩ rfl rfl rfl rfl rfl (by kernel_rfl) Try.func5 (by kernel_rfl)
    (of_decide_eq_true (by kernel_rfl)) (by unfold Func.isWrapper; first | (rw [if_pos (by decide +kernel)]; kernel_rfl) | (rw [if_neg (by decide +kernel)]; exact ⟨rfl, rfl⟩))
    (fun os started H enc _ => lifted os started H enc)

/-- ████ THE STATEMENT ████ -/
theorem proved : Rows.PolyShiftsSaid := over
end Go.Proofs.Ytjojcdikkgnfgab.polyShifts
namespace Go.Proofs.Ytjojcdikkgnfgab
theorem polyShifts_holds : Rows.PolyShiftsSaid := polyShifts.proved
#print axioms polyShifts_holds
end Go.Proofs.Ytjojcdikkgnfgab
