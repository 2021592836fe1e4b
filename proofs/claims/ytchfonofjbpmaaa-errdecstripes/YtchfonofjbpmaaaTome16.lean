/- TEXTS JOINED: CaRefA, CaRefP, CaRefG, MxRCheck. -/
import Derived.Test.YtchfonofjbpmaaaTome15
import Derived.Test.YtchfonofjbpmaaaTome3
import Derived.Deep.RegionLaw
import Derived.Test.YtchfonofjbpmaaaTome2
/-
  THE DOCUMENT's ANSWER FOR LAYER 5 (package aumbryref05) BY CONTRACT: 'part'.
-/

namespace Go.Proofs.Ytchfonofjbpmaaa.Gf
set_option linter.unusedVariables false
set_option linter.unusedSimpArgs false
open Go.RowKit

set_option maxRecDepth 100000 in
set_option maxHeartbeats 1000000 in
theorem rpart_any {k i j : Nat} (w : World) (hk : k + i < 256) (hj : j < 256) {x y z : Int} (hx : x = (k : Int)) (hy : y = (i : Int)) (hz : z = (j : Int)) :
    Calls Try.prog 114 #[.int .i64 x, .int .i64 y, .int .i64 z] w fun e w' => e = .returned (.int .u8 ((parF k i j).toNat : Nat)) ∧ w' = w := by
  subst hx hy hz
  obtain ⟨t, ht⟩ : ∃ t, Hid (t = k + i) := ⟨_, rfl⟩
  have g0 : (k : Int) + (i : Int) = (t : Int) := by have := ht.out; omega
  have ht2 : t < 256 := by have := ht.out; omega
  have X := pt_xor ht2 hj
  have HP : Hid (parF k i j = iv (pt t ^^^ pt j)) := by show _ = _; rw [ht.out]; rfl
  have m1 : (t : Int) % 256 = (t : Int) := by omega
  have m2 : (j : Int) % 256 = (j : Int) := by omega
  obtain ⟨u, hu⟩ : ∃ u, Hid (u = pt t ^^^ pt j) := ⟨_, rfl⟩
  rw [← hu.out] at X HP
  go_enter Try.func114, Try.ntmps114
  go_wp2_with fail
  refine (rinv_at u.toNat rfl (u8_lt u)).mono ?_
  rintro e w' ⟨rfl, rfl⟩
  go_wp2
  go_ret
  exact ⟨by rw [HP.out, iv_toNat]; rfl, rfl⟩

end Go.Proofs.Ytchfonofjbpmaaa.Gf

/-
  THE DOCUMENT's ANSWER FOR LAYER 5 (package aumbryref05) BY CONTRACT: 'Parity'.
-/


namespace Go.Proofs.Ytchfonofjbpmaaa.Gf
set_option linter.unusedVariables false
set_option linter.unusedSimpArgs false
open Go.RowKit

theorem grown_drew {a b : World} {r : Option Nat} (h : a.drew.grownBy b r) : a.grownBy b r := ⟨h.os, h.tape, h.output, h.size, h.block⟩
/-- a matrix variable of the call's own to which a number is appended -/
structure MakeM (w0 w : World) (ms : Nat) (R C : Int) (v : Value) (u T : Nat) (f : Nat → UInt8) : Prop where
  box : Box w ms R C v
  free : Free w ms
  own : w.ownsRow (ms + 1) u 1 v T ((upto f T).map vb)
  lt : ms < w.heap.size
  below : Below ms w0 w
theorem MakeM.later {w0 w w' : World} {ms u T : Nat} {R C : Int} {v : Value} {f : Nat → UInt8} (h : MakeM w0 w ms R C v u T f) (hb : Below w.heap.size w w') : MakeM w0 w' ms R C v u T f :=
  ⟨h.box.below h.lt hb, h.free.below h.lt hb, owns_later h.own hb, Nat.lt_of_lt_of_le h.lt hb.size, h.below.trans (hb.mono (Nat.le_of_lt h.lt))⟩
theorem MakeM.push {w0 w w8 : World} {ms u T : Nat} {R C : Int} {v x' : Value} {f : Nat → UInt8} {o : Obj} (h : MakeM w0 w ms R C v u T f) (hg : (w.alloc o).grownBy w8 v.ownBlock) (hx : w8.ownsRow (ms + 1) u 1 x' (T + 1) ((upto f T).map vb ++ [f T].map vb)) :
    MakeM w0 (w8.setCell ⟨ms, 2, none⟩ x') ms R C x' u (T + 1) f ∧ w8.cell? ⟨ms, 2, none⟩ = some v ∧ w8.frozen? ⟨ms, 2, none⟩ = false := by
  have hvn : ∀ q, v.ownBlock = some q → ms + 1 ≤ q := fun q hq => (World.ownsRow.lt h.own q hq).1
  have hvne : some ms ≠ v.ownBlock := fun e => by have := hvn _ e.symm; omega
  have hl := h.lt
  have Y := (h.box.alloc h.lt o).grown hg (by simp; omega) hvne
  have G := (h.free.alloc h.lt o).grown hg (by simp; omega) hvne
  have hs : ms < w8.heap.size := by have := hg.size; simp at this; omega
  refine ⟨⟨Y.set2 _, G.setCell _ _, ?_, by simpa using hs, ((h.below.alloc (Nat.le_of_lt h.lt) o).grown hg (by simp; omega) (fun q hq => by have := hvn q hq; omega)).setCell (Nat.le_refl _) _⟩, Y.c2, G.f2⟩
  have h1 : w8.grownBy (w8.setCell ⟨ms, 2, none⟩ x') (some ms) := by
    have O := (Only.refl ms w8).setCell 2 x'
    exact ⟨O.os, O.tape, O.output, by rw [O.size]; exact Nat.le_refl _, fun q _ hq => O.block q (fun e => hq (by rw [e]))⟩
  refine World.ownsRow.kept (by rw [upto_vb_succ]; exact hx) h1 ?_
  rcases hq : x'.ownBlock with _ | q
  · exact Or.inl rfl
  · right; intro e; cases e; have := (World.ownsRow.lt hx _ hq).1; omega

set_option maxRecDepth 100000 in
set_option maxHeartbeats 1000000 in
theorem rpar_bad {k m : Int} (w : World) (h : ¬ OkC k m) : Calls Try.prog 119 #[.int .i64 k, .int .i64 m] w (MakesErr w 50) := by
  go_enter Try.func119, Try.ntmps119
  go_wp2_with fail
  refine (rccheck_bad _ h).mono ?_
  rintro e w2 ⟨rfl, rfl⟩
  go_wp2
  refine bodyPost_ret (v := .tuple #[.agg #[.int .i64 0, .int .i64 0, .slice none 0 0], .int .i64 50]) (by simp [results, Try.results119, go_sem]) rfl ⟨_, rfl, rd_none, by repeat (first | exact Below.refl _ _ | apply below_lit | refine Below.setCell ?_ (Nat.le_refl _) _)⟩

set_option maxRecDepth 100000 in
set_option maxHeartbeats 4000000 in
theorem rpar_ok {k m : Nat} (w : World) (h1 : 1 ≤ k) (h2 : k + m ≤ 256) {x y : Int} (hx : x = (k : Int)) (hy : y = (m : Int)) : Calls Try.prog 119 #[.int .i64 x, .int .i64 y] w (MakesM w m k (parF k)) := by
  subst hx hy
  obtain ⟨i0, hi, hz0, hz1, hz2⟩ := info_parts info_u8
  have hR : Hid (m = m) := rfl
  have hC : Hid (k = k) := rfl
  obtain ⟨F, hF⟩ : ∃ F, Hid (F = parF k) := ⟨_, rfl⟩
  have hR2 : m ≤ 256 := by have := hR.out; omega
  have hC2 : k ≤ 256 := by have := hC.out; omega
  rw [← hF.out]
  go_enter Try.func119, Try.ntmps119
  go_wp2_with fail
  refine (rccheck_ok _ (okC_mk h1 h2)).mono ?_
  rintro e w2 ⟨rfl, hw⟩
  subst hw
  have Y0 : MakeM (w.alloc (.cells #[.int .i64 0, .int .i64 0, .slice none 0 0] 74)) ((w.alloc (.cells #[.int .i64 0, .int .i64 0, .slice none 0 0] 74)).alloc (.cells #[.int .i64 (m : Int), .int .i64 (k : Int), .slice none 0 0] 74)) (w.heap.size + 1) (m : Int) (k : Int) (.slice none 0 0) 5 0 (pl k F) :=
    ⟨Box.new1 _ _ _ _ _ _, by have h := Free.new (w.alloc (.cells #[.int .i64 0, .int .i64 0, .slice none 0 0] 74)) #[.int .i64 (m : Int), .int .i64 (k : Int), .slice none 0 0] 74; rwa [World.size_alloc] at h, World.ownsRow_nil _ _ _ _, by simp, (Below.refl _ _).alloc (by simp) _⟩
  have X3 := Box.new w 0 0 (.slice none 0 0) 74
  have F3 := Free.new w #[.int .i64 0, .int .i64 0, .slice none 0 0] 74
  have B0 : Below w.heap.size w (w.alloc (.cells #[.int .i64 0, .int .i64 0, .slice none 0 0] 74)) := (Below.refl _ _).alloc (Nat.le_refl _) _
  have s0 : (w.alloc (.cells #[.int .i64 0, .int .i64 0, .slice none 0 0] 74)).heap.size = w.heap.size + 1 := by simp
  go_wp2
  generalize (w.alloc (.cells #[.int .i64 0, .int .i64 0, .slice none 0 0] 74)).alloc (.cells #[.int .i64 (m : Int), .int .i64 (k : Int), .slice none 0 0] 74) = w2 at *
  generalize w.alloc (.cells #[.int .i64 0, .int .i64 0, .slice none 0 0] 74) = w1 at *
  obtain ⟨ms, hms⟩ : ∃ ms, Hid (ms = w.heap.size + 1) := ⟨_, rfl⟩
  rw [← hms.out] at Y0 ⊢
  have lt0 : w.heap.size < ms := by have := hms.out; omega
  clear s0
  go_loopw [8] (fun i wr => ∃ (r : Nat) (v : Value), r ≤ m ∧ i = .int .i64 r ∧ MakeM w1 wr ms (m : Int) (k : Int) v 5 (r * k) (pl k F)) (fun i _ => m - (intOf i).toNat)
  case atStart => exact ⟨0, .slice none 0 0, by omega, rfl, by rw [Nat.zero_mul]; exact Y0⟩
  case round =>
    clear Y0
    obtain ⟨r, v, hr, rfl, HM⟩ := hrel
    by_cases hrR : r < m
    · have hrR' : (r : Int) < (m : Int) := by omega
      go_wp2
      go_loopw [9] (fun i w6 => ∃ (l : Nat) (v : Value), l ≤ k ∧ i = .int .i64 l ∧ MakeM w1 w6 ms (m : Int) (k : Int) v 5 (r * k + l) (pl k F)) (fun i _ => k - (intOf i).toNat)
      case atStart => exact ⟨0, v, by omega, rfl, HM⟩
      case round =>
        clear HM
        obtain ⟨l, v, hl, rfl, HM⟩ := hrel
        by_cases hlC : l < k
        · have hlC' : (l : Int) < (k : Int) := by omega
          obtain ⟨T, hT⟩ : ∃ T, Hid (T = r * k + l) := ⟨_, rfl⟩
          have hT2 : T ≤ 70000 := by have := hT.out; have := Nat.mul_le_mul (show r ≤ 256 by omega) hC2; omega
          have HV : Hid (pl k F T = F r l) := by show _ = _; rw [hT.out]; exact pl_at F hlC
          have HT : Hid (T + 1 = r * k + (l + 1)) := by show _ = _; rw [hT.out]; rfl
          rw [← hT.out] at HM
          obtain ⟨av, cv, ev⟩ := owns_form HM.own
          subst ev
          have m2 := HM.box.c2
          have n2 := HM.free.f2
          have lt2 := HM.lt
          have HE : Hid (F r l = parF k r l) := by show _ = _; rw [hF.out]
          go_wp2
          go_region_law (first | (refine step_append_rd rfl (.tmp 31) (.tmp 36) 22 rfl (ms + 1) 5 i0 Try.underlying22 hi hz0 hz1 hz2 (.slice av T cv) T _ rfl (World.ownsRow.alloc HM.own _) _ [F r l] rfl (rd_lit (n := 1) [F r l] rfl rfl (by decide)) (by simp; omega) (by simp; omega) ?_; intro x' w8 hx8 hg8; rw [show T + [F r l].length = T + 1 from rfl, ← HV.out] at hx8; obtain ⟨ax, cx, ex⟩ := owns_form hx8; subst ex; obtain ⟨HN, m8, n8⟩ := HM.push (grown_drew hg8) hx8) | (go_simp; go_at_call 114; refine (rpart_any _ (by have := hR.out; omega) (by have := hC.out; omega) rfl rfl rfl).mono ?_; rintro e w9 ⟨rfl, rfl⟩; rw [← HE.out]))
          all_goals
            have HN' : Hid _ := HN
            clear HN hx8 hg8 m8 n8 m2 n2 HM
            go_wp2
            go_roundw
            case rel => exact ⟨l + 1, .slice ax (T + 1) cx, by omega, by go_num, by rw [← HT.out]; exact HN'.out⟩
            case measure => simp [intOf]; omega
        · have e : l = k := by omega
          have hge : ¬ (l : Int) < (k : Int) := by omega
          have HN : Hid (MakeM w1 wr ms (m : Int) (k : Int) v 5 ((r + 1) * k) (pl k F)) := by
            show MakeM _ _ _ _ _ _ _ _ _
            rw [Nat.add_mul, Nat.one_mul]; rw [e] at HM; exact HM
          clear HM e
          go_wp2
          go_roundw
          case rel => exact ⟨r + 1, v, by omega, by go_num, HN.out⟩
          case measure => simp [intOf]; omega
    · have e : r = m := by omega
      have hge : ¬ (r : Int) < (m : Int) := by omega
      have hRd : Rd wr v (flat m k F) := by
        rw [← pl_flat]
        refine Rd.owned (base := ms + 1) (e := 5) ?_
        rw [upto_length]; rw [e] at HM; exact HM.own
      have hvb : ∀ q, v.ownBlock = some q → ms + 1 ≤ q := fun q hq => (World.ownsRow.lt HM.own q hq).1
      obtain ⟨av, cv, ev⟩ := owns_form HM.own
      have X4 := X3.below (B := ms) (by omega) HM.below
      have F4 := F3.below (B := ms) (by omega) HM.below
      have x30 := X4.c0
      have x31 := X4.c1
      have x32 := X4.c2
      have f30 := F4.f0
      have f31 := F4.f1
      have f32 := F4.f2
      have y0 := HM.box.c0
      have y1 := HM.box.c1
      have y2 := HM.box.c2
      have B4 := B0.trans (HM.below.mono (show w.heap.size ≤ ms by omega))
      clear HM e
      subst ev
      go_wp2
      have O1 : Only w.heap.size wr (((wr.setCell ⟨w.heap.size, 0, none⟩ (.int .i64 (m : Int))).setCell ⟨w.heap.size, 1, none⟩ (.int .i64 (k : Int))).setCell ⟨w.heap.size, 2, none⟩ (.slice av (r * k) cv)) :=
        (((Only.refl _ _).setCell 0 _).setCell 1 _).setCell 2 _
      have hap : Apart w.heap.size (.slice av (r * k) cv) := fun x m' c' ex => by
        right; intro eb
        simp at ex
        obtain ⟨rfl, _⟩ := ex
        have := hvb x.block rfl
        omega
      exact bodyPost_ret (v := .tuple #[.agg #[.int .i64 (m : Int), .int .i64 (k : Int), .slice av (r * k) cv], .int .i64 0]) (by simp [results, Try.results119, go_sem, x30, x31, x32, f30, f31, f32]) rfl ⟨_, rfl, hRd.only hap O1, B4.trans (O1.below (Nat.le_refl _))⟩

end Go.Proofs.Ytchfonofjbpmaaa.Gf

/-
  THE DOCUMENT's ANSWER FOR LAYER 5 (package aumbryref05) BY CONTRACT: 'Generator'.
-/

namespace Go.Proofs.Ytchfonofjbpmaaa.Gf
set_option linter.unusedVariables false
set_option linter.unusedSimpArgs false
open Go.RowKit

set_option maxRecDepth 100000 in
set_option maxHeartbeats 1000000 in
theorem rsame5_any {i j : Int} (w : World) : Calls Try.prog 113 #[.int .i64 i, .int .i64 j] w fun e w' => e = .returned (.int .u8 (if i = j then 1 else 0)) ∧ w' = w := by
  by_cases h : i = j
  · rw [if_pos h]
    have d : (i == j) = true := by rw [beq_iff_eq]; exact h
    clear h
    go_enter Try.func113, Try.ntmps113
    go_wp2
    go_ret
    exact ⟨rfl, rfl⟩
  · rw [if_neg h]
    have d : (i == j) = false := by rw [beq_eq_false_iff_ne]; exact h
    clear h
    go_enter Try.func113, Try.ntmps113
    go_wp2
    go_ret
    exact ⟨rfl, rfl⟩

theorem rsame5_nat {i j : Nat} (w : World) {x y : Int} (hx : x = (i : Int)) (hy : y = (j : Int)) : Calls Try.prog 113 #[.int .i64 x, .int .i64 y] w fun e w' => e = .returned (.int .u8 ((one i j).toNat : Nat)) ∧ w' = w := by
  subst hx hy
  refine (rsame5_any w).mono ?_
  rintro e w' ⟨rfl, rfl⟩
  refine ⟨?_, rfl⟩
  by_cases h : i = j
  · rw [if_pos (by omega), h, one_self]; rfl
  · rw [if_neg (by omega), one_ne h]; rfl

set_option maxRecDepth 100000 in
set_option maxHeartbeats 1000000 in
theorem rgen_bad {k m : Int} (w : World) (h : ¬ OkC k m) : Calls Try.prog 92 #[.int .i64 k, .int .i64 m] w (MakesErr w 50) := by
  go_enter Try.func92, Try.ntmps92
  go_wp2_with fail
  refine (rccheck_bad _ h).mono ?_
  rintro e w2 ⟨rfl, rfl⟩
  go_wp2
  refine bodyPost_ret (v := .tuple #[.agg #[.int .i64 0, .int .i64 0, .slice none 0 0], .int .i64 50]) (by simp [results, Try.results92, go_sem]) rfl ⟨_, rfl, rd_none, by repeat (first | exact Below.refl _ _ | apply below_lit | refine Below.setCell ?_ (Nat.le_refl _) _)⟩

set_option maxRecDepth 100000 in
set_option maxHeartbeats 4000000 in
theorem rgen_ok {k m : Nat} (w : World) (h1 : 1 ≤ k) (h2 : k + m ≤ 256) {x y : Int} (hx : x = (k : Int)) (hy : y = (m : Int)) : Calls Try.prog 92 #[.int .i64 x, .int .i64 y] w (MakesM w (k + m) k (genF k)) := by
  subst hx hy
  obtain ⟨i0, hi, hz0, hz1, hz2⟩ := info_parts info_u8
  obtain ⟨R, hR⟩ : ∃ R, Hid (R = (k + m)) := ⟨_, rfl⟩
  have hC : Hid (k = k) := rfl
  obtain ⟨F, hF⟩ : ∃ F, Hid (F = genF k) := ⟨_, rfl⟩
  have hR2 : R ≤ 256 := by have := hR.out; omega
  have hC2 : k ≤ 256 := by have := hC.out; omega
  have gR : (k : Int) + (m : Int) = (R : Int) := by have := hR.out; omega
  rw [← hR.out]
  rw [← hF.out]
  go_enter Try.func92, Try.ntmps92
  go_wp2_with fail
  refine (rccheck_ok _ (okC_mk h1 h2)).mono ?_
  rintro e w2 ⟨rfl, hw⟩
  subst hw
  have Y0 : MakeM (w.alloc (.cells #[.int .i64 0, .int .i64 0, .slice none 0 0] 74)) ((w.alloc (.cells #[.int .i64 0, .int .i64 0, .slice none 0 0] 74)).alloc (.cells #[.int .i64 (R : Int), .int .i64 (k : Int), .slice none 0 0] 74)) (w.heap.size + 1) (R : Int) (k : Int) (.slice none 0 0) 5 0 (pl k F) :=
    ⟨Box.new1 _ _ _ _ _ _, by have h := Free.new (w.alloc (.cells #[.int .i64 0, .int .i64 0, .slice none 0 0] 74)) #[.int .i64 (R : Int), .int .i64 (k : Int), .slice none 0 0] 74; rwa [World.size_alloc] at h, World.ownsRow_nil _ _ _ _, by simp, (Below.refl _ _).alloc (by simp) _⟩
  have X3 := Box.new w 0 0 (.slice none 0 0) 74
  have F3 := Free.new w #[.int .i64 0, .int .i64 0, .slice none 0 0] 74
  have B0 : Below w.heap.size w (w.alloc (.cells #[.int .i64 0, .int .i64 0, .slice none 0 0] 74)) := (Below.refl _ _).alloc (Nat.le_refl _) _
  have s0 : (w.alloc (.cells #[.int .i64 0, .int .i64 0, .slice none 0 0] 74)).heap.size = w.heap.size + 1 := by simp
  go_wp2
  generalize (w.alloc (.cells #[.int .i64 0, .int .i64 0, .slice none 0 0] 74)).alloc (.cells #[.int .i64 (R : Int), .int .i64 (k : Int), .slice none 0 0] 74) = w2 at *
  generalize w.alloc (.cells #[.int .i64 0, .int .i64 0, .slice none 0 0] 74) = w1 at *
  obtain ⟨ms, hms⟩ : ∃ ms, Hid (ms = w.heap.size + 1) := ⟨_, rfl⟩
  rw [← hms.out] at Y0 ⊢
  have lt0 : w.heap.size < ms := by have := hms.out; omega
  clear s0
  go_loopw [8] (fun i wr => ∃ (r : Nat) (v : Value), r ≤ R ∧ i = .int .i64 r ∧ MakeM w1 wr ms (R : Int) (k : Int) v 5 (r * k) (pl k F)) (fun i _ => R - (intOf i).toNat)
  case atStart => exact ⟨0, .slice none 0 0, by omega, rfl, by rw [Nat.zero_mul]; exact Y0⟩
  case round =>
    clear Y0
    obtain ⟨r, v, hr, rfl, HM⟩ := hrel
    by_cases hrR : r < R
    · have hrR' : (r : Int) < (R : Int) := by omega
      go_wp2
      go_loopw [9] (fun i w6 => ∃ (l : Nat) (v : Value), l ≤ k ∧ i = .int .i64 l ∧ MakeM w1 w6 ms (R : Int) (k : Int) v 5 (r * k + l) (pl k F)) (fun i _ => k - (intOf i).toNat)
      case atStart => exact ⟨0, v, by omega, rfl, HM⟩
      case round =>
        clear HM
        obtain ⟨l, v, hl, rfl, HM⟩ := hrel
        by_cases hlC : l < k
        · have hlC' : (l : Int) < (k : Int) := by omega
          obtain ⟨T, hT⟩ : ∃ T, Hid (T = r * k + l) := ⟨_, rfl⟩
          have hT2 : T ≤ 70000 := by have := hT.out; have := Nat.mul_le_mul (show r ≤ 256 by omega) hC2; omega
          have HV : Hid (pl k F T = F r l) := by show _ = _; rw [hT.out]; exact pl_at F hlC
          have HT : Hid (T + 1 = r * k + (l + 1)) := by show _ = _; rw [hT.out]; rfl
          rw [← hT.out] at HM
          obtain ⟨av, cv, ev⟩ := owns_form HM.own
          subst ev
          have m2 := HM.box.c2
          have n2 := HM.free.f2
          have lt2 := HM.lt
          by_cases hrk : r < k
          · have hge : ¬ (r : Int) ≥ (k : Int) := by omega
            have HE : Hid (F r l = one r l) := by show _ = _; rw [hF.out]; exact if_pos hrk
            go_wp2_with fail
            refine (rsame5_nat _ rfl rfl).mono ?_
            rintro e w9 ⟨rfl, rfl⟩
            rw [← HE.out]
            go_wp2_with (at_builtin; refine wpList_append_rd2 _ rfl (.tmp 48) (.tmp 50) 22 rfl (ms + 1) 5 i0 Try.underlying22 hi hz0 hz1 hz2 (.slice av T cv) T _ rfl (World.ownsRow.alloc HM.own _) _ [F r l] rfl (rd_lit (n := 1) [F r l] rfl rfl (by decide)) (by simp; omega) (by simp; omega) ?_; intro x' w8 hx8 hg8 hb8; rw [show T + [F r l].length = T + 1 from rfl, ← HV.out] at hx8; obtain ⟨ax, cx, ex⟩ := owns_form hx8; subst ex; obtain ⟨HN, m8, n8⟩ := HM.push hg8 hx8)
            have HN' : Hid _ := HN
            clear HN hx8 hg8 hb8 m8 n8 m2 n2 HM
            go_roundw
            case rel => exact ⟨l + 1, .slice ax (T + 1) cx, by omega, by go_num, by rw [← HT.out]; exact HN'.out⟩
            case measure => simp [intOf]; omega
          · have hge : (r : Int) ≥ (k : Int) := by omega
            obtain ⟨q, hq⟩ : ∃ q, Hid (q = r - k) := ⟨_, rfl⟩
            have gq : (r : Int) - (k : Int) = (q : Int) := by have := hq.out; omega
            have HE : Hid (F r l = parF k q l) := by show _ = _; rw [hF.out, hq.out]; exact if_neg hrk
            have gwq : IntKind.i64.wrap (q : Int) = (q : Int) := by rw [IntKind.wrap_i64]; have := hq.out; omega
            go_wp2_with fail
            refine (rsame5_nat _ rfl rfl).mono ?_
            rintro e w9 ⟨rfl, rfl⟩
            go_wp2_with fail
            refine (rpart_any _ (by have := hq.out; have := hR.out; omega) (by have := hC.out; omega) rfl rfl rfl).mono ?_
            rintro e w9 ⟨rfl, rfl⟩
            rw [← HE.out]
            go_wp2_with (at_builtin; refine wpList_append_rd2 _ rfl (.tmp 48) (.tmp 50) 22 rfl (ms + 1) 5 i0 Try.underlying22 hi hz0 hz1 hz2 (.slice av T cv) T _ rfl (World.ownsRow.alloc HM.own _) _ [F r l] rfl (rd_lit (n := 1) [F r l] rfl rfl (by decide)) (by simp; omega) (by simp; omega) ?_; intro x' w8 hx8 hg8 hb8; rw [show T + [F r l].length = T + 1 from rfl, ← HV.out] at hx8; obtain ⟨ax, cx, ex⟩ := owns_form hx8; subst ex; obtain ⟨HN, m8, n8⟩ := HM.push hg8 hx8)
            have HN' : Hid _ := HN
            clear HN hx8 hg8 hb8 m8 n8 m2 n2 HM
            go_roundw
            case rel => exact ⟨l + 1, .slice ax (T + 1) cx, by omega, by go_num, by rw [← HT.out]; exact HN'.out⟩
            case measure => simp [intOf]; omega
        · have e : l = k := by omega
          have hge : ¬ (l : Int) < (k : Int) := by omega
          have HN : Hid (MakeM w1 wr ms (R : Int) (k : Int) v 5 ((r + 1) * k) (pl k F)) := by
            show MakeM _ _ _ _ _ _ _ _ _
            rw [Nat.add_mul, Nat.one_mul]; rw [e] at HM; exact HM
          clear HM e
          go_wp2
          go_roundw
          case rel => exact ⟨r + 1, v, by omega, by go_num, HN.out⟩
          case measure => simp [intOf]; omega
    · have e : r = R := by omega
      have hge : ¬ (r : Int) < (R : Int) := by omega
      have hRd : Rd wr v (flat R k F) := by
        rw [← pl_flat]
        refine Rd.owned (base := ms + 1) (e := 5) ?_
        rw [upto_length]; rw [e] at HM; exact HM.own
      have hvb : ∀ q, v.ownBlock = some q → ms + 1 ≤ q := fun q hq => (World.ownsRow.lt HM.own q hq).1
      obtain ⟨av, cv, ev⟩ := owns_form HM.own
      have X4 := X3.below (B := ms) (by omega) HM.below
      have F4 := F3.below (B := ms) (by omega) HM.below
      have x30 := X4.c0
      have x31 := X4.c1
      have x32 := X4.c2
      have f30 := F4.f0
      have f31 := F4.f1
      have f32 := F4.f2
      have y0 := HM.box.c0
      have y1 := HM.box.c1
      have y2 := HM.box.c2
      have B4 := B0.trans (HM.below.mono (show w.heap.size ≤ ms by omega))
      clear HM e
      subst ev
      go_wp2
      have O1 : Only w.heap.size wr (((wr.setCell ⟨w.heap.size, 0, none⟩ (.int .i64 (R : Int))).setCell ⟨w.heap.size, 1, none⟩ (.int .i64 (k : Int))).setCell ⟨w.heap.size, 2, none⟩ (.slice av (r * k) cv)) :=
        (((Only.refl _ _).setCell 0 _).setCell 1 _).setCell 2 _
      have hap : Apart w.heap.size (.slice av (r * k) cv) := fun x m' c' ex => by
        right; intro eb
        simp at ex
        obtain ⟨rfl, _⟩ := ex
        have := hvb x.block rfl
        omega
      exact bodyPost_ret (v := .tuple #[.agg #[.int .i64 (R : Int), .int .i64 (k : Int), .slice av (r * k) cv], .int .i64 0]) (by simp [results, Try.results92, go_sem, x30, x31, x32, f30, f31, f32]) rfl ⟨_, rfl, hRd.only hap O1, B4.trans (O1.below (Nat.le_refl _))⟩

end Go.Proofs.Ytchfonofjbpmaaa.Gf

/-
  THE DOCUMENT's ANSWER FOR LAYER 3 (package aumbryref03) BY CONTRACT: 'Check'.
-/

namespace Go.Proofs.Ytchfonofjbpmaaa.Gf
set_option linter.unusedVariables false
set_option linter.unusedSimpArgs false
open Go.RowKit

set_option maxRecDepth 100000 in
set_option maxHeartbeats 1000000 in
theorem rcheck_ok {v : Value} {r c : Int} {A : List UInt8} {w : World} (h : RdM w v r c A) (hok : OkM r c A) :
    Calls Try.prog 115 #[v] w fun e w' => e = .returned (.int .i64 0) ∧ Below w.heap.size w w' := by
  obtain ⟨vs, rfl, hr⟩ := h
  obtain ⟨a, cap, rfl⟩ := hr.form
  obtain ⟨h1, h2, h3, h4, h5⟩ := hok
  have k1 : decide (r < 0) = false := by simp; omega
  have k2 : decide (r > 256) = false := by simp; omega
  have k3 : decide (c < 0) = false := by simp; omega
  have k4 : decide (c > 256) = false := by simp; omega
  generalize A.length = n at *
  have gw : IntKind.i64.wrap (r * c) = (n : Int) := by
    rw [← h5, IntKind.wrap_i64]
    have : r * c ≤ 256 * 256 := Int.mul_le_mul h2 h4 h3 (by decide)
    omega
  clear hr h5
  go_enter Try.func115, Try.ntmps115
  go_wp2
  go_ret
  exact ⟨rfl, by repeat (first | exact Below.refl _ _ | apply below_lit)⟩

set_option maxRecDepth 100000 in
set_option maxHeartbeats 1000000 in
theorem rcheck_bad {v : Value} {r c : Int} {A : List UInt8} {w : World} (h : RdM w v r c A) (hok : ¬ OkM r c A) :
    Calls Try.prog 115 #[v] w fun e w' => e = .returned (.int .i64 30) ∧ Below w.heap.size w w' := by
  obtain ⟨vs, rfl, hr⟩ := h
  obtain ⟨a, cap, rfl⟩ := hr.form
  have hl := hr.len
  clear hr
  by_cases h1 : r < 0
  · clear hok
    go_enter Try.func115, Try.ntmps115
    go_wp2
    go_ret
    exact ⟨rfl, by repeat (first | exact Below.refl _ _ | apply below_lit)⟩
  by_cases h2 : r > 256
  · clear hok
    go_enter Try.func115, Try.ntmps115
    go_wp2
    go_ret
    exact ⟨rfl, by repeat (first | exact Below.refl _ _ | apply below_lit)⟩
  by_cases h3 : c < 0
  · clear hok
    go_enter Try.func115, Try.ntmps115
    go_wp2
    go_ret
    exact ⟨rfl, by repeat (first | exact Below.refl _ _ | apply below_lit)⟩
  by_cases h4 : c > 256
  · clear hok
    go_enter Try.func115, Try.ntmps115
    go_wp2
    go_ret
    exact ⟨rfl, by repeat (first | exact Below.refl _ _ | apply below_lit)⟩
  · have h5 : ¬ (A.length : Int) = r * c := fun h5 => hok ⟨by omega, by omega, by omega, by omega, h5⟩
    clear hok
    generalize A.length = n at *
    obtain ⟨m, hm⟩ : ∃ m, m = r * c := ⟨_, rfl⟩
    have gw : IntKind.i64.wrap (r * c) = m := by
      rw [hm, IntKind.wrap_i64]
      have : r * c ≤ 256 * 256 := Int.mul_le_mul (by omega) (by omega) (by omega) (by decide)
      have : 0 ≤ r * c := Int.mul_nonneg (by omega) (by omega)
      omega
    rw [← hm] at h5
    clear hm
    have k5 : ((n : Int) != m) = true := by simpa using h5
    go_enter Try.func115, Try.ntmps115
    go_wp2
    go_ret
    exact ⟨rfl, by repeat (first | exact Below.refl _ _ | apply below_lit)⟩

end Go.Proofs.Ytchfonofjbpmaaa.Gf

