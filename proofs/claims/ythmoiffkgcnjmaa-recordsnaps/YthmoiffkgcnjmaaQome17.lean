/- TEXTS JOINED: ReRefN. -/
import Derived.Test.YthmoiffkgcnjmaaQome16
namespace Go.Proofs.Ythmoiffkgcnjmaa.Gf
set_option linter.unusedVariables false
set_option linter.unusedSimpArgs false
open Go.RowKit
/-- the record that bytes begin with, and what stands behind (a part of the slice itself); or none -/
def NextR16 (w : World) (v : Value) (p : List UInt8) (e : Ending) (w' : World) : Prop :=
  (NxR p ∧ ∃ (c : RcV) (a : Option Addr) (m q : Nat), e = .returned (.tuple #[aggR c, .slice a m q, .bool true]) ∧ c.r = raR p ∧ c.In w' ∧ (∀ k, c.vs.ownBlock = some k → w.heap.size ≤ k ∧ k < w'.heap.size) ∧ (∀ W, Rd W v p → Rd W (.slice a m q) (reR p)) ∧ Below w.heap.size w w') ∨
  (¬ NxR p ∧ ∃ (k n : Int) (y : List UInt8) (va a : Option Addr) (vn vc m q : Nat), e = .returned (.tuple #[.agg #[.int .i64 k, .string ⟨y.toArray⟩, .int .i64 n, .slice va vn vc], .slice a m q, .bool false]) ∧ Below w.heap.size w w')
theorem NextR16.no {w : World} {v : Value} {p : List UInt8} {w' : World} (h : ¬ NxR p) (b : Below w.heap.size w w') : NextR16 w v p (.returned (.tuple #[.agg #[.int .i64 0, .string ⟨#[]⟩, .int .i64 0, .slice none 0 0], .slice none 0 0, .bool false])) w' := Or.inr ⟨h, 0, 0, [], none, none, 0, 0, 0, 0, rfl, b⟩
theorem w64_in {n : Int} (h0 : 0 ≤ n) (h1 : n < 65536) : wrap64 n = n := by unfold wrap64; omega
theorem nx_bad {p : Prop} (h : p := by
  go_wp2
  exact bodyPost_ret (v := .tuple #[.agg #[.int .i64 0, .string ⟨#[]⟩, .int .i64 0, .slice none 0 0], .slice none 0 0, .bool false]) (by simp [results, Try.results32, go_sem]) rfl (NextR16.no N.out FIN.out)) : p := h
theorem two_wrap {n : Int} (h0 : 0 ≤ n) (h1 : n < 4294967296) : wrap64 n = n ∧ IntKind.i64.wrap n = n := ⟨by unfold wrap64; omega, by rw [IntKind.wrap_i64]; omega⟩
theorem un_at (q : List UInt8) (r : Nat) : un (q.drop (2 * r)) = 256 * (co q (2 * r)).toNat + (co q (2 * r + 1)).toNat := by
  show 256 * (co (q.drop (2 * r)) 0).toNat + (co (q.drop (2 * r)) 1).toNat = _
  rw [co_drop, co_drop, Nat.add_zero]
theorem nx_tail {p : Prop} (h : p := by
  refine rnH 18 fun K hK => ?_
  refine step_append_z (w := wr.drew) (z := (z : Int)) rfl (.tmp 85) (.tmp 101) rfl rfl rfl gd.own rfl rfl (by rw [ls]; omega) (Nat.le_trans gd.tn.size (Nat.le_refl _)) ?_
  intro v5 w5 o5 G5
  have g5 := gd.grow G5 o5
  obtain ⟨y3, y4⟩ := gd.spot G5
  have SK := SB _ G5
  rw [← EZ.out] at g5
  obtain ⟨a5, n5, ev⟩ := owns_form o5
  rw [List.length_append, ls, List.length_singleton] at ev
  subst ev
  have SL : (w5.setCell ⟨w1.heap.size, 3, none⟩ (.slice a5 (r + 1) n5)).cell? ⟨b9, o9 + s, none⟩ = some (.int .u8 (t6 : Int)) ∧ (w5.setCell ⟨w1.heap.size, 3, none⟩ (.slice a5 (r + 1) n5)).cell? ⟨b9, o9 + (s + 1), none⟩ = some (.int .u8 (t7 : Int)) := ⟨(World.cell?_setCell_far _ _ _ _ ne9).trans SK.1, (World.cell?_setCell_far _ _ _ _ ne9).trans SK.2⟩
  clear o5 G5 gd
  refine koH hK SK fun hHeld => ?_
  clear hK K
  refine tkH 19 ?_
  refine rnH 20 fun K hK => ?_
  go_simp
  refine koH hK SL fun hHeld => ?_
  clear hK K
  refine wpAnyH_done (by kernel_rfl) ?_ _
  go_wp2
  go_roundw
  case rel => exact ⟨r + 1, _, by omega, by go_num, g5⟩
  case measure => simp [intOf]; omega) : p := h
theorem nx_fail {p : Prop} (h : p := by
  obtain ⟨W, hW⟩ : ∃ W, W = (((w4.setCell ⟨w.heap.size, 0, none⟩ (.int .i64 0)).setCell ⟨w.heap.size, 1, none⟩ (.string ⟨#[]⟩)).setCell ⟨w.heap.size, 2, none⟩ (.int .i64 0)).setCell ⟨w.heap.size, 3, none⟩ (.slice none 0 0) := ⟨_, rfl⟩
  obtain ⟨OA, n0, n1, n2, n3⟩ := set4 (a := .int .i64 0) (b := .string ⟨#[]⟩) (c := .int .i64 0) (d := .slice none 0 0) m0 m1 m2 m3
  rw [← hW] at OA n0 n1 n2 n3
  have FIN : Hid (Below w.heap.size w W) := (AF.out w4 gn4.tn).2.trans (OA.below (Nat.le_refl _))
  clear OA gn4 AF RW EL ER
  go_wp2
  rw [← hW]
  clear hW
  exact bodyPost_ret (v := .tuple #[.agg #[.int .i64 0, .string ⟨#[]⟩, .int .i64 0, .slice none 0 0], .slice none 0 0, .bool false]) (by simp [results, Try.results32, go_sem, n0, n1, n2, n3]) rfl (NextR16.no N.out FIN.out)) : p := h
set_option maxRecDepth 100000 in
set_option maxHeartbeats 4000000 in
theorem rnxt16_any {w : World} {v : Value} {p : List UInt8} (R : Rd w v p) (hp : p.length ≤ 100000) : Calls Try.prog 32 #[v] w (NextR16 w v p) := by
  obtain ⟨a, cp, ev⟩ := R.form
  subst ev
  obtain ⟨w1, hw1⟩ : ∃ w1, w1 = w.alloc (.cells #[.int .i64 0, .string ⟨#[]⟩, .int .i64 0, .slice none 0 0] 25) := ⟨_, rfl⟩
  have B1 : Below w.heap.size w w1 := by rw [hw1]; exact belR _ _
  have FIN : Hid (Below w.heap.size w (w.alloc (.cells #[.int .i64 0, .string ⟨#[]⟩, .int .i64 0, .slice none 0 0] 25))) := belR _ _
  by_cases l2 : (p.length : Int) < 2
  · have N : Hid (¬ NxR p) := fun q => by have := q.1.1; omega
    clear R hw1 B1
    go_enter Try.func32, Try.ntmps32
    exact nx_bad
  have R1 := R.below B1
  obtain ⟨b, off, ea, hb, z1⟩ := R1.byte (i := 1) (by omega)
  subst ea
  rw [hw1] at z1
  obtain ⟨N, hN⟩ : ∃ N : Nat, Hid (N = (co p 1).toNat) := ⟨_, rfl⟩
  have N0 : N < 256 := by rw [hN.out]; exact (co p 1).toNat_lt
  rw [← hN.out] at z1
  have g1 : wrap64 (N : Int) = (N : Int) := by unfold wrap64; omega
  by_cases l8 : (p.length : Int) < 2 + (N : Int) + 6
  · have N : Hid (¬ NxR p) := fun q => by have := q.1.2; rw [← hN.out] at this; omega
    clear R R1 B1 hw1
    go_enter Try.func32, Try.ntmps32
    exact nx_bad
  have l8' : 8 + N ≤ p.length := by omega
  have hp0 : 0 < p.length := by omega
  obtain ⟨b', off', eb, _, z0⟩ := R1.byte (i := 0) (by omega)
  simp at eb
  obtain ⟨rfl, rfl⟩ := eb
  rw [Nat.add_zero] at z0
  obtain ⟨K0, hK0⟩ : ∃ K0 : Nat, Hid (K0 = (co p 0).toNat) := ⟨_, rfl⟩
  have K00 : K0 < 256 := by rw [hK0.out]; exact (co p 0).toNat_lt
  rw [← hK0.out] at z0
  have g0 : wrap64 (K0 : Int) = (K0 : Int) := by unfold wrap64; omega
  have g0' : IntKind.i64.wrap (K0 : Int) = (K0 : Int) := by rw [IntKind.wrap_i64]; omega
  have hcap := (rd_cap R1).2
  have g2 : IntKind.i64.wrap (2 + (N : Int)) = 2 + (N : Int) := by rw [IntKind.wrap_i64]; omega
  have E4 : ∀ W, (Instr.slice 26 (.slice (some ⟨b, off, none⟩) p.length cp) (some (.int .i64 2)) (some (.int .i64 (2 + (N : Int)))) none).run Try.prog W = _ := fun W => cut_lh16 W (some ⟨b, off, none⟩) (n := p.length) (c := cp) (lo := 2) (hi := 2 + N) (by omega) (by omega)
  have M4 := R1.mid16 (lo := 2) (hi := 2 + N) (by omega) (by omega)
  obtain ⟨am, ham⟩ : ∃ am, am = (if cp = 2 then some (⟨b, off, none⟩ : Addr) else (some (⟨b, off, none⟩ : Addr)).map (·.add 2)) := ⟨_, rfl⟩
  rw [← ham] at M4
  simp only [← ham] at E4
  rw [show 2 + N - 2 = N by omega] at M4 E4
  obtain ⟨cm, hcm⟩ : ∃ cm, cm = cp - 2 := ⟨_, rfl⟩
  rw [← hcm] at M4
  simp only [← hcm] at E4
  clear ham hcm
  obtain ⟨y, hy⟩ : ∃ y, Hid (y = (p.drop 2).take N) := ⟨_, rfl⟩
  rw [← hy.out] at M4
  have ly : y.length = N := by rw [hy.out, List.length_take, List.length_drop]; omega
  have z1' : w1.cell? ⟨b, off + 1, none⟩ = some (.int .u8 (N : Int)) := by rw [hw1]; exact z1
  have SB : ∀ W, Below w1.heap.size w1 W → W.cell? ⟨b, off, none⟩ = some (.int .u8 (K0 : Int)) ∧ (convert 26 9 (.slice am N cm)).run Try.prog W = .ok (.string ⟨y.toArray⟩) W := fun W q => ⟨(q.cell (p := ⟨b, off, none⟩) hb).trans z0, conv_str (M4.below q)⟩
  have D0 : Below w1.heap.size w1 w1.drew := (Below.refl _ _).drew
  go_enter Try.func32, Try.ntmps32
  go_wp2_with fail
  rw [← hw1]
  have S1 : Hid (w1.heap.size = w.heap.size + 1) := by show _ = _; rw [hw1]; simp
  have cA : Hid (∀ j, w1.cell? ⟨w.heap.size, j, none⟩ = #[Value.int .i64 0, .string ⟨#[]⟩, .int .i64 0, .slice none 0 0][j]?) := fun j => by rw [hw1, World.cell?_alloc_new]
  have fA : Hid (∀ j, w1.frozen? ⟨w.heap.size, j, none⟩ = false) := fun j => by rw [hw1]; simp [go_sem]
  clear hw1 z1
  have SW := SB _ D0
  refine wp_region_held_drew (S := fun wx => wx.cell? ⟨b, off, none⟩ = some (.int .u8 (K0 : Int)) ∧ (convert 26 9 (.slice am N cm)).run Try.prog wx = .ok (.string ⟨y.toArray⟩) wx) (by kernel_rfl) SW (fun hHeld => ?_)
  refine tkH 0 ?_
  refine tkH 1 ?_
  refine tkH 2 ?_
  refine tkH 3 ?_
  refine tkH 4 ?_
  refine tkH 5 ?_
  refine tkH 6 ?_
  refine tkH 7 ?_
  refine tkH 8 ?_
  refine tkH 9 ?_
  refine rnH 10 fun K hK => ?_
  go_simp
  refine koH hK (SB _ (D0.alloc D0.size _)) fun hHeld => ?_
  clear hK K
  refine rnH 11 fun K hK => ?_
  go_simp
  obtain ⟨w2, hw2⟩ : ∃ w2, w2 = (w1.alloc (.cells #[.int .i64 (K0 : Int), .string ⟨y.toArray⟩, .int .i64 0, .slice none 0 0] 25)).drew := ⟨_, rfl⟩
  have B2 : Below w1.heap.size w1 w2 := by rw [hw2]; exact (belR _ _).drew
  have S2 : Hid (w2.heap.size = w1.heap.size + 1) := by show _ = _; rw [hw2]; simp
  have gn : GotN w2 w1.heap.size w2 (K0 : Int) y 0 (.slice none 0 0) [] := by
    have c : ∀ j, w2.cell? ⟨w1.heap.size, j, none⟩ = #[Value.int .i64 (K0 : Int), .string ⟨y.toArray⟩, .int .i64 0, .slice none 0 0][j]? := fun j => by rw [hw2]; exact World.cell?_alloc_new _ _ _ _
    exact ⟨c 0, c 1, c 2, c 3, fun j => by rw [hw2]; simp [go_sem], OwnZ.nil _ _ _, Turn.refl _ _, by have := S2.out; omega⟩
  have SF : w2.cell? ⟨b, off, none⟩ = some (.int .u8 (K0 : Int)) ∧ (convert 26 9 (.slice am N cm)).run Try.prog w2 = .ok (.string ⟨y.toArray⟩) w2 := SB _ B2
  rw [← hw2]
  clear hw2
  refine koH hK SF fun hHeld => ?_
  clear hK K SF hHeld SB SW D0 M4 E4
  refine wpAnyH_done (by kernel_rfl) ?_ _
  have R2 := R1.below B2
  have g3 : IntKind.i64.wrap (6 + (N : Int)) = 6 + (N : Int) := by rw [IntKind.wrap_i64]; omega
  have E5 : ∀ W, (Instr.slice 26 (.slice (some ⟨b, off, none⟩) p.length cp) (some (.int .i64 (2 + (N : Int)))) (some (.int .i64 (6 + (N : Int)))) none).run Try.prog W = _ := fun W => cut_lh16 W (some ⟨b, off, none⟩) (n := p.length) (c := cp) (lo := 2 + N) (hi := 6 + N) (by omega) (by omega)
  have M5 := R2.mid16 (lo := 2 + N) (hi := 6 + N) (by omega) (by omega)
  obtain ⟨a5, ha5⟩ : ∃ a5, a5 = (if cp = 2 + N then some (⟨b, off, none⟩ : Addr) else (some (⟨b, off, none⟩ : Addr)).map (·.add (2 + N))) := ⟨_, rfl⟩
  rw [← ha5] at M5
  simp only [← ha5] at E5
  rw [show 6 + N - (2 + N) = 4 by omega] at M5 E5
  generalize cp - (2 + N) = c5 at M5 E5
  clear ha5
  obtain ⟨q3, hq3⟩ : ∃ q3, Hid (q3 = p.drop (2 + N)) := ⟨_, rfl⟩
  have l3 : q3.length = p.length - (2 + N) := by rw [hq3.out, List.length_drop]
  rw [← hq3.out] at M5
  have KN := rnum_any M5 (by rw [List.length_take]; omega)
  rw [nu_take (by omega)] at KN
  clear M5
  go_wp2_with fail
  refine KN.mono ?_
  rintro _ w3 ⟨rfl, B3⟩
  clear KN E5
  obtain ⟨L0, hL0⟩ : ∃ L0 : Nat, Hid (L0 = nu q3) := ⟨_, rfl⟩
  have L00 : L0 < 4294967296 := by rw [hL0.out]; exact nu_lt _
  rw [← hL0.out]
  have gn3 := gn.below B3
  have R3 := R2.below B3
  clear gn R2
  obtain ⟨b6, o6, e6, _, c6⟩ := R3.byte (i := 6 + N) (by omega)
  simp at e6
  obtain ⟨rfl, rfl⟩ := e6
  obtain ⟨b7, o7, e7, _, c7⟩ := R3.byte (i := 7 + N) (by omega)
  simp at e7
  obtain ⟨rfl, rfl⟩ := e7
  have EC : Hid (un (p.drop (6 + N)) = 256 * (co p (6 + N)).toNat + (co p (7 + N)).toNat) := by
    show 256 * (co (p.drop (6 + N)) 0).toNat + (co (p.drop (6 + N)) 1).toNat = _
    rw [co_drop, co_drop, show 6 + N + 1 = 7 + N by omega, Nat.add_zero]
  have x6 : (co p (6 + N)).toNat < 256 := (co p (6 + N)).toNat_lt
  have x7 : (co p (7 + N)).toNat < 256 := (co p (7 + N)).toNat_lt
  generalize (co p (6 + N)).toNat = t6 at c6 EC x6
  generalize (co p (7 + N)).toNat = t7 at c7 EC x7
  obtain ⟨C, hC6⟩ : ∃ C : Nat, C = 256 * t6 + t7 := ⟨_, rfl⟩
  have hC : Hid (C = un (p.drop (6 + N))) := hC6.trans EC.out.symm
  have eC : 256 * (t6 : Int) + (t7 : Int) = (C : Int) := by rw [hC6, Int.natCast_add, Int.natCast_mul]; rfl
  have C0 : C < 65536 := by omega
  clear hC6
  have h6 : IntKind.i64.wrap (t6 : Int) = (t6 : Int) := by rw [IntKind.wrap_i64]; omega
  have h7 : IntKind.i64.wrap (t7 : Int) = (t7 : Int) := by rw [IntKind.wrap_i64]; omega
  have h8 : IntKind.i64.wrap (256 * (t6 : Int)) = 256 * (t6 : Int) := by rw [IntKind.wrap_i64]; omega
  have h9 : IntKind.i64.wrap (C : Int) = (C : Int) := by rw [IntKind.wrap_i64]; omega
  have g7 : IntKind.i64.wrap (7 + (N : Int)) = 7 + (N : Int) := by rw [IntKind.wrap_i64]; omega
  have i6 : 6 + (N : Int) < (p.length : Int) := by omega
  have i7 : 7 + (N : Int) < (p.length : Int) := by omega
  obtain ⟨h6', h7'⟩ : wrap64 (t6 : Int) = (t6 : Int) ∧ wrap64 (t7 : Int) = (t7 : Int) := ⟨w64_in (by omega) (by omega), w64_in (by omega) (by omega)⟩
  clear EC
  go_wp2_with fail
  go_quiet (fail)
  have gn4 := gn3.below (show Below w3.heap.size w3 (w3.drewN nq) from (Below.refl _ _).drewN nq)
  have R4 := R3.below (show Below w3.heap.size w3 (w3.drewN nq) from (Below.refl _ _).drewN nq)
  have BW : Below w2.heap.size w2 (w3.drewN nq) := B3.drewN nq
  generalize w3.drewN nq = w4 at gn4 R4 BW
  clear gn3 R3 B3 c6 c7 h6 h7 h8 h6' h7' eC i6 i7 g7 x6 x7
  have g8 : IntKind.i64.wrap (8 + (N : Int)) = 8 + (N : Int) := by rw [IntKind.wrap_i64]; omega
  have E8 : ∀ W, (Instr.slice 26 (.slice (some ⟨b, off, none⟩) p.length cp) (some (.int .i64 (8 + (N : Int)))) none none).run Try.prog W = _ := fun W => cut_lo16 W (some ⟨b, off, none⟩) (n := p.length) (c := cp) (k := 8 + N) (by omega)
  have M8 := R.rest16 (k := 8 + N) (by omega)
  have A8 := fun (W : World) (q : Rd W (.slice (some ⟨b, off, none⟩) p.length cp) p) => q.rest16 (k := 8 + N) (by omega)
  obtain ⟨a8, ha8⟩ : ∃ a8, a8 = (if cp = 8 + N then some (⟨b, off, none⟩ : Addr) else (some (⟨b, off, none⟩ : Addr)).map (·.add (8 + N))) := ⟨_, rfl⟩
  rw [← ha8] at M8 A8
  simp only [← ha8] at E8
  generalize cp - (8 + N) = c8 at M8 A8 E8
  clear ha8
  obtain ⟨q5, hq5⟩ : ∃ q5, Hid (q5 = p.drop (8 + N)) := ⟨_, rfl⟩
  have l5 : Hid (q5.length = p.length - (8 + N)) := by show _ = _; rw [hq5.out, List.length_drop]
  rw [← hq5.out] at M8 A8
  rw [← l5.out] at M8 A8 E8
  have EL : Hid (LnR p ↔ 2 * C ≤ q5.length) := by
    show LnR p ↔ _
    unfold LnR
    rw [← hN.out, List.drop_drop, List.drop_drop, show 2 + (N + 4) = 6 + N by omega, ← hC.out, l5.out]
    omega
  have ER : Hid (raR p = ⟨(K0 : Int), y, (L0 : Int), stN C q5⟩ ∧ reR p = q5.drop (2 * C)) := by
    refine ⟨?_, ?_⟩
    · unfold raR
      rw [← hN.out, ← hK0.out, ← hy.out, List.drop_drop, ← hq3.out, ← hL0.out, hq3.out, List.drop_drop, show 2 + N + 4 = 6 + N by omega, ← hC.out, List.drop_drop, show 6 + N + 2 = 8 + N by omega, ← hq5.out]
    · unfold reR
      rw [← hN.out, List.drop_drop, List.drop_drop, show 2 + (N + 4) = 6 + N by omega, ← hC.out, hq5.out, List.drop_drop]
  have AF : Hid (∀ W, Turn w1.heap.size w2 W → (∀ j, W.cell? ⟨w.heap.size, j, none⟩ = #[Value.int .i64 0, .string ⟨#[]⟩, .int .i64 0, .slice none 0 0][j]? ∧ W.frozen? ⟨w.heap.size, j, none⟩ = false) ∧ Below w.heap.size w W) := by
    intro W t
    have s1 := S1.out
    have s2 := S2.out
    have la : w.heap.size < w2.heap.size := by omega
    have ne : w.heap.size ≠ w1.heap.size := by omega
    exact ⟨fun j => ⟨(t.cell (p := ⟨w.heap.size, j, none⟩) la ne).trans ((B2.cell (p := ⟨w.heap.size, j, none⟩) (by show w.heap.size < _; omega)).trans (cA.out j)), (t.frozen (p := ⟨w.heap.size, j, none⟩) la ne).trans ((B2.frozen (p := ⟨w.heap.size, j, none⟩) (by show w.heap.size < _; omega)).trans (fA.out j))⟩, (B1.step16 B2 B1.size).trans (t.below (by omega) (by omega))⟩
  have RW : Hid (∀ W, Turn w1.heap.size w2 W → Rd W (.slice a8 q5.length c8) q5) := by
    intro W t
    exact M8.below (AF.out W t).2
  have HM8 : Hid (Rd w (.slice a8 q5.length c8) q5) := M8
  have HA8 : Hid (∀ W, Rd W (.slice (some ⟨b, off, none⟩) p.length cp) p → Rd W (.slice a8 q5.length c8) q5) := A8
  clear A8
  have E8' : ∀ W, (Instr.slice 26 (.slice (some ⟨b, off, none⟩) p.length cp) (some (.int .i64 (8 + (N : Int)))) none none).run Try.prog W = .ok (.slice a8 q5.length c8) W := E8
  obtain ⟨kA, -⟩ := AF.out w4 gn4.tn
  obtain ⟨m0, f0⟩ := kA 0
  obtain ⟨m1, f1⟩ := kA 1
  obtain ⟨m2, f2⟩ := kA 2
  obtain ⟨m3, f3⟩ := kA 3
  simp at m0 m1 m2 m3
  have e2C : IntKind.i64.wrap (2 * (C : Int)) = 2 * (C : Int) := by rw [IntKind.wrap_i64]; omega
  clear kA g0 g0' g1 g2 g3 R1 R4 M8 R E8 h9 hb z0 z1' hK0 hL0 hq3 hq5 hC hN hy
  by_cases hL : (L0 : Int) > 2147483647
  · have N : Hid (¬ NxR p) := fun q => by
      have h := q.2.2.2.2.2.1
      rw [ER.out.1] at h
      exact absurd h (by show ¬ (L0 : Int) ≤ _; omega)
    exact nx_fail
  by_cases hl : (q5.length : Int) < 2 * (C : Int)
  · have N : Hid (¬ NxR p) := fun q => by have := EL.out.1 q.1; omega
    exact nx_fail
  have HLn : Hid (LnR p) := EL.out.2 (by omega)
  have hl2 : 2 * C ≤ q5.length := by omega
  have k2 := gn4.c2
  have fz2 := gn4.fz 2
  have gn5 := gn4.put2 (L0 : Int)
  have L5 : Hid (q5.length ≤ 100000) := by show _ ≤ _; rw [l5.out]; omega
  obtain ⟨w32, w32'⟩ := two_wrap (n := (L0 : Int)) (by omega) (by omega)
  clear m0 m1 m2 m3 f0 f1 f2 f3 gn4 EL
  go_wp2_with fail
  clear k2 fz2 w32 w32' E8'
  go_loopw [10] (fun i wr => ∃ (r : Nat) (v : Value), r ≤ C ∧ i = .int .i64 (r : Int) ∧ GotN w2 w1.heap.size wr (K0 : Int) y (L0 : Int) v (stN r q5)) (fun i _ => C - (intOf i).toNat)
  case atStart => exact ⟨0, _, Nat.zero_le _, rfl, gn5⟩
  case round =>
    clear gn5
    obtain ⟨r, v, hr, rfl, g⟩ := hrel
    obtain ⟨va, vc, ev⟩ := owns_form g.own
    subst ev
    have ls : (stN r q5).length = r := stN_length _ _
    by_cases hlt : r < C
    · have hlt' : (r : Int) < (C : Int) := by omega
      have gd := g.below (show Below wr.heap.size wr wr.drew from (Below.refl _ _).drew)
      have Rq := RW.out _ gd.tn
      obtain ⟨b9, o9, e9, hb9, c6⟩ := Rq.byte (i := 2 * r) (by omega)
      obtain ⟨b8, o8, e8, _, c7⟩ := Rq.byte (i := 2 * r + 1) (by omega)
      obtain ⟨bw, ow, ew, nW, _⟩ := HM8.out.byte (i := 2 * r) (by omega)
      rw [e9] at ew
      simp at ew
      obtain ⟨rfl, rfl⟩ := ew
      rw [e9] at e8
      simp at e8
      obtain ⟨rfl, rfl⟩ := e8
      subst e9
      have EU := un_at q5 r
      have EZ0 := stN_succ r q5
      rw [EU] at EZ0
      obtain ⟨s, hs⟩ : ∃ s, s = 2 * r := ⟨_, rfl⟩
      rw [← hs] at c6 c7 EZ0
      have x6 : (co q5 s).toNat < 256 := (co q5 s).toNat_lt
      have x7 : (co q5 (s + 1)).toNat < 256 := (co q5 (s + 1)).toNat_lt
      generalize (co q5 s).toNat = t6 at c6 EZ0 x6
      generalize (co q5 (s + 1)).toNat = t7 at c7 EZ0 x7
      obtain ⟨z, hz⟩ : ∃ z : Nat, z = 256 * t6 + t7 := ⟨_, rfl⟩
      rw [← hz] at EZ0
      have EZ : Hid (stN (r + 1) q5 = stN r q5 ++ [(z : Int)]) := EZ0
      have eC : 256 * (t6 : Int) + (t7 : Int) = (z : Int) := by rw [hz, Int.natCast_add, Int.natCast_mul]; rfl
      have ne9 : w1.heap.size ≠ b9 := by have := S1.out; omega
      have j0 : 2 * (r : Int) = (s : Int) := by omega
      have j1 : IntKind.i64.wrap (s : Int) = (s : Int) := by rw [IntKind.wrap_i64]; omega
      have j2 : IntKind.i64.wrap ((s : Int) + 1) = (s : Int) + 1 := by rw [IntKind.wrap_i64]; omega
      have j3 : IntKind.i64.wrap (256 * (t6 : Int)) = 256 * (t6 : Int) := by rw [IntKind.wrap_i64]; omega
      have j4 : IntKind.i64.wrap (z : Int) = (z : Int) := by rw [IntKind.wrap_i64]; omega
      have j5 : (s : Int) < (q5.length : Int) := by omega
      have j6 : (s : Int) + 1 < (q5.length : Int) := by omega
      have j9 : (0 : Int) ≤ (s : Int) + 1 := by omega
      have j7 : s < q5.length := by omega
      have j8 : s + 1 < q5.length := by omega
      obtain ⟨h6, h6'⟩ := two_wrap (n := (t6 : Int)) (by omega) (by omega)
      have h7a : (0 : Int) ≤ (t7 : Int) ∧ (t7 : Int) < 4294967296 := ⟨Int.natCast_nonneg _, Int.ofNat_lt.2 (Nat.lt_of_lt_of_le x7 (by decide))⟩
      obtain ⟨h7, h7'⟩ := two_wrap h7a.1 h7a.2
      rw [ls] at gd
      have SB : ∀ W {v'}, Gro wr.drew (.slice va r vc) W v' → W.cell? ⟨b9, o9 + s, none⟩ = some (.int .u8 (t6 : Int)) ∧ W.cell? ⟨b9, o9 + (s + 1), none⟩ = some (.int .u8 (t7 : Int)) := fun W v' G => by
        have nb : (Value.slice va r vc).ownBlock ≠ some b9 := fun e => by
          have a1 := (World.ownsRow.lt gd.own b9 e).1
          have a2 := S2.out
          have a3 := S1.out
          clear h6 h6' h7 h7'
          omega
        exact ⟨(G.cell (p := ⟨b9, o9 + s, none⟩) hb9 nb).trans c6, (G.cell (p := ⟨b9, o9 + (s + 1), none⟩) hb9 nb).trans c7⟩
      have k3 : wr.drew.cell? ⟨w1.heap.size, 3, none⟩ = some (.slice va r vc) := gd.c3
      have lG : w1.heap.size < wr.drew.heap.size := Nat.lt_of_lt_of_le gd.lg gd.tn.size
      have k4 : ∀ o, (wr.drew.alloc o).cell? ⟨w1.heap.size, 3, none⟩ = some (.slice va r vc) := fun o => (World.cell?_alloc_past _ _ _ lG).trans k3
      have k4' : ∀ o, (wr.alloc o).drew.cell? ⟨w1.heap.size, 3, none⟩ = some (.slice va r vc) := fun o => k4 o
      have SA : ∀ o, (wr.drew.alloc o).cell? ⟨b9, o9 + s, none⟩ = some (.int .u8 (t6 : Int)) ∧ (wr.drew.alloc o).cell? ⟨b9, o9 + (s + 1), none⟩ = some (.int .u8 (t7 : Int)) := fun o => SB _ (Gro.bel _ (belR _ _))
      clear Rq g EU hz EZ0 h7a hs
      go_wp2_with fail
      refine wp_region_held_drew (S := fun wx => wx.cell? ⟨b9, o9 + s, none⟩ = some (.int .u8 (t6 : Int)) ∧ wx.cell? ⟨b9, o9 + (s + 1), none⟩ = some (.int .u8 (t7 : Int))) (by kernel_rfl) ⟨c6, c7⟩ (fun hHeld => ?_)
      refine tkH 0 ?_
      refine tkH 2 ?_
      refine tkH 3 ?_
      refine tkH 4 ?_
      refine tkH 5 ?_
      refine tkH 6 ?_
      refine tkH 7 ?_
      refine tkH 8 ?_
      refine tkH 9 ?_
      refine tkH 10 ?_
      refine tkH 11 ?_
      refine tkH 12 ?_
      refine tkH 13 ?_
      refine tkH 14 ?_
      refine tkH 15 ?_
      refine tkH 16 ?_
      refine rmH 1 17 (fun K hK => ?_) fun K hK => ?_
      · go_simp
        refine koH hK hHeld fun hHeld => ?_
        clear hK K
        refine rnH 17 fun K hK => ?_
        go_simp
        refine koH hK (SA _) fun hHeld => ?_
        clear hK K
        exact nx_tail
      · go_simp
        refine koH hK (SA _) fun hHeld => ?_
        clear hK K
        refine rnH 1 fun K hK => ?_
        go_simp
        refine koH hK hHeld fun hHeld => ?_
        clear hK K
        exact nx_tail
    · obtain rfl : r = C := by omega
      have hge : ¬ (r : Int) < (r : Int) := by omega
      obtain ⟨k0, k1, k2, k3⟩ := And.intro g.c0 (And.intro g.c1 (And.intro g.c2 g.c3))
      have IN : RcV.In wr ⟨⟨(K0 : Int), y, (L0 : Int), stN r q5⟩, .slice va (stN r q5).length vc⟩ := ⟨wf64 (by show _ ≤ (K0 : Int); omega) (by show (K0 : Int) ≤ _; omega), wf64 (by show _ ≤ (L0 : Int); omega) (by show (L0 : Int) ≤ _; omega), by show y.length ≤ _; unfold maxLen; omega, g.own.rd (by rw [ls]; omega), stN_wf _ _⟩
      have LG : w1.heap.size < wr.heap.size := Nat.lt_of_lt_of_le g.lg g.tn.size
      have KC := rchk16_any IN rfl
      have FRr : Hid (∀ k, (Value.slice va (stN r q5).length vc).ownBlock = some k → w.heap.size < k ∧ k < wr.heap.size) := fun k hk => by
        have a1 := World.ownsRow.lt g.own k hk
        have a2 := S1.out
        have a3 := S2.out
        omega
      rw [ls] at k3 KC FRr IN
      go_wp2_with fail
      refine KC.mono ?_
      rintro _ w6 ⟨rfl, B6⟩
      clear KC
      have gn6 := g.below B6
      have Rq := RW.out _ gn6.tn
      obtain ⟨kA, BA⟩ := AF.out w6 gn6.tn
      obtain ⟨m0, f0⟩ := kA 0
      obtain ⟨m1, f1⟩ := kA 1
      obtain ⟨m2, f2⟩ := kA 2
      obtain ⟨m3, f3⟩ := kA 3
      simp at m0 m1 m2 m3
      obtain ⟨k0, k1, k2, k3⟩ := And.intro gn6.c0 (And.intro gn6.c1 (And.intro gn6.c2 gn6.c3))
      rw [ls] at k3
      have EE : ∀ W, (Instr.slice 26 (.slice a8 q5.length c8) (some (.int .i64 (2 * (r : Int)))) none none).run Try.prog W = _ := fun W => cut_lo16 W a8 (n := q5.length) (c := c8) (k := 2 * r) (by omega)
      have MM := fun (W : World) (q : Rd W (.slice (some ⟨b, off, none⟩) p.length cp) p) => (HA8.out W q).rest16 (k := 2 * r) (by omega)
      obtain ⟨aR, haR⟩ : ∃ aR, aR = (if c8 = 2 * r then a8 else a8.map (·.add (2 * r))) := ⟨_, rfl⟩
      rw [← haR] at MM
      simp only [← haR] at EE
      generalize q5.length - 2 * r = nR at MM EE
      generalize c8 - 2 * r = cR at MM EE
      have EE' : ∀ W, (Instr.slice 26 (.slice a8 q5.length c8) (some (.int .i64 (2 * (r : Int)))) none none).run Try.prog W = .ok (.slice aR nR cR) W := EE
      clear haR EE
      obtain ⟨W, hW⟩ : ∃ W, W = (((w6.setCell ⟨w.heap.size, 0, none⟩ (.int .i64 (K0 : Int))).setCell ⟨w.heap.size, 1, none⟩ (.string ⟨y.toArray⟩)).setCell ⟨w.heap.size, 2, none⟩ (.int .i64 (L0 : Int))).setCell ⟨w.heap.size, 3, none⟩ (.slice va r vc) := ⟨_, rfl⟩
      obtain ⟨OA, n0, n1, n2, n3⟩ := set4 (a := .int .i64 (K0 : Int)) (b := .string ⟨y.toArray⟩) (c := .int .i64 (L0 : Int)) (d := .slice va r vc) m0 m1 m2 m3
      rw [← hW] at OA n0 n1 n2 n3
      obtain ⟨X, hX⟩ : ∃ X : Bool, Hid (X = true ↔ NxR p) ∧ (chR ⟨(K0 : Int), y, (L0 : Int), stN r q5⟩ = 0 ↔ X = true) ∧ (X = false → chR ⟨(K0 : Int), y, (L0 : Int), stN r q5⟩ = 1) := by
        by_cases o : OkR ⟨(K0 : Int), y, (L0 : Int), stN r q5⟩
        · exact ⟨true, ⟨fun _ => ⟨HLn.out, by rw [ER.out.1]; exact o⟩, fun _ => rfl⟩, ⟨fun _ => rfl, fun _ => if_pos o⟩, fun q => by cases q⟩
        · exact ⟨false, ⟨fun q => (by cases q), fun q => absurd (by have := q.2; rwa [ER.out.1] at this) o⟩, ⟨fun q => (by rw [show chR ⟨(K0 : Int), y, (L0 : Int), stN r q5⟩ = 1 from if_neg o] at q; cases q), fun q => by cases q⟩, fun _ => if_neg o⟩
      have BW2 : Below w.heap.size w W := BA.trans (OA.below (Nat.le_refl _))
      have SF : ∀ wx, Only w.heap.size w6 wx → wx.cell? ⟨w1.heap.size, 0, none⟩ = some (.int .i64 (K0 : Int)) ∧ wx.cell? ⟨w1.heap.size, 1, none⟩ = some (.string ⟨y.toArray⟩) ∧ wx.cell? ⟨w1.heap.size, 2, none⟩ = some (.int .i64 (L0 : Int)) ∧ wx.cell? ⟨w1.heap.size, 3, none⟩ = some (.slice va r vc) := by
        have ne : w1.heap.size ≠ w.heap.size := by have := S1.out; omega
        exact fun wx o => ⟨(o.cell (p := ⟨w1.heap.size, 0, none⟩) ne).trans k0, (o.cell (p := ⟨w1.heap.size, 1, none⟩) ne).trans k1, (o.cell (p := ⟨w1.heap.size, 2, none⟩) ne).trans k2, (o.cell (p := ⟨w1.heap.size, 3, none⟩) ne).trans k3⟩
      have FIN : Hid (NextR16 w (.slice (some ⟨b, off, none⟩) p.length cp) p (.returned (.tuple #[.agg #[.int .i64 (K0 : Int), .string ⟨y.toArray⟩, .int .i64 (L0 : Int), .slice va r vc], .slice aR nR cR, .bool X])) W.drew) := by
        have OW : OwnZ W w2.heap.size 3 (.slice va (stN r q5).length vc) (stN r q5) := gn6.own.only OA (by have := S1.out; have := S2.out; omega)
        cases X with
        | true =>
          refine Or.inl ⟨hX.1.out.1 rfl, ⟨⟨(K0 : Int), y, (L0 : Int), stN r q5⟩, .slice va r vc⟩, aR, nR, cR, rfl, ER.out.1.symm, ⟨IN.wk, IN.wl, IN.ky, ?_, IN.wi⟩, ?_, ?_, BW2.drew⟩
          · have h := OW.rd (by rw [ls]; omega)
            rw [ls] at h
            exact h.below (Below.refl _ _).drew
          · intro k hk
            have a1 := FRr.out k hk
            have a2 := B6.size
            show _ ∧ k < W.heap.size
            rw [OA.size]
            omega
          · rw [ER.out.2]; exact MM
        | false => exact Or.inr ⟨fun q => (by have := hX.1.out.2 q; cases this), _, _, _, _, _, _, _, _, _, rfl, BW2.drew⟩
      have HXX : (chR ⟨(K0 : Int), y, (L0 : Int), stN r q5⟩ == 0) = X := by
        cases X with
        | true => rw [hX.2.1.2 rfl]; rfl
        | false => rw [hX.2.2 rfl]; rfl
      have SW2 : W.drew.cell? ⟨w1.heap.size, 0, none⟩ = some (.int .i64 (K0 : Int)) ∧ W.drew.cell? ⟨w1.heap.size, 1, none⟩ = some (.string ⟨y.toArray⟩) ∧ W.drew.cell? ⟨w1.heap.size, 2, none⟩ = some (.int .i64 (L0 : Int)) ∧ W.drew.cell? ⟨w1.heap.size, 3, none⟩ = some (.slice va r vc) := SF W OA
      have d0 : W.drew.cell? ⟨w.heap.size, 0, none⟩ = some (.int .i64 (K0 : Int)) := n0
      have d1 : W.drew.cell? ⟨w.heap.size, 1, none⟩ = some (.string ⟨y.toArray⟩) := n1
      have d2 : W.drew.cell? ⟨w.heap.size, 2, none⟩ = some (.int .i64 (L0 : Int)) := n2
      have d3 : W.drew.cell? ⟨w.heap.size, 3, none⟩ = some (.slice va r vc) := n3
      generalize chR ⟨(K0 : Int), y, (L0 : Int), stN r q5⟩ = x0 at HXX
      clear hX IN OA BW2 BA Rq MM gn6 g ER RW AF
      go_wp2_with fail
      refine wp_region_held_drew (S := fun wx => wx.cell? ⟨w1.heap.size, 0, none⟩ = some (.int .i64 (K0 : Int)) ∧ wx.cell? ⟨w1.heap.size, 1, none⟩ = some (.string ⟨y.toArray⟩) ∧ wx.cell? ⟨w1.heap.size, 2, none⟩ = some (.int .i64 (L0 : Int)) ∧ wx.cell? ⟨w1.heap.size, 3, none⟩ = some (.slice va r vc)) (by kernel_rfl) ⟨k0, k1, k2, k3⟩ (fun hHeld => ?_)
      refine tkH 0 ?_
      refine tkH 1 ?_
      refine tkH 2 ?_
      refine tkH 3 ?_
      refine tkH 4 ?_
      refine tkH 5 ?_
      refine tkH 6 ?_
      refine rnH 7 fun K hK => ?_
      go_simp
      rw [← hW]
      refine koH hK SW2 fun hHeld => ?_
      clear hK K
      refine tkH 8 ?_
      refine tkH 9 ?_
      refine wpAnyH_done (by kernel_rfl) ?_ _
      clear hW
      go_wp2
      exact bodyPost_ret (v := .tuple #[.agg #[.int .i64 (K0 : Int), .string ⟨y.toArray⟩, .int .i64 (L0 : Int), .slice va r vc], .slice aR nR cR, .bool X]) (by simp [results, Try.results32, go_sem, d0, d1, d2, d3]) rfl FIN.out
end Go.Proofs.Ythmoiffkgcnjmaa.Gf
