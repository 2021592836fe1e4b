/- TEXTS JOINED: StCB, GfMul, GfQuiet, GfPow, CaCA, MxNf, CaCB, CaCP, BkCA, BkCB. -/
import Derived.Test.YtddnfhfangfgeaaGreatTome7
import Derived.Test.YtddnfhfangfgeaaGreatTome11
import Derived.Test.YtddnfhfangfgeaaGreatTome2
import Derived.Test.YtddnfhfangfgeaaGreatTome1
import Derived.Test.YtddnfhfangfgeaaGreatTome4
import Derived.Test.YtddnfhfangfgeaaGreatTome3
import Derived.Shelf.Abstract
import Derived.Laws.EntriesVeiled
import Derived.Deep.RegionWith
namespace Go.Proofs.YtddnfhfangfgeaaGreat.Gf
set_option linter.unusedVariables false
set_option linter.unusedSimpArgs false
open Go.RowKit
set_option maxRecDepth 100000 in
set_option maxHeartbeats 1000000 in
theorem pupto_any {w : World} {n : Nat} (hn : n ≤ 1000) : Calls Tryz.prog 54 #[.int .i64 (n : Int)] w (MadeRow w 3 n (fun i => .int .i64 (i : Int))) := by
  have mk1 := run_make_row' (P := Tryz.prog) 45 3 (.int .i64 0) 8 Tryz.underlying45 info_int13 rfl .i64 .i64 n (by omega) (by omega)
  obtain ⟨u, hu⟩ : ∃ u, u = w.alloc (Obj.cells (madeCells #[Value.int .i64 0] n) 3) := ⟨_, rfl⟩
  have hub : Below w.heap.size w u := by rw [hu]; exact belA _ _
  have hur : u.rowIs w.heap.size 3 n (fun _ => .int .i64 0) := by rw [hu]; exact World.rowIs_made _ _ _ _
  have mk2 := mk1 w
  obtain ⟨g, hg⟩ : ∃ g, Hid (g = w.heap.size) := ⟨_, rfl⟩
  rw [← hu, ← hg.out] at mk2
  rw [← hg.out] at hur
  clear mk1 hu
  go_enter Tryz.func54, Tryz.ntmps54
  go_wp2
  have START : Hid (u.rowIs g 3 n (fun j => if j < 0 then .int .i64 (j : Int) else .int .i64 0) ∧ Below w.heap.size w u) := ⟨hur, hub⟩
  clear mk2 hub hur
  go_loopw [9] (fun i wr => ∃ k : Nat, k ≤ n ∧ i = .int .i64 (k : Int) ∧ wr.rowIs g 3 n (fun j => if j < k then .int .i64 (j : Int) else .int .i64 0) ∧ Below w.heap.size w wr) (fun i _ => n - (intOf i).toNat)
  case atStart => exact ⟨0, Nat.zero_le _, rfl, START.out⟩
  case round =>
    clear START
    obtain ⟨k, hk, rfl, hr, hb⟩ := hrel
    by_cases hlt : k < n
    · have hlt' : (k : Int) < (n : Int) := by omega
      have g1 : IntKind.i64.wrap ((k : Int) + 1) = ((k + 1 : Nat) : Int) := by rw [IntKind.wrap_i64]; omega
      have cq := hr.cell hlt
      have fq := hr.frozen k
      have E2 : Hid ((wr.setCell ⟨g, k, none⟩ (.int .i64 (k : Int))).rowIs g 3 n (fun j => if j < k + 1 then .int .i64 (j : Int) else .int .i64 0) ∧ Below w.heap.size w (wr.setCell ⟨g, k, none⟩ (.int .i64 (k : Int)))) := by
        refine ⟨(hr.set k (.int .i64 (k : Int))).congr fun j hj => ?_, hb.setCell (by rw [hg.out]; exact Nat.le_refl _) _⟩
        by_cases e : j = k
        · rw [if_pos e, if_pos (by omega), e]
        · rw [if_neg e]
          by_cases e2 : j < k
          · rw [if_pos e2, if_pos (by omega)]
          · rw [if_neg e2, if_neg (by omega)]
      clear hr hb
      go_wp2
      go_roundw
      case rel => exact ⟨k + 1, by omega, by go_num, E2.out⟩
      case measure => simp [intOf]; omega
    · have hlt' : ¬ (k : Int) < (n : Int) := by omega
      have hkn : Hid (k = n) := by show k = n; omega
      have FIN : Hid (wr.rowIs g 3 n (fun j => .int .i64 (j : Int)) ∧ w.heap.size ≤ g ∧ Below w.heap.size w wr) := ⟨hr.congr fun j hj => if_pos (by have := hkn.out; omega), by rw [hg.out]; exact Nat.le_refl _, hb⟩
      clear hr hb
      go_wp2
      go_ret
      exact ⟨g, rfl, FIN.out⟩
/-- a shard, and whether it is there -/
def MakesP15 (w : World) (L : List UInt8) (b : Bool) (e : Ending) (w' : World) : Prop := ∃ v, e = .returned (.tuple #[v, .bool b]) ∧ Rd w' v L ∧ FarV w v ∧ Below w.heap.size w w'
section
variable {w : World} {pa pf : Option Addr} {g : GeoS} {st ep : Int}
set_option maxRecDepth 100000 in
set_option maxHeartbeats 2000000 in
theorem punpack_any (hg : g.Wf) (hst : (Lit.int .i64 st).wf = true) {v : Value} {p : List UInt8} (hp : Rd w v p) (hl : p.length ≤ 100000) {F : Bool} {L : List UInt8}
    (hF : decide (upX (stG g st) p = 0 ∧ ((upN (stG g st) p : Nat) : Int) = ep ∧ (((upD (stG g st) p).length : Nat) : Int) = g.z) = F) (hL : (if F = true then upD (stG g st) p else []) = L) :
    Calls Tryz.prog 132 #[aggP pa pf g st ep, v] w (MakesP15 w L F) := by
  obtain ⟨at_, t0⟩ : ∃ x, Hid (x = stG g st) := ⟨_, rfl⟩
  rw [← t0.out] at hF hL
  have KP := fun W => @pplace_any W pa pf g st ep hg hst _ t0.out.symm
  have KU := fun W (hr : Rd W v p) => sunpack_far (a := at_) hr hl
  obtain ⟨X, hX⟩ : ∃ X, Hid (X = upX at_ p) := ⟨_, rfl⟩
  obtain ⟨N, hN⟩ : ∃ N, Hid (N = upN at_ p) := ⟨_, rfl⟩
  obtain ⟨D, hD⟩ : ∃ D, Hid (D = upD at_ p) := ⟨_, rfl⟩
  rw [← hX.out, ← hN.out, ← hD.out] at hF KU
  rw [← hD.out] at hL
  clear t0 hX hN hD
  obtain ⟨k, m, z, s, t, o⟩ := g
  simp only at hF
  have LA := spot_laid w pa pf ⟨k, m, z, s, t, o⟩ st ep 103
  unfold aggP at KP ⊢
  simp only [cellsP] at KP LA ⊢
  have F0 := (LA _ (Below.refl _ _)).2
  obtain ⟨x0, x1, x2, x3, x4, x5, x6, x7, x8, x9⟩ := (LA _ (Below.refl _ _)).1.all
  simp only at x0 x1 x2 x3 x4 x5 x6 x7 x8 x9
  obtain ⟨va, vc, rfl⟩ := hp.form
  by_cases h1 : X = 0
  rotate_left
  · rw [decide_eq_false (fun q => h1 q.1)] at hF
    subst hF
    rw [if_neg (by decide)] at hL
    subst hL
    go_enter Tryz.func132, Tryz.ntmps132
    go_wp2_with fail
    refine (KP _).mono ?_
    rintro _ w1 ⟨rfl, B1⟩
    obtain ⟨S1, F1⟩ := LA _ B1
    clear x0 x1 x2 x3 x4 x5 x6 x7 x8 x9
    obtain ⟨x0, x1, x2, x3, x4, x5, x6, x7, x8, x9⟩ := S1.all
    simp only at x0 x1 x2 x3 x4 x5 x6 x7 x8 x9
    go_wp2_with fail
    refine (KU _ (hp.below F1)).mono ?_
    rintro _ w2 ⟨vd, rfl, R2, V2, B2⟩
    have FB : Hid (Below w.heap.size w w2) := F1.stepL B2 F1.size
    obtain ⟨da, dc, rfl⟩ := R2.form
    clear x0 x1 x2 x3 x4 x5 x6 x7 x8 x9 S1 F1 B1 B2 R2 V2 LA KP KU F0
    go_wp2
    refine bodyPost_ret (v := .tuple #[.slice none 0 0, .bool false]) (by simp [results, Tryz.results132, go_sem]) rfl ?_
    exact ⟨_, rfl, rd_nil0, FarV.nil _ _ _, FB.out⟩
  subst h1
  by_cases h2 : (N : Int) = ep
  rotate_left
  · rw [decide_eq_false (fun q => h2 q.2.1)] at hF
    subst hF
    rw [if_neg (by decide)] at hL
    subst hL
    have h2' : ((N : Int) != ep) = true := by simp [h2]
    go_enter Tryz.func132, Tryz.ntmps132
    go_wp2_with fail
    refine (KP _).mono ?_
    rintro _ w1 ⟨rfl, B1⟩
    obtain ⟨S1, F1⟩ := LA _ B1
    clear x0 x1 x2 x3 x4 x5 x6 x7 x8 x9
    obtain ⟨x0, x1, x2, x3, x4, x5, x6, x7, x8, x9⟩ := S1.all
    simp only at x0 x1 x2 x3 x4 x5 x6 x7 x8 x9
    go_wp2_with fail
    refine (KU _ (hp.below F1)).mono ?_
    rintro _ w2 ⟨vd, rfl, R2, V2, B2⟩
    have FB : Hid (Below w.heap.size w w2) := F1.stepL B2 F1.size
    obtain ⟨da, dc, rfl⟩ := R2.form
    have S2 := (LA _ (B1.stepL B2 B1.size)).1
    clear x0 x1 x2 x3 x4 x5 x6 x7 x8 x9 S1 F1 B1 B2 R2 V2 LA KP KU F0
    obtain ⟨x0, x1, x2, x3, x4, x5, x6, x7, x8, x9⟩ := S2.all
    simp only at x0 x1 x2 x3 x4 x5 x6 x7 x8 x9
    go_wp2
    refine bodyPost_ret (v := .tuple #[.slice none 0 0, .bool false]) (by simp [results, Tryz.results132, go_sem]) rfl ?_
    exact ⟨_, rfl, rd_nil0, FarV.nil _ _ _, FB.out⟩
  subst h2
  by_cases h3 : (D.length : Int) = z
  rotate_left
  · rw [decide_eq_false (fun q => h3 q.2.2)] at hF
    subst hF
    rw [if_neg (by decide)] at hL
    subst hL
    have h3' : ((D.length : Int) != z) = true := by simp [h3]
    go_enter Tryz.func132, Tryz.ntmps132
    go_wp2_with fail
    refine (KP _).mono ?_
    rintro _ w1 ⟨rfl, B1⟩
    obtain ⟨S1, F1⟩ := LA _ B1
    clear x0 x1 x2 x3 x4 x5 x6 x7 x8 x9
    obtain ⟨x0, x1, x2, x3, x4, x5, x6, x7, x8, x9⟩ := S1.all
    simp only at x0 x1 x2 x3 x4 x5 x6 x7 x8 x9
    go_wp2_with fail
    refine (KU _ (hp.below F1)).mono ?_
    rintro _ w2 ⟨vd, rfl, R2, V2, B2⟩
    have FB : Hid (Below w.heap.size w w2) := F1.stepL B2 F1.size
    obtain ⟨da, dc, rfl⟩ := R2.form
    have S2 := (LA _ (B1.stepL B2 B1.size)).1
    clear x0 x1 x2 x3 x4 x5 x6 x7 x8 x9 S1 F1 B1 B2 R2 V2 LA KP KU F0
    obtain ⟨x0, x1, x2, x3, x4, x5, x6, x7, x8, x9⟩ := S2.all
    simp only at x0 x1 x2 x3 x4 x5 x6 x7 x8 x9
    go_wp2
    refine bodyPost_ret (v := .tuple #[.slice none 0 0, .bool false]) (by simp [results, Tryz.results132, go_sem]) rfl ?_
    exact ⟨_, rfl, rd_nil0, FarV.nil _ _ _, FB.out⟩
  rw [decide_eq_true ⟨rfl, rfl, h3⟩] at hF
  subst hF
  rw [if_pos rfl] at hL
  subst hL
  have h3' : ((D.length : Int) != z) = false := by simp [h3]
  subst h3
  go_enter Tryz.func132, Tryz.ntmps132
  go_wp2_with fail
  refine (KP _).mono ?_
  rintro _ w1 ⟨rfl, B1⟩
  obtain ⟨S1, F1⟩ := LA _ B1
  clear x0 x1 x2 x3 x4 x5 x6 x7 x8 x9
  obtain ⟨x0, x1, x2, x3, x4, x5, x6, x7, x8, x9⟩ := S1.all
  simp only at x0 x1 x2 x3 x4 x5 x6 x7 x8 x9
  go_wp2_with fail
  refine (KU _ (hp.below F1)).mono ?_
  rintro _ w2 ⟨vd, rfl, R2, V2, B2⟩
  have FB : Hid (Below w.heap.size w w2) := F1.stepL B2 F1.size
  have FV : Hid (FarV w vd) := fun x n c e => (V2 x n c e).imp id fun q => Nat.le_trans F1.size q
  obtain ⟨da, dc, rfl⟩ := R2.form
  have HR : Hid _ := R2
  have S2 := (LA _ (B1.stepL B2 B1.size)).1
  clear x0 x1 x2 x3 x4 x5 x6 x7 x8 x9 S1 F1 B1 B2 R2 V2 LA KP KU F0
  obtain ⟨x0, x1, x2, x3, x4, x5, x6, x7, x8, x9⟩ := S2.all
  simp only at x0 x1 x2 x3 x4 x5 x6 x7 x8 x9
  go_wp2
  refine bodyPost_ret (v := .tuple #[.slice da D.length dc, .bool true]) (by simp [results, Tryz.results132, go_sem]) rfl ?_
  exact ⟨_, rfl, HR.out, FV.out, FB.out⟩
end
end Go.Proofs.YtddnfhfangfgeaaGreat.Gf

namespace Go.Proofs.YtddnfhfangfgeaaGreat.Gf
set_option linter.unusedVariables false
open Go.RowKit
set_option maxRecDepth 100000 in
theorem filled_any (b : Nat) (w : World) (hF : FieldAt w b) :
    Calls Tryz.prog 216 #[.pointer (some ⟨b, 0, none⟩)] w fun e w' => e = .returned (.pointer (some ⟨b, 0, none⟩)) ∧ w' = w := by
  have h0 : w.cell? ⟨b, 0, none⟩ = some (.int .u8 1) := by rw [hF.powers 0 (by omega), pw_zero]; rfl
  go_enter Tryz.func216, Tryz.ntmps216
  go_wp2
  go_ret
  exact ⟨rfl, rfl⟩
set_option maxRecDepth 100000 in
theorem mul_zero_l (b c : Nat) (w : World) :
    Calls Tryz.prog 188 #[.pointer (some ⟨b, 0, none⟩), .int .u8 0, .int .u8 c] w fun e w' => e = .returned (.int .u8 0) ∧ w' = w := by
  go_enter Tryz.func188, Tryz.ntmps188
  go_wp2
  go_ret
  exact ⟨rfl, rfl⟩
set_option maxRecDepth 100000 in
theorem mul_zero_r (b a : Nat) (w : World) (ha : a ≠ 0) :
    Calls Tryz.prog 188 #[.pointer (some ⟨b, 0, none⟩), .int .u8 a, .int .u8 0] w fun e w' => e = .returned (.int .u8 0) ∧ w' = w := by
  go_enter Tryz.func188, Tryz.ntmps188
  go_wp2
  go_ret
  exact ⟨rfl, rfl⟩
set_option maxRecDepth 100000 in
set_option maxHeartbeats 1000000 in
theorem mul_main (b a c : Nat) (w : World) (hF : FieldAt w b) (ha0 : a ≠ 0) (hc0 : c ≠ 0) (ha : a < 256) (hc : c < 256) :
    Calls Tryz.prog 188 #[.pointer (some ⟨b, 0, none⟩), .int .u8 a, .int .u8 c] w fun e w' => e = .returned (.int .u8 (pw ((lg a + lg c) % 255) : Nat)) ∧ ∃ n, w' = w.drewN n := by
  have ka : ((a : Int) == 0) = false := by simpa using ha0
  have kc : ((c : Int) == 0) = false := by simpa using hc0
  have h1 := hF.places a ha
  have h2 := hF.places c hc
  have l1 := lg_lt ha
  have l2 := lg_lt hc
  have h3 := hF.powers ((lg a + lg c) % 255) (Nat.mod_lt _ (by decide))
  go_enter Tryz.func188, Tryz.ntmps188
  go_wp2_with (go_at_call 216; go_must (refine (filled_any b _ hF).mono ?_); rintro e w' ⟨rfl, rfl⟩)
  go_quiet (fail)
  go_wp2
  go_ret
  exact ⟨rfl, _, rfl⟩
theorem mul_any (b a c : Nat) (w : World) (hF : FieldAt w b) (ha : a < 256) (hc : c < 256) :
    Calls Tryz.prog 188 #[.pointer (some ⟨b, 0, none⟩), .int .u8 a, .int .u8 c] w fun e w' => e = .returned (.int .u8 (mulS a c : Nat)) ∧ ∃ n, w' = w.drewN n := by
  by_cases ha0 : a = 0
  · subst ha0
    exact (mul_zero_l b c w).mono fun e w' ⟨he, hw⟩ => ⟨by rw [he]; simp [mulS], 0, hw⟩
  · by_cases hc0 : c = 0
    · subst hc0
      exact (mul_zero_r b a w ha0).mono fun e w' ⟨he, hw⟩ => ⟨by rw [he]; simp [mulS], 0, hw⟩
    · exact (mul_main b a c w hF ha0 hc0 ha hc).mono fun e w' ⟨he, hw⟩ => ⟨by rw [he]; simp [mulS, ha0, hc0], hw⟩
theorem FieldAt.drewN {w : World} {b : Nat} (h : FieldAt w b) (n : Nat) : FieldAt (w.drewN n) b := h.own ((Own.refl w).drewN n)
theorem mul_at {b : Nat} {x y : Int} {w : World} (hF : FieldAt w b) (a c : Nat) (hx : x = a) (hy : y = c) (ha : a < 256) (hc : c < 256) :
    Calls Tryz.prog 188 #[.pointer (some ⟨b, 0, none⟩), .int .u8 x, .int .u8 y] w fun e w' => e = .returned (.int .u8 (mulS a c : Nat)) ∧ ∃ n, w' = w.drewN n := by
  subst hx hy; exact mul_any b a c w hF ha hc
end Go.Proofs.YtddnfhfangfgeaaGreat.Gf

namespace Go.Proofs.YtddnfhfangfgeaaGreat.Gf
set_option linter.unusedVariables false
set_option linter.unusedSimpArgs false
open Go.RowKit
theorem fmu_quiet {b : Nat} {w : World} (hF : FieldAt w b) (a c : UInt8) {x y : Int} (hx : x = ((a.toNat : Nat) : Int)) (hy : y = ((c.toNat : Nat) : Int)) :
    Calls Tryz.prog 188 #[.pointer (some ⟨b, 0, none⟩), .int .u8 x, .int .u8 y] w fun e w' => e = .returned (.int .u8 ((mu a c).toNat : Nat)) ∧ ∃ n, w' = w.drewN n := by
  rw [mu_toNat]
  exact mul_at hF a.toNat c.toNat hx hy (u8_lt a) (u8_lt c)
end Go.Proofs.YtddnfhfangfgeaaGreat.Gf

namespace Go.Proofs.YtddnfhfangfgeaaGreat.Gf
set_option linter.unusedVariables false
open Go.RowKit
set_option maxRecDepth 100000 in
theorem turns_any (n : Int) (w : World) (h1 : -9223372036854775808 ≤ n) (h2 : n ≤ 9223372036854775807) :
    Calls Tryz.prog 237 #[.int .i64 n] w fun e w' => e = .returned (.int .i64 (tn n : Nat)) ∧ w' = w := by
  have hb : -255 < n.tmod 255 ∧ n.tmod 255 < 255 := ⟨Int.lt_tmod_of_pos n (by omega), Int.tmod_lt_of_pos n (by omega)⟩
  have hq := Int.mul_tdiv_add_tmod n 255
  have E : Hid ((n.tmod 255 + 255) % 255 = (tn n : Nat)) := by rw [tn_cast]; show _ = _; omega
  clear hq
  obtain ⟨b1, b2⟩ := hb
  go_enter Tryz.func237, Tryz.ntmps237
  go_wp2
  go_ret
  exact ⟨ret_int E.out, rfl⟩
set_option maxRecDepth 100000 in
set_option maxHeartbeats 1000000 in
theorem pow_main (b a : Nat) (n : Int) (w : World) (hF : FieldAt w b) (ha0 : a ≠ 0) (hn0 : n ≠ 0) (ha : a < 256) (h1 : -9223372036854775808 ≤ n) (h2 : n ≤ 9223372036854775807) :
    Calls Tryz.prog 217 #[.pointer (some ⟨b, 0, none⟩), .int .u8 a, .int .i64 n] w fun e w' => e = .returned (.tuple #[.int .u8 (pw ((lg a * tn n) % 255) : Nat), .int .i64 0]) ∧ ∃ n, w' = w.drewN n := by
  have ka : ((a : Int) == 0) = false := by simpa using ha0
  have kn : (n == 0) = false := by simpa using hn0
  have p1 := hF.places a ha
  have l1 := lg_lt ha
  have l2 := tn_lt n
  have l3 : (lg a : Int) * (tn n : Int) ≤ 64516 := by
    have : lg a * tn n ≤ 254 * 254 := Nat.mul_le_mul (by omega) (by omega)
    have e : ((lg a * tn n : Nat) : Int) = (lg a : Int) * (tn n : Int) := by simp
    omega
  have l4 : 0 ≤ (lg a : Int) * (tn n : Int) := Int.mul_nonneg (by omega) (by omega)
  have p3 := hF.powers ((lg a * tn n) % 255) (Nat.mod_lt _ (by decide))
  go_enter Tryz.func217, Tryz.ntmps217
  go_wp2_with (go_at_call 216; go_must (refine (filled_any b _ hF).mono ?_); rintro e w' ⟨rfl, rfl⟩)
  go_quiet ((go_at_call 237; exact Calls.quiet_of_same (turns_any n _ h1 h2)))
  go_wp2
  go_ret2
  exact ⟨rfl, _, rfl⟩
set_option maxRecDepth 100000 in
theorem pow_nought (b a : Nat) (w : World) :
    Calls Tryz.prog 217 #[.pointer (some ⟨b, 0, none⟩), .int .u8 a, .int .i64 0] w fun e w' => e = .returned (.tuple #[.int .u8 1, .int .i64 0]) ∧ w' = w := by
  go_enter Tryz.func217, Tryz.ntmps217
  go_wp2
  go_ret2
  exact ⟨rfl, rfl⟩
set_option maxRecDepth 100000 in
theorem pow_zero_neg (b : Nat) (n : Int) (w : World) (hn : n < 0) :
    Calls Tryz.prog 217 #[.pointer (some ⟨b, 0, none⟩), .int .u8 0, .int .i64 n] w fun e w' => e = .returned (.tuple #[.int .u8 0, .int .i64 10]) ∧ w' = w := by
  have kn : (n == 0) = false := by simp; omega
  go_enter Tryz.func217, Tryz.ntmps217
  go_wp2
  go_ret2
  exact ⟨rfl, rfl⟩
set_option maxRecDepth 100000 in
theorem pow_zero_pos (b : Nat) (n : Int) (w : World) (hn : 0 < n) :
    Calls Tryz.prog 217 #[.pointer (some ⟨b, 0, none⟩), .int .u8 0, .int .i64 n] w fun e w' => e = .returned (.tuple #[.int .u8 0, .int .i64 0]) ∧ w' = w := by
  have kn : (n == 0) = false := by simp; omega
  go_enter Tryz.func217, Tryz.ntmps217
  go_wp2
  go_ret2
  exact ⟨rfl, rfl⟩
theorem pow_any (b a : Nat) (n : Int) (w : World) (hF : FieldAt w b) (ha : a < 256) (h1 : -9223372036854775808 ≤ n) (h2 : n ≤ 9223372036854775807) :
    Calls Tryz.prog 217 #[.pointer (some ⟨b, 0, none⟩), .int .u8 a, .int .i64 n] w fun e w' => e = .returned (.tuple #[.int .u8 (powV a n : Nat), .int .i64 (powE a n : Nat)]) ∧ ∃ n, w' = w.drewN n := by
  by_cases hn0 : n = 0
  · subst hn0
    exact (pow_nought b a w).mono fun e w' ⟨he, hw⟩ => ⟨by rw [he]; simp [powV, powE], 0, hw⟩
  · by_cases ha0 : a = 0
    · subst ha0
      by_cases hneg : n < 0
      · exact (pow_zero_neg b n w hneg).mono fun e w' ⟨he, hw⟩ => ⟨by rw [he]; simp [powV, powE, hn0, hneg], 0, hw⟩
      · exact (pow_zero_pos b n w (by omega)).mono fun e w' ⟨he, hw⟩ => ⟨by rw [he]; simp [powV, powE, hn0, hneg], 0, hw⟩
    · exact (pow_main b a n w hF ha0 hn0 ha h1 h2).mono fun e w' ⟨he, hw⟩ => ⟨by rw [he]; simp [powV, powE, hn0, ha0], hw⟩
set_option maxRecDepth 100000 in
theorem inv_any (b a : Nat) (w : World) (hF : FieldAt w b) (ha : a < 256) :
    Calls Tryz.prog 192 #[.pointer (some ⟨b, 0, none⟩), .int .u8 a] w fun e w' => e = .returned (.tuple #[.int .u8 (powV a (-1) : Nat), .int .i64 (powE a (-1) : Nat)]) ∧ ∃ n, w' = w.drewN n := by
  go_enter Tryz.func192, Tryz.ntmps192
  go_wp2_with (go_at_call 217; go_must (refine (pow_any b a (-1) _ hF ha (by omega) (by omega)).mono ?_); rintro e w' ⟨rfl, nd, rfl⟩)
  go_ret2
  exact ⟨rfl, _, rfl⟩
theorem inv_at {b : Nat} {x : Int} {w : World} (hF : FieldAt w b) (a : Nat) (hx : x = a) (ha : a < 256) :
    Calls Tryz.prog 192 #[.pointer (some ⟨b, 0, none⟩), .int .u8 x] w fun e w' => e = .returned (.tuple #[.int .u8 (powV a (-1) : Nat), .int .i64 (powE a (-1) : Nat)]) ∧ ∃ n, w' = w.drewN n := by
  subst hx; exact inv_any b a w hF ha
theorem inv_all {b : Nat} {x : Int} {w : World} (hF : FieldAt w b) (a : Nat) (hx : x = a) (ha : a < 256) :
    Calls Tryz.prog 192 #[.pointer (some ⟨b, 0, none⟩), .int .u8 x] w fun e w' => e = .returned (.tuple #[.int .u8 (invS a : Nat), .int .i64 (zE a : Nat)]) ∧ ∃ n, w' = w.drewN n := by
  rw [← powV_m1, ← powE_m1]
  exact inv_at hF a hx ha
end Go.Proofs.YtddnfhfangfgeaaGreat.Gf

namespace Go.Proofs.YtddnfhfangfgeaaGreat.Gf
set_option linter.unusedVariables false
set_option linter.unusedSimpArgs false
open Go.RowKit
set_option maxRecDepth 100000 in
set_option maxHeartbeats 1000000 in
theorem ccheck_same_ok {k m : Int} (w : World) (h : OkC k m) : Calls Tryz.prog 45 #[.int .i64 k, .int .i64 m] w fun e w' => e = .returned (.int .i64 0) ∧ w' = w := by
  obtain ⟨h1, h2, h3⟩ := h
  have k1 : decide (k < 1) = false := decide_eq_false (by omega)
  have k2 : decide (k > 256) = false := decide_eq_false (by omega)
  have k3 : decide (m < 0) = false := decide_eq_false (by omega)
  have k4 : decide (m > 256) = false := decide_eq_false (by omega)
  have k5 : decide (k + m > 256) = false := decide_eq_false (by omega)
  have gw : IntKind.i64.wrap (k + m) = k + m := by rw [IntKind.wrap_i64]; omega
  go_enter Tryz.func45, Tryz.ntmps45
  go_wp2
  go_ret
  exact ⟨rfl, rfl⟩
set_option maxRecDepth 100000 in
set_option maxHeartbeats 1000000 in
theorem ccheck_same_bad {k m : Int} (w : World) (h : ¬ OkC k m) : Calls Tryz.prog 45 #[.int .i64 k, .int .i64 m] w fun e w' => e = .returned (.int .i64 50) ∧ w' = w := by
  by_cases h1 : k < 1
  · have k1 : decide (k < 1) = true := decide_eq_true h1
    clear h h1
    go_enter Tryz.func45, Tryz.ntmps45
    go_wp2
    go_ret
    exact ⟨rfl, rfl⟩
  have k1 : decide (k < 1) = false := decide_eq_false h1
  by_cases h2 : k > 256
  · have k2 : decide (k > 256) = true := decide_eq_true h2
    clear h h1 h2
    go_enter Tryz.func45, Tryz.ntmps45
    go_wp2
    go_ret
    exact ⟨rfl, rfl⟩
  have k2 : decide (k > 256) = false := decide_eq_false h2
  by_cases h3 : m < 0
  · have k3 : decide (m < 0) = true := decide_eq_true h3
    clear h h1 h2 h3
    go_enter Tryz.func45, Tryz.ntmps45
    go_wp2
    go_ret
    exact ⟨rfl, rfl⟩
  have k3 : decide (m < 0) = false := decide_eq_false h3
  by_cases h4 : m > 256
  · have k4 : decide (m > 256) = true := decide_eq_true h4
    clear h h1 h2 h3 h4
    go_enter Tryz.func45, Tryz.ntmps45
    go_wp2
    go_ret
    exact ⟨rfl, rfl⟩
  have k4 : decide (m > 256) = false := decide_eq_false h4
  have k5 : decide (k + m > 256) = true := decide_eq_true (by
    by_cases h5 : k + m ≤ 256
    · exact absurd ⟨by omega, by omega, h5⟩ h
    · omega)
  have gw : IntKind.i64.wrap (k + m) = k + m := by rw [IntKind.wrap_i64]; omega
  clear h h1 h2 h3 h4
  go_enter Tryz.func45, Tryz.ntmps45
  go_wp2
  go_ret
  exact ⟨rfl, rfl⟩
set_option maxRecDepth 100000 in
set_option maxHeartbeats 1000000 in
theorem ccf_ok {k m : Int} {b : Nat} (w : World) (h : OkC k m) : Calls Tryz.prog 184 #[.pointer (some ⟨b, 0, none⟩), .int .i64 k, .int .i64 m] w fun e w' => e = .returned (.int .i64 0) ∧ w' = w := by
  go_enter Tryz.func184, Tryz.ntmps184
  go_wp2_with fail
  refine (ccheck_same_ok _ h).mono ?_
  rintro e w2 ⟨rfl, rfl⟩
  clear h
  go_wp2
  go_ret
  exact ⟨rfl, rfl⟩
set_option maxRecDepth 100000 in
set_option maxHeartbeats 2000000 in
/-- The closure fills the first k numbers of the row of the parity shard i. -/
theorem prow_fill {w : World} {b kb fb k i o n cap g m base : Nat} {f : Nat → UInt8} (hF : FieldAt w b) (hb : b ≠ g) (ck : w.cell? ⟨kb, 0, none⟩ = some (.int .i64 (k : Int))) (hk : kb ≠ g) (cf : w.cell? ⟨fb, 0, none⟩ = some (.pointer (some ⟨b, 0, none⟩))) (hf : fb ≠ g)
    (hki : k + i < 256) (hkn : k ≤ n) (hn : n ≤ 256) (hom : o + n ≤ m) (R : RowF w base 5 g m m f) {x : Int} (hx : x = (i : Int)) :
    Calls Tryz.prog 215 #[.int .i64 x, .slice (some ⟨g, o, none⟩) n cap, .pointer (some ⟨kb, 0, none⟩), .pointer (some ⟨fb, 0, none⟩)] w fun e w' => e = .returned (.tuple #[]) ∧ Only g w w' ∧ RowF w' base 5 g m m (putAt f o k (fun j => parF k i j)) := by
  subst hx
  obtain ⟨t, ht⟩ : ∃ t, Hid (t = k + i) := ⟨_, rfl⟩
  have g0 : (k : Int) + (i : Int) = (t : Int) := by have := ht.out; omega
  have ht2 : t < 256 := by have := ht.out; omega
  have m1 : (t : Int) % 256 = (t : Int) := by omega
  have w1 : IntKind.i64.wrap (t : Int) = (t : Int) := by rw [IntKind.wrap_i64]; omega
  go_enter Tryz.func215, Tryz.ntmps215
  go_wp2
  go_loopw [8] (fun v wr => ∃ j : Nat, j ≤ k ∧ v = .int .i64 j ∧ Only g w wr ∧ RowF wr base 5 g m m (putAt f o j (fun j => parF k i j))) (fun v _ => k - (intOf v).toNat)
  case atStart => exact ⟨0, by omega, rfl, by first | exact Only.refl _ _ | exact (Only.refl _ _).drew, by rw [putAt_zero]; first | exact R | exact R.drew⟩
  case round =>
    obtain ⟨j, hj, rfl, hO, hR⟩ := hrel
    have ck2 := (hO.cell (p := ⟨kb, 0, none⟩) hk).trans ck
    have cf2 := (hO.cell (p := ⟨fb, 0, none⟩) hf).trans cf
    have hF2 := hF.only hb hO
    clear hF ck cf R
    by_cases hlt : j < k
    · have hlt' : (j : Int) < (k : Int) := by omega
      have hj2 : (j : Int) % 256 = (j : Int) := by omega
      have X := pt_xor ht2 (show j < 256 by omega)
      have HP : Hid (parF k i j = iv (pt t ^^^ pt j)) := by show _ = _; rw [ht.out]; rfl
      obtain ⟨u, hu⟩ : ∃ u, Hid (u = pt t ^^^ pt j) := ⟨_, rfl⟩
      rw [← hu.out] at X HP
      have c4 : ∀ nd : Nat, (wr.drewN nd).cell? ⟨g, o + j, none⟩ = some (.int .u8 ((putAt f o j (fun j => parF k i j) (o + j)).toNat : Nat)) := fun nd => hR.cell (show o + j < m by omega)
      have f4 : ∀ nd : Nat, (wr.drewN nd).frozen? ⟨g, o + j, none⟩ = false := fun nd => hR.unfrozen (o + j)
      have HN : ∀ nd : Nat, Hid (RowF ((wr.drewN nd).setCell ⟨g, o + j, none⟩ (.int .u8 (invS u.toNat : Nat))) base 5 g m m (putAt f o (j + 1) (fun j => parF k i j))) := by
        intro nd
        have h := (hR.drewN nd).store (f' := putAt f o (j + 1) (fun j => parF k i j)) (show o + j < m by omega) (iv u) (fun s => by rw [putAt_step, HP.out])
        rw [iv_toNat] at h
        exact h
      have HT : ∀ nd : Nat, Hid (Only g w ((wr.drewN nd).setCell ⟨g, o + j, none⟩ (.int .u8 (invS u.toNat : Nat)))) := fun nd => (hO.drewN nd).setCell _ _
      clear hO hR
      go_wp2_with fail
      refine (inv_all hF2 u.toNat rfl (u8_lt u)).mono ?_
      rintro e w' ⟨rfl, nd, rfl⟩
      replace c4 := c4 nd
      replace f4 := f4 nd
      replace HN := HN nd
      replace HT := HT nd
      go_wp2
      go_roundw
      case rel => exact ⟨j + 1, by omega, by go_num, by first | exact HT.out | exact HT.out.drew, by first | exact HN.out | exact HN.out.drew⟩
      case measure => simp [intOf]; omega
    · have e : j = k := by omega
      subst e
      go_wp2
      go_end0
      exact ⟨rfl, hO, hR⟩
end Go.Proofs.YtddnfhfangfgeaaGreat.Gf

namespace Go.Proofs.YtddnfhfangfgeaaGreat.Gf
set_option linter.unusedVariables false
set_option linter.unusedSimpArgs false
open Go.RowKit
theorem nought_facts {w w1 : World} {m u t : Nat} (hown : w1.ownsRow w.heap.size u 1 (.slice (some ⟨(w.alloc (Obj.cells #[.int .i64 0, .int .i64 0, .slice none 0 0] t)).heap.size, 0, none⟩) m m) m (madeCells (Value.cells (.int .u8 0)) (m * 1)).toList)
    (hgrow : (w.alloc (Obj.cells #[.int .i64 0, .int .i64 0, .slice none 0 0] t)).grownBy w1 none) :
    RowF w1 w.heap.size u (w.heap.size + 1) m m (fun _ => 0) ∧ Below w.heap.size w w1 ∧ w1.cell? ⟨w.heap.size, 0, none⟩ = some (.int .i64 0) ∧ w1.cell? ⟨w.heap.size, 1, none⟩ = some (.int .i64 0) ∧ w1.cell? ⟨w.heap.size, 2, none⟩ = some (.slice none 0 0) ∧
    w1.frozen? ⟨w.heap.size, 0, none⟩ = false ∧ w1.frozen? ⟨w.heap.size, 1, none⟩ = false ∧ w1.frozen? ⟨w.heap.size, 2, none⟩ = false := by
  simp only [World.size_alloc] at hown
  have R1 := RowF.made hown
  have B1 : Below (w.heap.size + 1) (w.alloc (Obj.cells #[.int .i64 0, .int .i64 0, .slice none 0 0] t)) w1 := (Below.refl _ _).grown hgrow (by simp) (fun k h => by cases h)
  have B0 : Below w.heap.size w w1 := (below_lit (Below.refl _ _) _).trans (B1.mono (by omega))
  have X0 : Box w1 w.heap.size 0 0 (.slice none 0 0) := Box.below (B := w.heap.size + 1) ⟨by simp, by simp, by simp⟩ (by omega) B1
  have F0 : Free w1 w.heap.size := Free.below (B := w.heap.size + 1) ⟨by simp, by simp, by simp⟩ (by omega) B1
  exact ⟨R1, B0, X0.c0, X0.c1, X0.c2, F0.f0, F0.f1, F0.f2⟩
end Go.Proofs.YtddnfhfangfgeaaGreat.Gf

namespace Go.Proofs.YtddnfhfangfgeaaGreat.Gf
set_option linter.unusedVariables false
set_option linter.unusedSimpArgs false
open Go.RowKit
/-- the first r rows of a matrix, noughts behind them -/
def upR (G : Mx) (r : Nat) : Mx := fun i j => if i < r then G i j else 0
theorem upR_zero (G : Mx) (c t : Nat) : pl c (upR G 0) t = 0 := by
  show upR G 0 (t / c) (t % c) = 0
  unfold upR
  rw [if_neg (Nat.not_lt_zero _)]
theorem upR_all (G : Mx) {r c : Nat} : ∀ t, t < r * c → pl c (upR G r) t = pl c G t := pl_congr fun i j hi _ => if_pos hi
set_option maxRecDepth 100000 in
set_option maxHeartbeats 2000000 in
theorem made_any {F : Nat} {p q : Value} (r c : Nat) (w : World) (hr : r ≤ 256) (hc : c ≤ 256) (hc0 : 0 < c) (G : Mx) (eg : Hid (∀ (args : Array Value) (w : World), Sem.run Tryz.prog (callFunc F args) w = .ok (.enter F args) w))
    (hfill : Hid (∀ (g m i o : Nat) (W : World), i < r → Hid (m = r * c) → Hid (o = i * c) → w.heap.size ≤ g → Below w.heap.size w W → RowF W w.heap.size 5 g m m (pl c (upR G i)) →
      Calls Tryz.prog F #[.int .i64 (i : Int), .slice (some ⟨g, o, none⟩) c (m - o), p, q] W fun e w' => e = .returned (.tuple #[]) ∧ Turn g W w' ∧ RowF w' w.heap.size 5 g m m (pl c (upR G (i + 1)))))
    {x y : Int} (hx : x = (r : Int)) (hy : y = (c : Int)) :
    Calls Tryz.prog 185 #[.int .i64 x, .int .i64 y, .func (.func F) #[] #[p, q]] w fun e w' => ∃ g m, e = .returned (.agg #[.int .i64 (r : Int), .int .i64 (c : Int), .slice (some ⟨g, 0, none⟩) m m]) ∧ w.heap.size ≤ g ∧ Rd w' (.slice (some ⟨g, 0, none⟩) m m) (flat r c G) ∧ Below w.heap.size w w' := by
  subst hx hy
  obtain ⟨i0, hi, hz0, hz1, hz2⟩ := info_parts info_u8
  have hmm : r * c ≤ 256 * 256 := Nat.mul_le_mul hr hc
  obtain ⟨m, hm⟩ : ∃ m, Hid (m = r * c) := ⟨_, rfl⟩
  rw [← hm.out] at hmm
  have g0 : (r : Int) * (c : Int) = (m : Int) := by rw [hm.out]; exact_mod_cast rfl
  go_enter Tryz.func185, Tryz.ntmps185
  go_wp2_with (at_make; go_loud (refine wpList_make_full _ rfl (.tmp 13) (.tmp 13) 36 rfl w.heap.size 5 i0 (.int .u8 0) 1 Tryz.underlying36 hi hz0 hz1 _ _ _ _ m rfl rfl (by omega) (by omega) (by rw [hz2]; omega) (by unfold maxLen; omega) (by simp) ?_); intro w1 hown1 hgrow1; obtain ⟨R1, B0, x0, x1, x2, z0, z1, z2⟩ := nought_facts hown1 hgrow1; clear hown1 hgrow1)
  have hg0 : w.heap.size < w.heap.size + 1 := by omega
  generalize hgg : w.heap.size + 1 = g at *
  have X3 : Box w1 w.heap.size 0 0 (.slice none 0 0) := ⟨x0, x1, x2⟩
  have F3 : Free w1 w.heap.size := ⟨z0, z1, z2⟩
  have hA : Below w1.heap.size w1 (w1.alloc (.cells #[.int .i64 (r : Int), .int .i64 (c : Int), .slice (some ⟨g, 0, none⟩) m m] 148)) := (Below.refl _ _).alloc (Nat.le_refl _) _
  have P1 := Box.new w1 (r : Int) (c : Int) (.slice (some ⟨g, 0, none⟩) m m) 148
  have hlt := R1.lt
  replace R1 := R1.later hA
  replace X3 := X3.below (by omega) hA
  replace F3 := F3.below (by omega) hA
  replace B0 := Below.next B0 hA
  have hms : w1.heap.size < (w1.alloc (.cells #[.int .i64 (r : Int), .int .i64 (c : Int), .slice (some ⟨g, 0, none⟩) m m] 148)).heap.size := by simp
  have hmg : w1.heap.size ≠ g := by omega
  clear hA x0 x1 x2 z0 z1 z2
  generalize w1.alloc (.cells #[.int .i64 (r : Int), .int .i64 (c : Int), .slice (some ⟨g, 0, none⟩) m m] 148) = w2 at *
  go_loopw [17] (fun i wr => ∃ k : Nat, k ≤ r ∧ i = .int .i64 k ∧ Turn g w2 wr ∧ RowF wr w.heap.size 5 g m m (pl c (upR G k))) (fun i _ => r - (intOf i).toNat)
  case atStart => exact ⟨0, by omega, rfl, Turn.refl _ _, R1.congr (fun t _ => (upR_zero _ _ t).symm)⟩
  case round =>
    obtain ⟨k, hk, rfl, hT, hRk⟩ := hrel
    clear R1
    replace P1 := P1.turn hms hmg hT
    have hs2 := hT.size
    by_cases hlt2 : k < r
    · have hlt2' : (k : Int) < (r : Int) := by omega
      obtain ⟨o, ho⟩ : ∃ o, Hid (o = k * c) := ⟨_, rfl⟩
      have hom : o + c ≤ m := by rw [ho.out, hm.out, ← Nat.succ_mul]; exact Nat.mul_le_mul_right c hlt2
      have g1 : (k : Int) * (c : Int) = (o : Int) := by rw [ho.out]; exact_mod_cast rfl
      have g2 : ((k : Int) + 1) * (c : Int) = (o : Int) + (c : Int) := by rw [Int.add_mul, Int.one_mul, g1]
      have v1 : IntKind.i64.wrap (o : Int) = (o : Int) := by rw [IntKind.wrap_i64]; omega
      have v2 : IntKind.i64.wrap ((o : Int) + (c : Int)) = (o : Int) + (c : Int) := by rw [IntKind.wrap_i64]; omega
      have v3 : IntKind.i64.wrap ((k : Int) + 1) = (k : Int) + 1 := by rw [IntKind.wrap_i64]; omega
      have hlt3 : o < m := by omega
      have hne : ¬ m = o := by omega
      have hsub : o + c - o = c := by omega
      have y2 := P1.c2
      have HB : Hid (Below w.heap.size w wr) := B0.trans (hT.below (by omega) (by omega))
      have HC := hfill.out g m k o wr hlt2 hm ho (by omega) HB.out hRk
      clear hfill hRk
      go_wp2_with fail
      rw [eg.out, Oper.upon_enter]
      refine HC.mono ?_
      rintro e v4 ⟨rfl, hT4, hR4⟩
      have HT : Hid (Turn g w2 v4) := hT.trans hT4
      have HN : Hid (RowF v4 w.heap.size 5 g m m (pl c (upR G (k + 1)))) := hR4
      clear hT hT4 hR4 y2 P1 HC HB
      go_wp2
      go_roundw
      case rel => exact ⟨k + 1, by omega, by go_num, HT.out, HN.out⟩
      case measure => simp [intOf]; omega
    · have e : k = r := by omega
      subst e
      have R4 : Rd wr (.slice (some ⟨g, 0, none⟩) m m) (flat k c G) := by
        have := (hRk.congr (f' := pl c G) (by rw [hm.out]; exact upR_all G)).rd
        rw [← pl_flat, ← hm.out]
        exact this
      have X4 := X3.turn (by omega) (by omega) hT
      have F4 := F3.turn (by omega) (by omega) hT
      have x30 := X4.c0
      have x31 := X4.c1
      have x32 := X4.c2
      have f30 := F4.f0
      have f31 := F4.f1
      have f32 := F4.f2
      have y0 := P1.c0
      have y1 := P1.c1
      have y2 := P1.c2
      clear hRk hfill
      go_wp2
      have O1 : Only w.heap.size wr (((wr.setCell ⟨w.heap.size, 0, none⟩ (.int .i64 (k : Int))).setCell ⟨w.heap.size, 1, none⟩ (.int .i64 (c : Int))).setCell ⟨w.heap.size, 2, none⟩ (.slice (some ⟨g, 0, none⟩) m m)) :=
        (((Only.refl _ _).setCell 0 _).setCell 1 _).setCell 2 _
      refine bodyPost_ret (v := .agg #[.int .i64 (k : Int), .int .i64 (c : Int), .slice (some ⟨g, 0, none⟩) m m]) (by simp [results, Tryz.results185, go_sem, x30, x31, x32, f30, f31, f32]) rfl ⟨g, m, rfl, by omega, R4.only (apart_block (by omega)) O1, (B0.trans (hT.below (by omega) (by omega))).trans (O1.below (by omega))⟩
end Go.Proofs.YtddnfhfangfgeaaGreat.Gf

namespace Go.Proofs.YtddnfhfangfgeaaGreat.Gf
set_option linter.unusedVariables false
set_option linter.unusedSimpArgs false
open Go.RowKit
/-- one row more -/
theorem upR_row {G : Mx} {r c i : Nat} {f : Nat → UInt8} (h1 : ∀ t, t < r * c → t / c ≠ i → f t = pl c (upR G i) t) (h2 : ∀ j, j < c → f (i * c + j) = G i j) : ∀ t, t < r * c → f t = pl c (upR G (i + 1)) t := by
  intro t ht
  have hc : 0 < c := by
    rcases Nat.eq_zero_or_pos c with e | e
    · rw [e, Nat.mul_zero] at ht; omega
    · exact e
  by_cases e : t / c = i
  · have h3 := Nat.div_add_mod t c
    rw [e, Nat.mul_comm] at h3
    show f t = upR G (i + 1) (t / c) (t % c)
    unfold upR
    rw [if_pos (by omega), e, ← h2 _ (Nat.mod_lt _ hc), h3]
  · rw [h1 t ht e]
    show upR G i (t / c) (t % c) = upR G (i + 1) (t / c) (t % c)
    unfold upR
    by_cases h : t / c < i
    · rw [if_pos h, if_pos (by omega)]
    · rw [if_neg h, if_neg (by omega)]
theorem not_in_row {c i t o : Nat} (ho : o = i * c) (hc : 0 < c) (h : t / c ≠ i) {n : Nat} (hn : n ≤ c) : t < o ∨ o + n ≤ t := by
  by_cases h1 : i * c ≤ t ∧ t < i * c + c
  · exact absurd ((row_iff hc).1 h1) h
  · omega
/-- What fills a parity shard's row: its captured variables. -/
structure Fills (w : World) (b k kb fb : Nat) : Prop where
  ck : w.cell? ⟨kb, 0, none⟩ = some (.int .i64 (k : Int))
  cf : w.cell? ⟨fb, 0, none⟩ = some (.pointer (some ⟨b, 0, none⟩))
  lk : kb < w.heap.size
  lf : fb < w.heap.size
theorem Fills.below {w w' : World} {b k kb fb : Nat} (h : Fills w b k kb fb) (o : Below w.heap.size w w') : Fills w' b k kb fb :=
  ⟨(o.cell (p := ⟨kb, 0, none⟩) h.lk).trans h.ck, (o.cell (p := ⟨fb, 0, none⟩) h.lf).trans h.cf, Nat.lt_of_lt_of_le h.lk o.size, Nat.lt_of_lt_of_le h.lf o.size⟩
theorem enters_prow1 : Hid (∀ (args : Array Value) (w : World), Sem.run Tryz.prog (callFunc 215 args) w = .ok (.enter 215 args) w) := enters_of Tryz.func215 (by kernel_rfl) rfl
set_option maxRecDepth 100000 in
set_option maxHeartbeats 1000000 in
theorem prow_make {b : Nat} (k : Nat) (w : World) {x : Int} (hx : x = (k : Int)) : Calls Tryz.prog 186 #[.pointer (some ⟨b, 0, none⟩), .int .i64 x] w fun e w' => ∃ kb fb, e = .returned (.func (.func 215) #[] #[.pointer (some ⟨kb, 0, none⟩), .pointer (some ⟨fb, 0, none⟩)]) ∧ Fills w' b k kb fb ∧ Below w.heap.size w w' := by
  subst hx
  go_enter Tryz.func186, Tryz.ntmps186
  go_wp2
  go_ret
  refine ⟨_, _, rfl, ⟨by simp, by simp, by simp <;> omega, by simp <;> omega⟩, by repeat (first | exact Below.refl _ _ | apply below_lit)⟩
set_option maxRecDepth 100000 in
set_option maxHeartbeats 2000000 in
theorem cpar_at {b : Nat} {w : World} (k m : Nat) (hF : FieldAt w b) (h1 : 1 ≤ k) (h2 : k + m ≤ 256) {x y : Int} (hx : x = (k : Int)) (hy : y = (m : Int)) :
    Calls Tryz.prog 159 #[.pointer (some ⟨b, 0, none⟩), .int .i64 x, .int .i64 y] w (fun e w' => ∃ g M, e = .returned (.tuple #[.agg #[.int .i64 (m : Int), .int .i64 (k : Int), .slice (some ⟨g, 0, none⟩) M M], .int .i64 0]) ∧ w.heap.size ≤ g ∧ Rd w' (.slice (some ⟨g, 0, none⟩) M M) (flat m k (parF k)) ∧ Below w.heap.size w w') := by
  subst hx hy
  go_enter Tryz.func159, Tryz.ntmps159
  go_wp2_with fail
  refine (ccf_ok _ (okC_mk h1 h2)).mono ?_
  rintro e w2 ⟨rfl, rfl⟩
  go_wp2_with fail
  refine (prow_make k _ rfl).mono ?_
  rintro e w1 ⟨kb, fb, rfl, hfl, b1⟩
  have X3 : Box w1 w.heap.size 0 0 (.slice none 0 0) := Below.box b1 (by simp <;> omega) (Box.new w 0 0 (.slice none 0 0) 148)
  have F3 : Free w1 w.heap.size := Below.free b1 (by simp <;> omega) (Free.new w #[.int .i64 0, .int .i64 0, .slice none 0 0] 148)
  have B1 : Below w.heap.size w w1 := Below.next (by repeat (first | exact Below.refl _ _ | apply below_lit)) b1
  have hF1 := hF.below B1
  have hs1 : w.heap.size < w1.heap.size := by have := b1.size; simp at this; omega
  clear b1
  go_wp2_with fail
  refine (made_any m k w1 (by omega) (by omega) h1 (parF k) enters_prow1 ?_ rfl rfl).mono ?_
  · intro g M i o W hi hM ho hg hB R
    have hf2 := hfl.below hB
    refine (prow_fill (i := i) (n := k) (hF1.below hB) (by have := hF1.lt; omega) hf2.ck (by have := hfl.lk; omega) hf2.cf (by have := hfl.lf; omega) (by omega) (Nat.le_refl _) (by omega) (by rw [ho.out, hM.out, ← Nat.succ_mul]; exact Nat.mul_le_mul_right k hi) R rfl).mono ?_
    rintro e w' ⟨rfl, hO, hR⟩
    refine ⟨rfl, hO.turn, hR.congr ?_⟩
    rw [hM.out]
    refine upR_row (fun t ht hne => putAt_out (not_in_row ho.out (by omega) hne (Nat.le_refl _))) (fun j hj => ?_)
    rw [ho.out]; exact putAt_in hj
  · rintro e w4 ⟨g, M, rfl, hg, hR, b4⟩
    have X4 := X3.below hs1 b4
    have F4 := F3.below hs1 b4
    have B4 : Below w.heap.size w w4 := Below.next B1 b4
    have x30 := X4.c0
    have x31 := X4.c1
    have x32 := X4.c2
    have f30 := F4.f0
    have f31 := F4.f1
    have f32 := F4.f2
    go_wp2
    have O1 : Only w.heap.size w4 (((w4.setCell ⟨w.heap.size, 0, none⟩ (.int .i64 (m : Int))).setCell ⟨w.heap.size, 1, none⟩ (.int .i64 (k : Int))).setCell ⟨w.heap.size, 2, none⟩ (.slice (some ⟨g, 0, none⟩) M M)) :=
      (((Only.refl _ _).setCell 0 _).setCell 1 _).setCell 2 _
    refine bodyPost_ret (v := .tuple #[.agg #[.int .i64 (m : Int), .int .i64 (k : Int), .slice (some ⟨g, 0, none⟩) M M], .int .i64 0]) (by simp [results, Tryz.results159, go_sem, x30, x31, x32, f30, f31, f32]) rfl ⟨g, M, rfl, by omega, hR.only (apart_block (by omega)) O1, B4.trans (O1.below (by omega))⟩
end Go.Proofs.YtddnfhfangfgeaaGreat.Gf

namespace Go.Proofs.YtddnfhfangfgeaaGreat.Gf
set_option linter.unusedVariables false
set_option linter.unusedSimpArgs false
open Go.RowKit
/-- a row and a multiple of a shard, for the first k places -/
def addR (f : Nat → UInt8) (a : UInt8) (q : List UInt8) (k : Nat) (t : Nat) : UInt8 := if t < k then f t ^^^ mu a (co q t) else f t
theorem addR_zero (f : Nat → UInt8) (a : UInt8) (q : List UInt8) : addR f a q 0 = f := by funext t; exact if_neg (by omega)
theorem addR_step (f : Nat → UInt8) (a : UInt8) (q : List UInt8) (k t : Nat) : addR f a q (k + 1) t = if t = k then f k ^^^ mu a (co q k) else addR f a q k t := by
  unfold addR
  by_cases e : t = k
  · subst e; rw [if_pos (by omega), if_pos rfl]
  · rw [if_neg e]
    by_cases h : t < k
    · rw [if_pos h, if_pos (by omega)]
    · rw [if_neg h, if_neg (by omega)]
set_option maxRecDepth 100000 in
set_option maxHeartbeats 2000000 in
/-- what adds a shard, times a number, to a row: fb its captured variable -/
theorem add1_any {w : World} {base u g n c b fb : Nat} {f : Nat → UInt8} {vq : Value} {q : List UInt8} (a : UInt8) (hF : FieldAt w b) (hbg : b ≠ g) (cf : w.cell? ⟨fb, 0, none⟩ = some (.pointer (some ⟨b, 0, none⟩))) (hfg : fb ≠ g) (hfl : fb < w.heap.size)
    (hR : RowF w base u g n c f) (hq : Rd w vq q) (hap : Apart g vq) (hn : q.length = n) (hL : n ≤ 1000000) {y : Int} (hy : y = ((a.toNat : Nat) : Int)) :
    Calls Tryz.prog 187 #[.slice (some ⟨g, 0, none⟩) n c, .int .u8 y, vq, .pointer (some ⟨fb, 0, none⟩)] w fun e w' => e = .returned (.tuple #[]) ∧ Only g w w' ∧ RowF w' base u g n c (addR f a q n) := by
  subst hy
  obtain ⟨qa, qc, rfl⟩ := hq.form
  rw [hn]
  go_enter Tryz.func187, Tryz.ntmps187
  go_wp2
  go_loopw [11] (fun i wr => ∃ k : Nat, k ≤ n ∧ i = .int .i64 k ∧ Only g w wr ∧ RowF wr base u g n c (addR f a q k)) (fun i _ => n - (intOf i).toNat)
  case atStart => exact ⟨0, by omega, rfl, Only.refl _ _, by rw [addR_zero]; exact hR⟩
  case round =>
    obtain ⟨k, hk, rfl, hO, hRk⟩ := hrel
    by_cases hlt : k < n
    · have hq2 := hq.only hap hO
      rw [hn] at hq2
      obtain ⟨qb, qo, rfl, _, ct⟩ := hq2.byte (i := k) (by omega)
      have c1 := hRk.cell hlt
      have f1 := hRk.unfrozen k
      have cf2 := (hO.cell (p := ⟨fb, 0, none⟩) hfg).trans cf
      have e1 : addR f a q k k = f k := if_neg (by omega)
      rw [e1] at c1
      have E := xor_u8 (f k) (mu a (co q k))
      have HN : Hid (RowF (wr.setCell ⟨g, k, none⟩ (.int .u8 (((f k).toNat ^^^ (mu a (co q k)).toNat : Nat) : Int))) base u g n c (addR f a q (k + 1))) := by
        rw [← UInt8.toNat_xor]
        exact hRk.store hlt _ fun s => addR_step _ _ _ _ _
      have HO : Hid (Only g w (wr.setCell ⟨g, k, none⟩ (.int .u8 (((f k).toNat ^^^ (mu a (co q k)).toNat : Nat) : Int)))) := hO.setCell k _
      have hFr := hF.only hbg hO
      have hlt' : (k : Int) < (n : Int) := by omega
      clear hRk hO hR e1 hq hap hn hq2 hF cf
      go_wp2
      go_region_with ((go_at_call 188; refine (fmu_quiet (hFr.drewN _) a (co q k) rfl rfl).mono ?_; rintro e w' ⟨rfl, d, rfl⟩))
      all_goals go_wp2
      all_goals
        go_roundw
        case rel => exact ⟨k + 1, by omega, by go_num, HO.out.drewN _, HN.out.drewN _⟩
        case measure => simp [intOf]; omega
    · have e : k = n := by omega
      subst e
      have hge : ¬ (k : Int) < (k : Int) := by omega
      clear hq
      go_wp2
      go_end0
      exact ⟨rfl, hO, hRk⟩
set_option maxRecDepth 100000 in
set_option maxHeartbeats 1000000 in
theorem add0_any {b : Nat} (w : World) : Calls Tryz.prog 162 #[.pointer (some ⟨b, 0, none⟩)] w fun e w' => ∃ fb, e = .returned (.func (.func 187) #[] #[.pointer (some ⟨fb, 0, none⟩)]) ∧ w'.cell? ⟨fb, 0, none⟩ = some (.pointer (some ⟨b, 0, none⟩)) ∧ w.heap.size ≤ fb ∧ fb < w'.heap.size ∧ Below w.heap.size w w' := by
  go_enter Tryz.func162, Tryz.ntmps162
  go_wp2
  go_ret
  exact ⟨_, rfl, by simp, by omega, by simp, (Below.refl _ _).alloc (Nat.le_refl _) _⟩
/-- 'copy' into a row of the call's own -/
theorem run_copy_rd {P : Program} {w : World} (dT sT ty : TypeId) (elem : TypeId) (hu : P.underlying dT = some (.slice elem)) (hsz : (P.info? elem).map (·.size) = some 1)
    {g off n dl dCap : Nat} {va : Value} {p : List UInt8} {base e L : Nat} {f : Nat → UInt8} (hr : Rd w va p) (hn : p.length = n) (hdl : n ≤ dl) (hR : RowF w base e g L L f) (hl : off + n ≤ L) :
    ∃ w', Sem.run P (Builtin.copy_ #[dT, sT] ty #[.slice (some ⟨g, off, none⟩) dl dCap, va]) w = .ok (goInt n) w' ∧ Only g w w' ∧ RowF w' base e g L L (putAt f off n (co p)) := by
  subst hn
  obtain ⟨hg, hm⟩ := hR.heap rfl
  have hlt := hR.lt
  rcases hr with ⟨ao, cap, rfl, rfl, _⟩ | ⟨b, so, cap, hp0, rfl, h1, h2, h3, hpc⟩
  · have hrun := run_copy_none (P := P) w dT sT ty elem (some ⟨g, off, none⟩) ao dl dCap 0 cap hu hsz (Nat.zero_min _)
    exact ⟨w, hrun, Only.refl _ _, by rw [List.length_nil, putAt_zero]; exact hR⟩
  · have hrun := run_copy_row (P := P) w dT sT ty elem g off dl dCap ⟨b, so, none⟩ p.length cap ((upto f L).map vb).toArray e (p.map vb) hu hsz hg (by rw [List.length_map]; exact (Nat.min_eq_left hdl).symm) (by have := news_of (k := p.length) hpc; rwa [List.take_length] at this) (by simp [upto_length]; exact hl) (vb_one p)
    refine ⟨_, by simpa using hrun, only_setRow _ _ _, RowF.of_heap hlt.1 hm ?_⟩
    rw [← splice_upto hl]
    simpa [splice] using setRow_heap w g _ _ e _ hg
set_option maxRecDepth 100000 in
set_option maxHeartbeats 1000000 in
theorem cop_any {v : Value} {p : List UInt8} {w : World} (hp : Rd w v p) (hl : p.length ≤ 100000) : Calls Tryz.prog 161 #[v] w fun e w' => ∃ g, e = .returned (.slice (some ⟨g, 0, none⟩) p.length p.length) ∧ w.heap.size ≤ g ∧ RowF w' w.heap.size 5 g p.length p.length (co p) ∧ Below w.heap.size w w' := by
  obtain ⟨i0, hi, hz0, hz1, hz2⟩ := info_parts info_u8
  obtain ⟨qa, qc, rfl⟩ := hp.form
  obtain ⟨n, hn⟩ : ∃ n, Hid (n = p.length) := ⟨_, rfl⟩
  rw [← hn.out] at hl hp ⊢
  go_enter Tryz.func161, Tryz.ntmps161
  go_wp2_with (at_make; go_loud (refine wpList_make_full _ rfl (.tmp 5) (.tmp 5) 36 rfl w.heap.size 5 i0 (.int .u8 0) 1 Tryz.underlying36 hi hz0 hz1 _ _ _ _ n rfl rfl (by omega) (by omega) (by rw [hz2]; omega) (by unfold maxLen; omega) (by simp) ?_); intro w1 hown1 hgrow1; have R1 := RowF.made hown1; clear hown1)
  have b1 : Below w.heap.size w w1 := (Below.refl _ _).grown hgrow1 (Nat.le_refl _) (fun k hk => by cases hk)
  clear hgrow1
  have hg1 := R1.lt
  generalize hgg : w.heap.size = g at *
  obtain ⟨w2, hrun, hO, hR⟩ := run_copy_rd (P := Tryz.prog) 36 36 3 5 Tryz.underlying36 (by rw [hi]; simp [hz1]) (hp.below (by rw [hgg]; exact b1)) hn.out.symm (Nat.le_refl n) R1 (off := 0) (dCap := n) (by omega)
  rw [hrun]
  have HR : Hid (RowF w2 g 5 g n n (co p)) := hR.congr fun t ht => by unfold putAt; rw [if_pos (by omega), Nat.sub_zero]
  have HO : Hid (Only g w1 w2) := hO
  clear hR hO R1 hp hrun
  go_wp2
  go_ret
  subst hgg
  exact ⟨_, rfl, Nat.le_refl _, HR.out, b1.trans (HO.out.below (Nat.le_refl _))⟩
end Go.Proofs.YtddnfhfangfgeaaGreat.Gf

namespace Go.Proofs.YtddnfhfangfgeaaGreat.Gf
set_option linter.unusedVariables false
set_option linter.unusedSimpArgs false
open Go.RowKit
theorem OwnP.row {w : World} {base base' u g : Nat} {p : List UInt8} (h : RowF w base u g p.length p.length (co p)) (hb : base' ≤ base) : OwnP w base' u (.slice (some ⟨g, 0, none⟩) p.length p.length) p := by
  have := h.base hb
  unfold RowF at this
  rw [upto_co] at this
  exact this
theorem OwnP.rowF {w : World} {base u g n : Nat} {f : Nat → UInt8} (h : RowF w base u g n n f) : OwnP w base u (.slice (some ⟨g, 0, none⟩) n n) (upto f n) := by
  unfold OwnP
  rw [upto_length]
  exact h
set_option maxRecDepth 100000 in
set_option maxHeartbeats 4000000 in
theorem encd_far {w : World} {b : Nat} {vs v : Value} {L : List (List UInt8)} (m k : Nat) (F : Mx) (hF : FieldAt w b) (hA : Rd w vs (flat m k F)) (h1 : 1 ≤ k) (h2 : k + m ≤ 256) (h : Rs w v L) (hL : L.length = k) (hE : Even L) (hS : Small L) {x y : Int} (hx : x = (m : Int)) (hy : y = (k : Int)) :
    Calls Tryz.prog 130 #[.pointer (some ⟨b, 0, none⟩), .agg #[.int .i64 x, .int .i64 y, vs], v] w fun e w' => ∃ v', e = .returned v' ∧ FarL w' w.heap.size v' (encL m k F L) ∧ Below w.heap.size w w' := by
  subst hx hy
  obtain ⟨i0, hi, hz0, hz1, hz2⟩ := info_parts info_u8
  obtain ⟨i1, hj, hy0, hy1, hy2⟩ := info_parts info_shard
  obtain ⟨db, doff, dc, rfl, hdb, hdc, hdm⟩ := h.somewhere (by omega)
  have hLh : Hid (L.length = k) := hL
  rw [hL] at h ⊢
  clear hL
  obtain ⟨N, hN⟩ : ∃ N, Hid (N = (flat m k F).length) := ⟨_, rfl⟩
  obtain ⟨va, vc, rfl⟩ := hA.form
  rw [← hN.out] at hA ⊢
  have hNm : Hid (N = m * k) := by show _ = _; rw [hN.out, flat_length]
  have B0 : Below w.heap.size w (w.alloc (.cells #[.int .i64 (m : Int), .int .i64 (k : Int), .slice va N vc] 148)) := (Below.refl _ _).alloc (Nat.le_refl _) _
  have X0 := Box.new w (m : Int) (k : Int) (.slice va N vc) 148
  have s0 : (w.alloc (.cells #[.int .i64 (m : Int), .int .i64 (k : Int), .slice va N vc] 148)).heap.size = w.heap.size + 1 := by simp
  have gk : (k : Int) + (m : Int) = ((k + m : Nat) : Int) := by omega
  have gw : IntKind.i64.wrap ((k + m : Nat) : Int) = ((k + m : Nat) : Int) := by rw [IntKind.wrap_i64]; omega
  obtain ⟨K, hK⟩ : ∃ K, Hid (K = k + m) := ⟨_, rfl⟩
  have hK2 : K ≤ 256 := by have := hK.out; omega
  rw [← hK.out] at gk gw
  go_enter Tryz.func130, Tryz.ntmps130
  go_wp2_with (at_make; go_loud (refine wpList_make_own _ rfl _ (.tmp 19) 106 rfl (w.alloc (.cells #[.int .i64 (m : Int), .int .i64 (k : Int), .slice va N vc] 148)).heap.size 36 i1 (.slice none 0 0) 1 Tryz.underlying106 hj hy0 hy1 _ _ _ K rfl rfl rfl (by rw [hy2]; omega) (by unfold maxLen; omega) (Nat.le_refl _) ?_); intro w1 hown1 hgrow1)
  generalize w.alloc (.cells #[.int .i64 (m : Int), .int .i64 (k : Int), .slice va N vc] 148) = w0 at *
  have HO1 : Hid (Os w1 w0.heap.size 36 5 (.slice (some ⟨w0.heap.size, 0, none⟩) 0 K) []) := ⟨[], hown1, RowsO.nil _ _ _ _ _⟩
  have HB1 : Hid (Below w0.heap.size w0 w1) := (Below.refl _ _).grown hgrow1 (Nat.le_refl _) (fun q hq => by cases hq)
  clear hown1 hgrow1
  obtain ⟨B, hBB⟩ : ∃ B, Hid (B = w0.heap.size) := ⟨_, rfl⟩
  have hsB : w.heap.size < B := by rw [hBB.out]; omega
  rw [← hBB.out] at HO1
  rw [← s0, ← hBB.out]
  have h0 := h.below B0
  have hA0 := hA.below B0
  have hF0 := hF.below B0
  rw [← hBB.out] at HB1
  have X1 : ∀ wr, Below B w0 wr → Box wr w.heap.size (m : Int) (k : Int) (.slice va N vc) := fun wr hb => X0.below hsB hb
  have D1 : ∀ wr, Below B w0 wr → Rs wr (.slice (some ⟨db, doff, none⟩) k dc) L := fun wr hb => h0.below (by rw [← hBB.out]; exact hb)
  have A1 : ∀ wr, Below B w0 wr → Rd wr (.slice va N vc) (flat m k F) := fun wr hb => hA0.below (by rw [← hBB.out]; exact hb)
  have F1 : ∀ wr, Below B w0 wr → FieldAt wr b := fun wr hb => hF0.below (by rw [← hBB.out]; exact hb)
  have HX : Hid _ := X1
  have HD : Hid _ := D1
  have HA : Hid _ := A1
  have HF : Hid _ := F1
  have HB0 : Hid (Below w.heap.size w w0) := B0
  have hbB : b < B := by have := hF.lt; omega
  have hdB : db < B := by omega
  have hsz : B ≤ w1.heap.size := by rw [hBB.out]; exact HB1.out.size
  clear X1 D1 A1 F1 h0 hA0 hF0 h hA hF X0 B0 s0
  have hS1 := hS.1
  have hSk : Hid (∀ i, (ro L i).length ≤ 300) := hS.2
  have hEv : Hid (Even L) := hE
  clear hS hE hN
  go_wp2
  go_loopw [7, 23] (fun o i wr => ∃ c : Nat, c ≤ k ∧ i = .int .i64 c ∧ Os wr B 36 5 o (L.take c) ∧ Below B w0 wr) (fun _ i _ => k - (intOf i).toNat)
  case atStart => exact ⟨0, by omega, rfl, HO1.out, HB1.out⟩
  case round =>
    obtain ⟨c, hc, rfl, hO, hB⟩ := hrel
    clear HO1 HB1
    have hszr : B ≤ wr.heap.size := by rw [hBB.out]; exact hB.size
    by_cases hlt : c < k
    · have hlL : c < L.length := by rw [hLh.out]; exact hlt
      obtain ⟨xa, xc, c1, r1⟩ := (HD.out _ hB).get hlL
      have hlt' : (c : Int) < (k : Int) := by omega
      have hln := hSk.out c
      obtain ⟨p, hp⟩ : ∃ p, Hid (p = ro L c) := ⟨_, rfl⟩
      have HT : Hid (L.take (c + 1) = L.take c ++ [p]) := by show _ = _; rw [hp.out]; exact take_next hlL
      have HL : Hid ((L.take c).length = c) := by show _ = _; rw [List.length_take]; omega
      rw [← hp.out] at c1 r1 hln
      obtain ⟨av, cv, ev⟩ := hO.form
      rw [HL.out] at ev
      subst ev
      have hdw : db < wr.heap.size := by omega
      clear hp
      go_wp2_with fail
      refine (cop_any r1 (by omega)).mono ?_
      rintro e w5 ⟨g, rfl, hg, hR, b5⟩
      go_wp2_with (at_builtin; go_loud (refine wpList_append_os rfl (.tmp 27) (.tmp 30) 106 rfl B 36 i1 Tryz.underlying106 hj hy0 hy1 hy2 5 (.slice av c cv) (L.take c) rfl hO b5 (.slice (some ⟨g, 0, none⟩) p.length p.length) p (OwnP.row hR hszr) (by intro q hq; cases hq; exact hg) _ 1 rfl (by rw [HL.out]; omega) hszr ?_); intro v' w6 hv6 hb6 _ _)
      rw [← HT.out] at hv6
      have HBn : Hid (Below B w0 w6) := hB.trans hb6
      have HOn : Hid (Os w6 B 36 5 v' (L.take (c + 1))) := hv6
      clear hB hb6 hv6 hO hR b5 c1 r1
      go_roundw
      case rel => exact ⟨c + 1, by omega, by go_num, HOn.out, HBn.out⟩
      case measure => simp [intOf]; omega
    · have hge : ¬ (c : Int) < (k : Int) := by omega
      have e : L.take c = L := by rw [show c = L.length by rw [hLh.out]; omega, List.take_length]
      rw [e] at hO
      clear e
      go_wp2_with fail
      refine (add0_any _).mono ?_
      rintro e w6 ⟨fb, rfl, cf, hfb, hfl, b6⟩
      have hO6 := hO.later b6
      have hB6 : Below B w0 w6 := hB.trans (b6.mono hszr)
      have ho6 : Hid (u7.ownBlock ≠ some fb) := by
        obtain ⟨vals, hv, _⟩ := hO
        intro e
        have := (World.ownsRow.lt hv _ e).2
        omega
      clear hO hB b6
      have x0 := (HX.out _ hB6).c0
      go_wp2
      clear x0
      go_loopw [7, 37] (fun o i wr => ∃ r : Nat, r ≤ m ∧ i = .int .i64 r ∧ Os wr B 36 5 o (L ++ mkL r (parR k F L)) ∧ Below B w0 wr ∧ wr.cell? ⟨fb, 0, none⟩ = some (.pointer (some ⟨b, 0, none⟩)) ∧ fb < wr.heap.size ∧ o.ownBlock ≠ some fb) (fun _ i _ => m - (intOf i).toNat)
      case atStart => exact ⟨0, by omega, rfl, by simpa [mkL] using hO6, hB6, cf, hfl, ho6.out⟩
      case round =>
        clear hO6 hB6 cf hfl ho6 hszr hfb
        obtain ⟨r, hr, rfl, hO, hB, cf, hfl, hof⟩ := hrel
        obtain ⟨wo, hwo⟩ : ∃ wo, wo = wr := ⟨_, rfl⟩
        subst hwo
        have hszr : B ≤ wo.heap.size := by rw [hBB.out]; exact hB.size
        by_cases hlt2 : r < m
        · have hlt2' : (r : Int) < (m : Int) := by omega
          have h0L : 0 < L.length := by rw [hLh.out]; omega
          obtain ⟨ya, yc, c0, r0⟩ := (HD.out _ hB).get h0L
          rw [Nat.add_zero] at c0
          obtain ⟨n, hn⟩ : ∃ n, Hid (n = (ro L 0).length) := ⟨_, rfl⟩
          have hn3 : n ≤ 300 := by rw [hn.out]; exact hSk.out 0
          rw [← hn.out] at c0 r0
          have h0k : (0 : Int) < (k : Int) := by omega
          have hdw : db < wo.heap.size := by omega
          have hbw : b < wo.heap.size := by omega
          have hBg : B ≤ wo.heap.size := hszr
          have HLen : Hid ((L ++ mkL r (parR k F L)).length = k + r) := by show _ = _; rw [List.length_append, mkL_length, hLh.out]
          obtain ⟨av, cv, ev⟩ := hO.form
          rw [HLen.out] at ev
          subst ev
          clear r0
          go_wp2_with (at_make; go_loud (refine wpList_make_full _ rfl (.tmp 43) (.tmp 43) 36 rfl B 5 i0 (.int .u8 0) 1 Tryz.underlying36 hi hz0 hz1 _ _ _ _ n rfl rfl (by omega) (by omega) (by rw [hz2]; omega) (by unfold maxLen; omega) hszr ?_); intro w7 hown7 hgrow7)
          have R7 := RowF.made hown7
          have b7 : Below wo.heap.size wo w7 := (Below.refl _ _).grown hgrow7 (Nat.le_refl _) (fun q hq => by cases hq)
          clear hown7 hgrow7 c0
          obtain ⟨g, hg⟩ : ∃ g, Hid (g = wo.heap.size) := ⟨_, rfl⟩
          rw [← hg.out] at R7
          rw [← hg.out]
          have hgB : B ≤ g := by rw [hg.out]; exact hszr
          have hgr : wo.heap.size ≤ g := by rw [hg.out]; exact Nat.le_refl _
          have hbg : b ≠ g := by omega
          have hfg : fb ≠ g := by have := hg.out; omega
          have cf7 := (b7.cell (p := ⟨fb, 0, none⟩) hfl).trans cf
          have hfl7 : fb < w7.heap.size := Nat.lt_of_lt_of_le hfl b7.size
          have hB7 : Below B w0 w7 := hB.trans (b7.mono hszr)
          have HW : Hid (∀ j, j < k → ∃ xa xc, wo.cell? ⟨db, doff + j, none⟩ = some (.slice xa (ro L j).length xc) ∧ Rd wo (.slice xa (ro L j).length xc) (ro L j)) := fun j hj => (HD.out _ hB).get (by rw [hLh.out]; exact hj)
          have hO' : Hid _ := hO
          clear hO
          go_loopw [47] (fun i w8 => ∃ j : Nat, j ≤ k ∧ i = .int .i64 j ∧ Only g w7 w8 ∧ RowF w8 B 5 g n n (wd F L r j)) (fun i _ => k - (intOf i).toNat)
          case atStart => exact ⟨0, by omega, rfl, Only.refl _ _, R7⟩
          case round =>
            obtain ⟨w8, hw8⟩ : ∃ w8, w8 = wr := ⟨_, rfl⟩
            subst hw8
            clear R7
            obtain ⟨j, hj2, rfl, hO8, R8⟩ := hrel
            have hB8 : Below B w0 w8 := hB7.trans (hO8.below hgB)
            have b8 : Below wo.heap.size wo w8 := b7.trans (hO8.below hgr)
            by_cases hlt3 : j < k
            · have hlt3' : (j : Int) < (k : Int) := by omega
              obtain ⟨xa, xc, cj, rj⟩ := HW.out j hlt3
              have hap : Apart g (.slice xa (ro L j).length xc) := rj.apart hgr
              have cj8 := (b8.cell (p := ⟨db, doff + j, none⟩) hdw).trans cj
              have rj8 := rj.below b8
              have X8 := HX.out _ hB8
              have x1 := X8.c1
              have x2 := X8.c2
              obtain ⟨T, hT⟩ : ∃ T, Hid (T = r * k + j) := ⟨_, rfl⟩
              have hTN : T < N := by rw [hT.out, hNm.out]; exact place_lt hlt2 hlt3
              have hNs : N ≤ 65536 := by rw [hNm.out]; exact mul_small (by omega) (by omega)
              obtain ⟨o', ho'⟩ : ∃ o', Hid (o' = r * k) := ⟨_, rfl⟩
              have hoT : o' + j = T := by rw [ho'.out, hT.out]
              have g1 : (r : Int) * (k : Int) = (o' : Int) := by rw [ho'.out]; exact_mod_cast rfl
              have g2 : (o' : Int) + (j : Int) = (T : Int) := by omega
              have v1 : IntKind.i64.wrap (o' : Int) = (o' : Int) := by rw [IntKind.wrap_i64]; omega
              have v2 : IntKind.i64.wrap (T : Int) = (T : Int) := by rw [IntKind.wrap_i64]; omega
              obtain ⟨ab, ao, eva, hab, ca⟩ := (HA.out _ hB8).byte (i := T) (by rw [flat_length, ← hNm.out]; exact hTN)
              have eT : co (flat m k F) T = F r j := by rw [hT.out]; exact en_flat F hlt2 hlt3
              rw [eT] at ca
              subst eva
              have hTN' : (T : Int) < (N : Int) := by omega
              have hlen : (ro L j).length = n := by rw [hn.out]; exact hEv.out j (by rw [hLh.out]; exact hlt3)
              rw [hlen] at cj8 rj8 hap
              have hF8 := HF.out _ hB8
              have cf8 := (hO8.cell (p := ⟨fb, 0, none⟩) hfg).trans cf7
              have hfl8 : fb < w8.heap.size := by rw [hO8.size]; exact hfl7
              have hlen' : Hid _ := hlen
              have hO8' : Hid _ := hO8
              have R8' : Hid _ := R8
              clear hlen cj rj X8 hB8 b8 eT hoT cf7 cf hO8 R8
              go_wp2_with fail
              refine (add1_any (F r j) hF8 hbg cf8 hfg hfl8 R8'.out rj8 hap hlen'.out (by omega) rfl).mono ?_
              rintro e w9 ⟨rfl, hO9, hR9⟩
              have HN1 : Hid (RowF w9 B 5 g n n (wd F L r (j + 1))) := hR9.congr fun t ht => by rw [wd_succ]; exact if_pos ht
              have HN2 : Hid (Only g w7 w9) := hO8'.out.trans hO9
              clear hO9 hR9 hF8 rj8 hap cj8 ca x1 x2 cf8 hfl8 hO8' R8'
              go_wp2
              go_roundw
              case rel => exact ⟨j + 1, by omega, by go_num, HN2.out, HN1.out⟩
              case measure => simp [intOf]; omega
            · have hge3 : ¬ (j : Int) < (k : Int) := by omega
              have ej : j = k := by omega
              rw [ej] at R8
              clear ej
              have hx8 := OwnP.rowF R8
              have eP : upto (wd F L r k) n = parR k F L r := by rw [hn.out]; rfl
              rw [eP] at hx8
              have cf8 := (hO8.cell (p := ⟨fb, 0, none⟩) hfg).trans cf7
              have hfl8 : fb < w8.heap.size := by rw [hO8.size]; exact hfl7
              have hS8 : wo.heap.size < w8.heap.size := by have := R8.lt.2; omega
              clear R8 cf7 cf eP
              go_wp2_with (at_builtin; go_loud (refine wpList_append_os rfl (.tmp 67) (.tmp 69) 106 rfl B 36 i1 Tryz.underlying106 hj hy0 hy1 hy2 5 (.slice av (k + r) cv) (L ++ mkL r (parR k F L)) rfl hO'.out b8 (.slice (some ⟨g, 0, none⟩) n n) (parR k F L r) hx8 (by intro q hq; cases hq; exact hgr) _ 1 rfl (by rw [HLen.out]; omega) hszr ?_); intro v' w9 hv9 hb9 hq9 hf9)
              have HOn : Hid (Os w9 B 36 5 v' (L ++ mkL (r + 1) (parR k F L))) := by
                show Os _ _ _ _ _ _
                rw [mkL_succ, ← List.append_assoc]; exact hv9
              have HBn : Hid (Below B w0 w9) := hB.trans hb9
              have HCn : Hid (w9.cell? ⟨fb, 0, none⟩ = some (.pointer (some ⟨b, 0, none⟩))) := (World.cell?_of_block (w := w8) (a := ⟨fb, 0, none⟩) (hq9 fb hfl8 hof)).trans cf8
              have HFn : Hid (v'.ownBlock ≠ some fb) := hf9 fb hfl8 hof
              have HLn : Hid (fb < w9.heap.size) := Nat.lt_of_lt_of_le hfl hb9.size
              clear hv9 hb9 hq9 hf9 hx8 cf8 hfl8 hB8 b8 hO8 hB hB7 b7 hO' hof
              go_wp2
              go_roundw
              case rel => exact ⟨r + 1, by omega, by go_num, HOn.out, HBn.out, HCn.out, HLn.out, HFn.out⟩
              case measure => simp [intOf]; omega
        · have hge2 : ¬ (r : Int) < (m : Int) := by omega
          have er : r = m := by omega
          rw [er] at hO
          have HR : Hid (FarL wo w.heap.size u7 (encL m k F L)) := ⟨_, _, hO.base (by omega)⟩
          have HBn : Hid (Below w.heap.size w wo) := HB0.out.trans (hB.mono (by omega))
          clear hO hB cf hof er
          go_wp2
          go_ret
          exact ⟨_, rfl, HR.out, HBn.out⟩
end Go.Proofs.YtddnfhfangfgeaaGreat.Gf

