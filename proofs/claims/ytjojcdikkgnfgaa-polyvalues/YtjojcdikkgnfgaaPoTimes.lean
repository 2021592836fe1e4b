/-
  THE PROGRAM's 'times' BY CONTRACT: each number times one, in a row of its own.
-/
import Derived.Test.YtjojcdikkgnfgaaPoSumInto
import Derived.Test.YtjojcdikkgnfgaaPoShort1
namespace Go.Proofs.Ytjojcdikkgnfgaa.Gf
set_option linter.unusedVariables false
set_option linter.unusedSimpArgs false
open Go.RowKit

/-- the first k multiples -/
def tk (q : Nat → UInt8) (a : UInt8) (k t : Nat) : UInt8 := if t < k then mu (q t) a else 0
theorem tk_zero (q : Nat → UInt8) (a : UInt8) (t : Nat) : tk q a 0 t = 0 := if_neg (by omega)
theorem tk_step (q : Nat → UInt8) (a : UInt8) (k t : Nat) : tk q a (k + 1) t = if t = k then mu (q k) a else tk q a k t := by
  unfold tk
  by_cases e : t = k
  · subst e; rw [if_pos (by omega), if_pos rfl]
  · rw [if_neg e]
    by_cases h2 : t < k
    · rw [if_pos h2, if_pos (by omega)]
    · rw [if_neg h2, if_neg (by omega)]
def mulBy (q : List UInt8) (a : UInt8) : List UInt8 := upto (fun t => mu (co q t) a) q.length
theorem mulBy_length (q : List UInt8) (a : UInt8) : (mulBy q a).length = q.length := upto_length _ _
theorem co_mulBy (q : List UInt8) (a : UInt8) (t : Nat) : co (mulBy q a) t = mu (co q t) a :=
  co_upto (k := q.length) (f := fun t => mu (co q t) a) (fun i hi => by show mu (co q i) a = 0; rw [co_ge hi, zero_mu]) t

set_option maxRecDepth 100000 in
set_option maxHeartbeats 1000000 in
theorem times_main (b b' off' c' : Nat) (q : List UInt8) (a : UInt8) (w : World) (hF : FieldAt w b) (hl : q.length ≤ 400000) (hb : b' < w.heap.size)
    (hqc : ∀ i, i < q.length → w.cell? ⟨b', off' + i, none⟩ = some (.int .u8 ((co q i).toNat : Nat))) :
    Calls Try.prog 31 #[.pointer (some ⟨b, 0, none⟩), .slice (some ⟨b', off', none⟩) q.length c', .int .u8 ((a.toNat : Nat) : Int)] w fun e w' =>
      e = .returned (.slice (some ⟨w.heap.size, 0, none⟩) q.length q.length) ∧ RowF w' w.heap.size 5 w.heap.size q.length q.length (fun t => mu (co q t) a) ∧ Below w.heap.size w w' := by
  obtain ⟨i0, hi, hz0, hz1, hz2⟩ := info_parts info_u8
  go_enter Try.func31, Try.ntmps31
  go_wp2_with (at_make; go_loud (refine wpList_make_full _ rfl (.tmp 10) (.tmp 10) 23 rfl w.heap.size 5 i0 (.int .u8 0) 1 Try.underlying23 hi hz0 hz1 _ _ _ _ q.length rfl rfl (by omega) (by omega) (by rw [hz2]; omega) (by unfold maxLen; omega) (Nat.le_refl _) ?_); intro w1 hown1 hgrow1)
  have R1 := RowF.made hown1
  have B1 : Below w.heap.size w w1 := (Below.refl _ _).grown hgrow1 (Nat.le_refl _) (fun k h => by cases h)
  clear hown1 hgrow1
  go_loopw [14] (fun i wr => ∃ k : Nat, k ≤ q.length ∧ i = .int .i64 k ∧ RowF wr w.heap.size 5 w.heap.size q.length q.length (tk (co q) a k) ∧ Below w.heap.size w wr) (fun i _ => q.length - (intOf i).toNat)
  case atStart => exact ⟨0, by omega, rfl, R1.congr (fun t _ => (tk_zero _ _ t).symm), B1⟩
  case round =>
    obtain ⟨k, hk, rfl, hR, hB⟩ := hrel
    clear R1 B1
    by_cases hlt : k < q.length
    · have c1 := (hB.cell (p := ⟨b', off' + k, none⟩) hb).trans (hqc k hlt)
      have hF1 := hF.below hB
      clear hqc
      go_wp2_with fail
      refine (fmu_at hF1 (co q k) a rfl rfl).mono ?_
      rintro e w2 ⟨rfl, hb2⟩
      have hR2 := hR.later hb2
      have hB2 := Below.next hB hb2
      have c2 := hR2.cell hlt
      have f1 := hR2.unfrozen k
      have N1 : Hid _ := hR2.store hlt (mu (co q k) a) (tk_step (co q) a k)
      have N2 : Hid _ := hB2.setCell (p := ⟨w.heap.size, k, none⟩) (Nat.le_refl _) (.int .u8 (((mu (co q k) a).toNat : Nat) : Int))
      clear hR hR2 hB hB2 hb2 hF1
      go_wp2
      go_roundw
      case rel => exact ⟨k + 1, by omega, by go_num, N1.out, N2.out⟩
      case measure => simp [intOf]; omega
    · have e : k = q.length := by omega
      subst e
      clear hqc
      go_wp2
      go_ret
      exact ⟨rfl, hR.congr (fun t ht => if_pos ht), hB⟩

set_option maxRecDepth 100000 in
set_option maxHeartbeats 1000000 in
theorem times_nil (v1 : Value) (ao : Option Addr) (c' : Nat) (y : Int) (w : World) :
    Calls Try.prog 31 #[v1, .slice ao 0 c', .int .u8 y] w fun e w' => e = .returned (.slice (some ⟨w.heap.size, 0, none⟩) 0 0) ∧ RowF w' w.heap.size 5 w.heap.size 0 0 (fun _ => 0) ∧ Below w.heap.size w w' := by
  obtain ⟨i0, hi, hz0, hz1, hz2⟩ := info_parts info_u8
  go_enter Try.func31, Try.ntmps31
  go_wp2_with (at_make; go_loud (refine wpList_make_full _ rfl (.tmp 10) (.tmp 10) 23 rfl w.heap.size 5 i0 (.int .u8 0) 1 Try.underlying23 hi hz0 hz1 _ _ _ _ 0 rfl rfl (by omega) (by omega) (by rw [hz2]; omega) (by unfold maxLen; omega) (Nat.le_refl _) ?_); intro w1 hown1 hgrow1)
  have R1 := RowF.made hown1
  have B1 : Below w.heap.size w w1 := (Below.refl _ _).grown hgrow1 (Nat.le_refl _) (fun k h => by cases h)
  clear hown1 hgrow1
  go_loop [14] (fun i => i = .int .i64 0) (fun _ => 0)
  case atStart => rfl
  case round =>
    subst hrel
    go_wp2
    go_ret
    exact ⟨rfl, R1, B1⟩

theorem times_any {b n c : Nat} {ao : Option Addr} {q : List UInt8} {w : World} (hF : FieldAt w b) (hq : Rd w (.slice ao n c) q) (hl : q.length ≤ 400000) (a : UInt8) {y : Int} (hy : y = ((a.toNat : Nat) : Int)) :
    Calls Try.prog 31 #[.pointer (some ⟨b, 0, none⟩), .slice ao n c, .int .u8 y] w fun e w' =>
      e = .returned (.slice (some ⟨w.heap.size, 0, none⟩) n n) ∧ Rd w' (.slice (some ⟨w.heap.size, 0, none⟩) n n) (mulBy q a) ∧ Below w.heap.size w w' := by
  subst hy
  have hn := hq.n
  subst hn
  rcases hq with ⟨a', c', rfl, e2, hc, hn⟩ | ⟨b', off', c', hp0, e2, h1, h2, h3, hqc⟩
  · refine (times_nil _ _ _ _ w).mono ?_
    rintro e w' ⟨rfl, hR, hB⟩
    exact ⟨rfl, hR.rd, hB⟩
  · simp at e2; obtain ⟨rfl, rfl⟩ := e2
    refine (times_main b b' off' _ q a w hF hl h3 hqc).mono ?_
    rintro e w' ⟨rfl, hR, hB⟩
    exact ⟨rfl, hR.rd, hB⟩

end Go.Proofs.Ytjojcdikkgnfgaa.Gf
