/-
  gf.New BY CONTRACT: it answers a pointer to a new block that holds all 255 powers of 2 and, behind them, each number's place among them; nothing that was there has turned.
-/
import Derived.Test.YtehphjapahdalaaGfPut
import Derived.WalkSpells
namespace Go.Proofs.Ytehphjapahdalaa.Gf
set_option linter.unusedVariables false
open Go.RowKit

def zeros : Array Value := Array.replicate 511 (.int .u8 0)
theorem zero_field (w : World) : Sem.run Try.prog (zeroValue 47) w = .ok (.agg zeros) w := by kernel_rfl
theorem zeros_at {i : Nat} (h : i < 511) : zeros[i]? = some (.int .u8 0) := by
  unfold zeros; rw [Array.getElem?_replicate, if_pos h]

theorem cell_set {w : World} {p q : Addr} {u v : Value} (h : w.cell? q = some u) : (w.setCell p v).cell? q = some (if q = p then v else u) := by
  by_cases e : q = p
  · subst e; rw [if_pos rfl]; exact World.cell?_setCell_same w q v h
  · rw [if_neg e, ← h]; exact World.cell?_setCell_other w p q v (fun h => e h.symm)
theorem frozen_past {w : World} {a : Addr} (h : w.heap.size ≤ a.block) : w.frozen? a = false := by
  unfold World.frozen?
  rw [Array.getElem?_eq_none h]

/-- The first k powers and their places stand in block b. -/
structure FieldK (w : World) (b k : Nat) : Prop where
  powers : ∀ i, i < 255 → w.cell? ⟨b, i, none⟩ = some (.int .u8 (if i < k then pw i else 0 : Nat))
  places : ∀ a, a < 256 → w.cell? ⟨b, 255 + a, none⟩ = some (.int .u8 (if a ≠ 0 ∧ lg a < k then lg a else 0 : Nat))

/-- A field stands in block b. -/
structure FieldAt (w : World) (b : Nat) : Prop where
  powers : ∀ i, i < 255 → w.cell? ⟨b, i, none⟩ = some (.int .u8 (pw i : Nat))
  places : ∀ a, a < 256 → w.cell? ⟨b, 255 + a, none⟩ = some (.int .u8 (lg a : Nat))
  lt : b < w.heap.size

theorem FieldAt.own {w w' : World} {b : Nat} (h : FieldAt w b) (o : Own w w') : FieldAt w' b :=
  ⟨fun i hi => (o.cell (p := ⟨b, i, none⟩) h.lt).trans (h.powers i hi), fun i hi => (o.cell (p := ⟨b, 255 + i, none⟩) h.lt).trans (h.places i hi), Nat.lt_of_lt_of_le h.lt o.below.size⟩

theorem place_eq {k a : Nat} (hk : k < 255) (ha : a < 256) :
    (if a = pw k then k else if a ≠ 0 ∧ lg a < k then lg a else 0) = (if a ≠ 0 ∧ lg a < k + 1 then lg a else 0) := by
  by_cases e : a = pw k
  · subst e
    have := pw_pos hk
    have hl := lg_pw hk
    rw [if_pos rfl, hl, if_pos ⟨by omega, by omega⟩]
  · rw [if_neg e]
    by_cases z : a = 0
    · subst z; simp
    · have hne : lg a ≠ k := fun h => e (by rw [← h, pw_lg ha z])
      by_cases l : lg a < k
      · rw [if_pos ⟨z, l⟩, if_pos ⟨z, by omega⟩]
      · rw [if_neg (fun h => l h.2), if_neg (fun h => by omega)]

theorem step {w : World} {b c k : Nat} (hk : k < 255) (hbc : b ≠ c) (h : FieldK w b k) {v : Value} (hc : w.cell? ⟨c, 0, none⟩ = some v) :
    FieldK (((w.setCell ⟨b, k, none⟩ (.int .u8 (pw (k % 255) : Nat))).setCell ⟨b, 255 + pw (k % 255), none⟩ (.int .u8 (k : Nat))).setCell ⟨c, 0, none⟩ (.int .u8 (dbl (pw (k % 255)) : Nat))).drew.drew b (k + 1) ∧
    (((w.setCell ⟨b, k, none⟩ (.int .u8 (pw (k % 255) : Nat))).setCell ⟨b, 255 + pw (k % 255), none⟩ (.int .u8 (k : Nat))).setCell ⟨c, 0, none⟩ (.int .u8 (dbl (pw (k % 255)) : Nat))).drew.drew.cell? ⟨c, 0, none⟩ = some (.int .u8 (pw ((k + 1) % 255) : Nat)) := by
  refine ⟨⟨fun i hi => ?_, fun a ha => ?_⟩, ?_⟩
  · simp only [World.cell?_drew]
    rw [cell_set (cell_set (cell_set (h.powers i hi)))]
    simp only [Addr.mk.injEq, and_true, true_and, hbc, false_and, if_false]
    rw [if_neg (by omega : ¬ i = 255 + pw (k % 255))]
    rw [Nat.mod_eq_of_lt hk]
    by_cases e : i = k
    · subst e; simp
    · simp only [e, if_false]
      by_cases l : i < k
      · rw [if_pos l, if_pos (by omega)]
      · rw [if_neg l, if_neg (by omega)]
  · simp only [World.cell?_drew]
    rw [cell_set (cell_set (cell_set (h.places a ha)))]
    simp only [Addr.mk.injEq, and_true, true_and, hbc, false_and, if_false]
    rw [if_neg (by omega : ¬ 255 + a = k), Nat.mod_eq_of_lt hk, ← place_eq hk ha]
    by_cases e : a = pw k
    · subst e; simp
    · rw [if_neg (by omega), if_neg e]
  · simp only [World.cell?_drew]
    rw [cell_set (cell_set (cell_set hc)), if_pos rfl, next_pw hk]

theorem start {w : World} : FieldK (((w.alloc (.cells zeros 47)).alloc (.cells #[.pointer (some ⟨w.heap.size, 0, none⟩)] 24)).alloc (.cells #[.int .u8 1] 5)) w.heap.size 0 := by
  have key : ∀ i, i < 511 → (((w.alloc (.cells zeros 47)).alloc (.cells #[.pointer (some ⟨w.heap.size, 0, none⟩)] 24)).alloc (.cells #[.int .u8 1] 5)).cell? ⟨w.heap.size, i, none⟩ = some (.int .u8 0) := by
    intro i hi
    rw [World.cell?_alloc_past _ _ _ (by simp; omega), World.cell?_alloc_past _ _ _ (by simp), World.cell?_alloc_at _ _ _ _ rfl, zeros_at hi]
  exact ⟨fun i hi => by rw [key i (by omega)]; simp, fun a ha => by rw [key _ (by omega)]; simp⟩

theorem FieldK.whole {w : World} {b : Nat} (h : FieldK w b 255) (hb : b < w.heap.size) : FieldAt w b := by
  refine ⟨fun i hi => ?_, fun a ha => ?_, hb⟩
  · rw [h.powers i hi, if_pos hi]
  · rw [h.places a ha]
    by_cases e : a = 0
    · subst e; simp [lg_zero]
    · rw [if_pos ⟨e, lg_lt ha⟩]

set_option maxHeartbeats 1000000 in
set_option maxRecDepth 100000 in
theorem new_any (w : World) :
    Calls Try.prog 10 #[] w fun e w' => e = .returned (.pointer (some ⟨w.heap.size, 0, none⟩)) ∧ FieldAt w' w.heap.size ∧ Own w w' := by
  have hz := zero_field
  go_enter Try.func10, Try.ntmps10
  go_wp2
  clear hz
  go_loopw [8] (fun i wr => ∃ k : Nat, k ≤ 255 ∧ i = .int .i64 k ∧ FieldK wr w.heap.size k ∧ wr.cell? ⟨w.heap.size + 1, 0, none⟩ = some (.pointer (some ⟨w.heap.size, 0, none⟩)) ∧
      wr.cell? ⟨w.heap.size + 1 + 1, 0, none⟩ = some (.int .u8 (pw (k % 255) : Nat)) ∧ Own w wr ∧ w.heap.size + 2 < wr.heap.size)
    (fun i _ => 255 - (intOf i).toNat)
  case atStart =>
    refine ⟨0, by omega, rfl, start, ?_, ?_, (((Own.refl w).alloc _ _).alloc _ _).alloc _ _, by simp⟩
    · rw [World.cell?_alloc_past _ _ _ (by simp), World.cell?_alloc_at _ _ _ _ (by simp)]; rfl
    · rw [World.cell?_alloc_at _ _ _ _ (by simp)]; simp [pw_zero]
  case round =>
    obtain ⟨k, hk, rfl, hF, hf, hp, ho, hs⟩ := hrel
    by_cases hlt : k < 255
    · have fz : ∀ b o, w.heap.size ≤ b → wr.frozen? ⟨b, o, none⟩ = false := fun b o h => (ho.frozen _).trans (frozen_past h)
      obtain ⟨R1, R2⟩ := step hlt (by omega : w.heap.size ≠ w.heap.size + 1 + 1) hF hp
      have R := And.intro R1 R2
      have HR : Hid _ := R
      clear R R1 R2
      go_wp2_with (go_at_call 21; go_must (refine (put_any w.heap.size (w.heap.size + 1) (w.heap.size + 1 + 1) k (pw (k % 255)) wr hlt (pw_lt _) (by omega) (by omega) (by omega) hf hp (fz _ _ (by omega)) _ _ (hF.powers k hlt) (hF.places _ (pw_lt _)) (fz _ _ (by omega)) (fz _ _ (by omega))).mono ?_); rintro e w' ⟨rfl, rfl⟩)
      go_roundw
      case rel =>
        refine ⟨k + 1, by omega, by go_num, HR.out.1, ?_, HR.out.2, (((ho.setCell (p := ⟨w.heap.size, k, none⟩) (Nat.le_refl _) _).setCell (p := ⟨w.heap.size, 255 + pw (k % 255), none⟩) (Nat.le_refl _) _).setCell (p := ⟨w.heap.size + 1 + 1, 0, none⟩) (by show _ ≤ w.heap.size + 1 + 1; omega) _).drew.drew, ?_⟩
        · simp only [World.cell?_drew]
          rw [cell_set (cell_set (cell_set hf))]
          simp
        · simp; omega
      case measure => simp [intOf]; omega
    · have e : k = 255 := by omega
      subst e
      go_wp2
      go_ret
      exact ⟨rfl, hF.whole (by omega), ho⟩

end Go.Proofs.Ytehphjapahdalaa.Gf
