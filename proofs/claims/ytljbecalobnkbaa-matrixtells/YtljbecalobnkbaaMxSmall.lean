/-
  A CALLEE OF THE STATEMENTS OF LAYER 3 BY CONTRACT: 'Small'.
-/
import Derived.Test.YtljbecalobnkbaaMxRCheck
namespace Go.Proofs.Ytljbecalobnkbaa.Gf
set_option linter.unusedVariables false
set_option linter.unusedSimpArgs false
open Go.RowKit

def SmallM (r c : Int) (A : List UInt8) : Prop := A.length ≤ 300 ∧ (OkM r c A → r ≤ 8 ∧ c ≤ 8)

set_option maxRecDepth 100000 in
set_option maxHeartbeats 1000000 in
theorem small_yes {v : Value} {r c : Int} {A : List UInt8} {w : World} (h : RdM w v r c A) (hs : SmallM r c A) :
    Calls Try.prog 11 #[v] w fun e w' => e = .returned (.bool true) ∧ Below w.heap.size w w' := by
  obtain ⟨vs, rfl, hr⟩ := h
  obtain ⟨a, cap, rfl⟩ := hr.form
  obtain ⟨s1, s2⟩ := hs
  have s3 : ¬ (A.length : Int) > 300 := by omega
  by_cases hok : OkM r c A
  · obtain ⟨s4, s5⟩ := s2 hok
    go_enter Try.func11, Try.ntmps11
    go_wp2_with fail
    refine (rcheck_ok ⟨_, rfl, hr.below (by repeat (first | exact Below.refl _ _ | apply below_lit))⟩ hok).mono ?_
    rintro e w2 ⟨rfl, b2⟩
    have X1 : Box w2 w.heap.size r c (.slice a A.length cap) := Below.box b2 (by simp <;> omega) (Box.new w r c _ _)
    have B2 : Below w.heap.size w w2 := Below.next (by repeat (first | exact Below.refl _ _ | apply below_lit)) b2
    have x0 := X1.c0
    have x1 := X1.c1
    have k1 : decide (r ≤ 8) = true := decide_eq_true s4
    have k2 : decide (c ≤ 8) = true := decide_eq_true s5
    clear b2
    go_wp2
    go_ret
    exact ⟨rfl, B2⟩
  · go_enter Try.func11, Try.ntmps11
    go_wp2_with fail
    refine (rcheck_bad ⟨_, rfl, hr.below (by repeat (first | exact Below.refl _ _ | apply below_lit))⟩ hok).mono ?_
    rintro e w2 ⟨rfl, b2⟩
    have B2 : Below w.heap.size w w2 := Below.next (by repeat (first | exact Below.refl _ _ | apply below_lit)) b2
    clear b2
    go_wp2
    go_ret
    exact ⟨rfl, B2⟩

set_option maxRecDepth 100000 in
set_option maxHeartbeats 1000000 in
theorem small_no {v : Value} {r c : Int} {A : List UInt8} {w : World} (h : RdM w v r c A) (hs : ¬ SmallM r c A) :
    Calls Try.prog 11 #[v] w fun e w' => e = .returned (.bool false) ∧ Below w.heap.size w w' := by
  obtain ⟨vs, rfl, hr⟩ := h
  obtain ⟨a, cap, rfl⟩ := hr.form
  by_cases s1 : A.length ≤ 300
  · have s2 : ¬ (OkM r c A → r ≤ 8 ∧ c ≤ 8) := fun h => hs ⟨s1, h⟩
    have hok : OkM r c A := Classical.byContradiction fun h => s2 fun h' => absurd h' h
    have s4 : ¬ (r ≤ 8 ∧ c ≤ 8) := fun h => s2 fun _ => h
    clear s2 hs
    have s3 : ¬ (A.length : Int) > 300 := by omega
    go_enter Try.func11, Try.ntmps11
    go_wp2_with fail
    refine (rcheck_ok ⟨_, rfl, hr.below (by repeat (first | exact Below.refl _ _ | apply below_lit))⟩ hok).mono ?_
    rintro e w2 ⟨rfl, b2⟩
    have X1 : Box w2 w.heap.size r c (.slice a A.length cap) := Below.box b2 (by simp <;> omega) (Box.new w r c _ _)
    have B2 : Below w.heap.size w w2 := Below.next (by repeat (first | exact Below.refl _ _ | apply below_lit)) b2
    have x0 := X1.c0
    have x1 := X1.c1
    clear b2
    by_cases s5 : r ≤ 8
    · have s6 : ¬ c ≤ 8 := fun h => s4 ⟨s5, h⟩
      have k1 : decide (r ≤ 8) = true := decide_eq_true s5
      have k2 : decide (c ≤ 8) = false := decide_eq_false s6
      clear s4 s5 s6
      go_wp2
      go_ret
      exact ⟨rfl, B2⟩
    · have k1 : decide (r ≤ 8) = false := decide_eq_false s5
      clear s4 s5
      go_wp2
      go_ret
      exact ⟨rfl, B2⟩
  · have s3 : (A.length : Int) > 300 := by omega
    clear hs
    go_enter Try.func11, Try.ntmps11
    go_wp2
    go_ret
    exact ⟨rfl, by repeat (first | exact Below.refl _ _ | apply below_lit)⟩

end Go.Proofs.Ytljbecalobnkbaa.Gf
