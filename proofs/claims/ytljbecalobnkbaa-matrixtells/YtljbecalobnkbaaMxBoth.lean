/-
  THE PROGRAM's ANSWERS AND THE DOCUMENT's ARE ONE: of each call of layer 3, whatever its arguments, one matrix and one error that both answer.
-/
import Derived.Test.YtljbecalobnkbaaMxCode
import Derived.Test.YtljbecalobnkbaaMxRIdent
import Derived.Test.YtljbecalobnkbaaMxRPick
import Derived.Test.YtljbecalobnkbaaMxRInvC
namespace Go.Proofs.Ytljbecalobnkbaa.Gf
set_option linter.unusedVariables false
open Go.RowKit

/-- What a call that answers a matrix and an error leaves. -/
def MakesX (w : World) (r c : Int) (L : List UInt8) (x : Int) (e : Ending) (w' : World) : Prop := ∃ vs, e = .returned (.tuple #[.agg #[.int .i64 r, .int .i64 c, vs], .int .i64 x]) ∧ Rd w' vs L ∧ Below w.heap.size w w'
theorem MakesM.x {w w' : World} {r c : Nat} {F : Mx} {e : Ending} (h : MakesM w r c F e w') : MakesX w r c (flat r c F) 0 e w' := h
theorem MakesErr.x {w w' : World} {x : Int} {e : Ending} (h : MakesErr w x e w') : MakesX w 0 0 [] x e w' := h
theorem both_mul (r c r' c' : Int) (A B : List UInt8) : ∃ R C L X, (∀ (b : Nat) (va vb : Value) (w : World), FieldAt w b → RdM w va r c A → RdM w vb r' c' B → Calls Try.prog 12 #[.pointer (some ⟨b, 0, none⟩), va, vb] w (MakesX w R C L X)) ∧
    (∀ (va vb : Value) (w : World), RdM w va r c A → RdM w vb r' c' B → Calls Try.prog 13 #[va, vb] w (MakesX w R C L X)) := by
  by_cases h : OkM r c A ∧ OkM r' c' B ∧ c = r'
  · obtain ⟨h1, h2, h3⟩ := h
    obtain ⟨r1, c1, rfl, rfl, _⟩ := h1.nat
    obtain ⟨r2, c2, rfl, rfl, _⟩ := h2.nat
    obtain rfl : c1 = r2 := by exact_mod_cast h3
    exact ⟨_, _, _, _, fun b va vb w hF ha hb => (mmul_ok hF ha hb h1 h2).mono fun e w' h => h.x, fun va vb w ha hb => (rmulm_ok ha hb h1 h2).mono fun e w' h => h.x⟩
  · exact ⟨_, _, _, _, fun b va vb w hF ha hb => (mmul_bad hF ha hb h).mono fun e w' h => h.x, fun va vb w ha hb => (rmulm_bad ha hb h).mono fun e w' h => h.x⟩
theorem both_inv (r c : Int) (A : List UInt8) : ∃ R C L X, (∀ (b : Nat) (va : Value) (w : World), FieldAt w b → RdM w va r c A → Calls Try.prog 14 #[.pointer (some ⟨b, 0, none⟩), va] w (MakesX w R C L X)) ∧
    (∀ (va : Value) (w : World), RdM w va r c A → Calls Try.prog 15 #[va] w (MakesX w R C L X)) := by
  by_cases h : OkM r c A ∧ r = c
  · obtain ⟨h1, h3⟩ := h
    obtain ⟨r1, c1, rfl, rfl, _⟩ := h1.nat
    obtain rfl : r1 = c1 := by exact_mod_cast h3
    by_cases hv : ∃ V, IsInv r1 (en r1 A) V
    · obtain ⟨V, hV⟩ := hv
      refine ⟨r1, r1, flat r1 r1 V, 0, fun b va w hF ha => (minv_ok hF ha h1).mono ?_, fun va w ha => (rinvm_ok ha h1).mono ?_⟩
      all_goals
        rintro e w' (⟨V', hV', hm⟩ | ⟨hs, _⟩)
        · have hx := hm.x
          rw [flat_congr (fun i j hi hj => hV.unique hV' i j hi hj)] at hx
          exact hx
        · exact (hV.no_sing hs).elim
    · refine ⟨0, 0, [], 31, fun b va w hF ha => (minv_ok hF ha h1).mono ?_, fun va w ha => (rinvm_ok ha h1).mono ?_⟩
      all_goals
        rintro e w' (⟨V', hV', hm⟩ | ⟨_, hm⟩)
        · exact absurd ⟨V', hV'⟩ hv
        · exact hm.x
  · exact ⟨_, _, _, _, fun b va w hF ha => (minv_bad hF ha h).mono fun e w' h => h.x, fun va w ha => (rinvm_bad ha h).mono fun e w' h => h.x⟩
theorem both_pick (r c : Int) (A : List UInt8) (zs : List Int) : ∃ R C L X, (∀ (va vr : Value) (w : World), RdM w va r c A → RdI w vr zs → Calls Try.prog 16 #[va, vr] w (MakesX w R C L X)) ∧
    (∀ (va vr : Value) (w : World), RdM w va r c A → RdI w vr zs → Calls Try.prog 17 #[va, vr] w (MakesX w R C L X)) := by
  by_cases h : OkM r c A ∧ zs.length ≤ 256
  · obtain ⟨h1, h3⟩ := h
    obtain ⟨r1, c1, rfl, rfl, _⟩ := h1.nat
    by_cases hv : AllIn r1 zs
    · refine ⟨zs.length, c1, flat zs.length c1 (pickF c1 A zs), 0, fun va vr w ha hr => (mpick_ok ha hr h1 h3).mono ?_, fun va vr w ha hr => (rpick_ok ha hr h1 h3).mono ?_⟩
      all_goals
        rintro e w' (⟨_, hm⟩ | ⟨hs, _⟩)
        · exact hm.x
        · exact absurd hv hs
    · refine ⟨0, 0, [], 30, fun va vr w ha hr => (mpick_ok ha hr h1 h3).mono ?_, fun va vr w ha hr => (rpick_ok ha hr h1 h3).mono ?_⟩
      all_goals
        rintro e w' (⟨hs, _⟩ | ⟨_, hm⟩)
        · exact absurd hs hv
        · exact hm.x
  · exact ⟨_, _, _, _, fun va vr w ha hr => (mpick_bad ha hr h).mono fun e w' h => h.x, fun va vr w ha hr => (rpick_bad ha hr h).mono fun e w' h => h.x⟩
theorem both_ident (n : Int) : ∃ R C L X, (∀ (w : World), Calls Try.prog 18 #[.int .i64 n] w (MakesX w R C L X)) ∧ (∀ (w : World), Calls Try.prog 19 #[.int .i64 n] w (MakesX w R C L X)) := by
  by_cases h : 0 ≤ n ∧ n ≤ 256
  · obtain ⟨m, rfl⟩ := Int.eq_ofNat_of_zero_le h.1
    exact ⟨_, _, _, _, fun w => (mident_any m w (by omega) rfl).mono fun e w' h => h.x, fun w => (rident_any m w (by omega) rfl).mono fun e w' h => h.x⟩
  · exact ⟨_, _, _, _, fun w => (mident_bad n w h).mono fun e w' h => h.x, fun w => (rident_bad n w h).mono fun e w' h => h.x⟩
theorem both_check (r c : Int) (A : List UInt8) : ∃ X : Int, (∀ (v : Value) (w : World), RdM w v r c A → Calls Try.prog 21 #[v] w fun e w' => e = .returned (.int .i64 X) ∧ Below w.heap.size w w') ∧ (∀ (v : Value) (w : World), RdM w v r c A → Calls Try.prog 22 #[v] w fun e w' => e = .returned (.int .i64 X) ∧ Below w.heap.size w w') := by
  by_cases h : OkM r c A
  · exact ⟨0, fun v w hv => mcheck_ok hv h, fun v w hv => rcheck_ok hv h⟩
  · exact ⟨30, fun v w hv => mcheck_bad hv h, fun v w hv => rcheck_bad hv h⟩

end Go.Proofs.Ytljbecalobnkbaa.Gf
