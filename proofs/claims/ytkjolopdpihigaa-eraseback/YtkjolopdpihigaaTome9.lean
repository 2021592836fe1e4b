/- TEXTS JOINED: BkFew. -/
import Derived.Test.YtkjolopdpihigaaTome3
import Derived.Test.YtkjolopdpihigaaTome5
/-
  THE STATEMENTS' 'Few' BY CONTRACT.
-/

namespace Go.Proofs.Ytkjolopdpihigaa.Gf
set_option linter.unusedVariables false
set_option linter.unusedSimpArgs false
open Go.RowKit

set_option maxRecDepth 100000 in
set_option maxHeartbeats 1000000 in
theorem few_any (k m : Int) {v : Value} {L : List (List UInt8)} {w : World} (h : Rs w v L) : Calls Try.prog 11 #[.int .i64 k, .int .i64 m, v] w fun e w' => ∃ t, e = .returned (.bool t) ∧ (t = true → Small L) ∧ Below w.heap.size w w' := by
  obtain ⟨a, c, rfl⟩ := h.form
  have hl := h.len
  unfold maxLen at hl
  by_cases hx : L.length ≤ 32
  · have hx' : ¬ (L.length : Int) > 32 := by omega
    go_enter Try.func11, Try.ntmps11
    go_wp2
    go_loopw [7] (fun i wr => ∃ c : Nat, c ≤ L.length ∧ i = .int .i64 c ∧ Hid (∀ j, j < c → (ro L j).length ≤ 30) ∧ wr = w) (fun i _ => L.length - (intOf i).toNat)
    case atStart => exact ⟨0, by omega, rfl, fun j hj => by omega, rfl⟩
    case round =>
      obtain ⟨c, hc, rfl, hs, rfl⟩ := hrel
      by_cases hlt : c < L.length
      · obtain ⟨b, off, xa, xc, rfl, hb, c1, r1⟩ := h.at hlt
        have hlt' : (c : Int) < (L.length : Int) := by omega
        have hln := r1.len
        unfold maxLen at hln
        by_cases hn : (ro L c).length ≤ 30
        · have hn' : ¬ ((ro L c).length : Int) > 30 := by omega
          have HS : Hid (∀ j, j < c + 1 → (ro L j).length ≤ 30) := fun j hj => by
            by_cases e2 : j = c
            · rw [e2]; exact hn
            · exact hs.out j (by omega)
          clear hs h r1 hn
          go_wp2
          go_roundw
          case rel => exact ⟨c + 1, by omega, by go_num, HS, by first | rfl | trivial⟩
          case measure => simp [intOf]; omega
        · have hn' : ((ro L c).length : Int) > 30 := by omega
          clear hs h r1 hn
          go_wp2
          go_ret
          exact ⟨false, rfl, nofun, Below.refl _ _⟩
      · have hge : ¬ (c : Int) < (L.length : Int) := by omega
        have HS : Hid (Small L) := ⟨by omega, fun i => by
          by_cases e : i < L.length
          · have := hs.out i (by omega); omega
          · rw [ro_ge (by omega)]; simp⟩
        clear hs h
        by_cases ok : OkC k m
        · have gw : IntKind.i64.wrap (k + m) = k + m := by rw [IntKind.wrap_i64]; have := ok.1; have := ok.2.1; have := ok.2.2; omega
          go_wp2_with fail
          refine (ccheck_ok _ ok).mono ?_
          rintro e w2 ⟨rfl, b2⟩
          clear ok
          go_wp2
          go_ret
          exact ⟨_, rfl, fun _ => HS.out, b2⟩
        · go_wp2_with fail
          refine (ccheck_bad _ ok).mono ?_
          rintro e w2 ⟨rfl, b2⟩
          clear ok
          go_wp2
          go_ret
          exact ⟨_, rfl, fun _ => HS.out, b2⟩
  · have hx' : (L.length : Int) > 32 := by omega
    clear h hx
    go_enter Try.func11, Try.ntmps11
    go_wp2
    go_ret
    exact ⟨false, rfl, nofun, Below.refl _ _⟩

end Go.Proofs.Ytkjolopdpihigaa.Gf

