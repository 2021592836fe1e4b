/-
  THE HEAD OF ALL STATEMENTS OF LAYER 1, 'awake', BY CONTRACT: it answers true, and nothing that was there has turned.
-/
import Derived.Test.YtniihlgbpncbgaaGfCalls
namespace Go.Proofs.Ytniihlgbpncbgaa.Gf
set_option linter.unusedVariables false
open Go.RowKit

set_option maxRecDepth 100000 in
set_option maxHeartbeats 1000000 in
theorem awake_any (w : World) :
    Calls Try.prog 9 #[] w fun e w' => e = .returned (.bool true) ∧ Own w w' := by
  have e1 : powV 2 (-1) = 142 := by kernel_rfl
  have e2 : powE 2 (-1) = 0 := by kernel_rfl
  have e4 : powE 0 (-1) = 10 := by kernel_rfl
  have e5 : powV 2 8 = 29 := by kernel_rfl
  have e6 : powE 2 8 = 0 := by kernel_rfl
  have e7 : lg 29 = 8 := by kernel_rfl
  have e10 : zE 29 = 0 := by kernel_rfl
  have e8 : mulS 2 128 = 29 := by kernel_rfl
  have e9 : mulS 3 7 = 9 := by kernel_rfl
  go_enter Try.func9, Try.ntmps9
  go_wp2_with fail
  refine (new_any _).mono ?_
  rintro e w1 ⟨rfl, hF, hO⟩
  go_wp2_with fail
  refine (inv_at hF 2 rfl (by omega)).mono ?_
  rintro e w' ⟨rfl, nd1, rfl⟩
  go_wp2_with fail
  refine (inv_at (hF.drewN _) 0 rfl (by omega)).mono ?_
  rintro e w' ⟨rfl, nd2, rfl⟩
  go_wp2_with fail
  refine (pow_at (hF.drewN _) 2 8 rfl (by omega) (by omega) (by omega)).mono ?_
  rintro e w' ⟨rfl, nd3, rfl⟩
  go_wp2_with fail
  refine (log_at (hF.drewN _) 29 rfl (by omega)).mono ?_
  rintro e w' ⟨rfl, rfl⟩
  go_wp2_with fail
  refine (mul_at (hF.drewN _) 2 128 rfl rfl (by omega) (by omega)).mono ?_
  rintro e w' ⟨rfl, nd4, rfl⟩
  go_wp2_with fail
  refine (mul_at (hF.drewN _) 3 7 rfl rfl (by omega) (by omega)).mono ?_
  rintro e w' ⟨rfl, nd5, rfl⟩
  go_wp2
  go_ret
  exact ⟨rfl, hO.drewN _⟩

end Go.Proofs.Ytniihlgbpncbgaa.Gf
