/-
  'bytes.Equal' BY CONTRACT, AND 'slices.EqualFunc' OF IT.
-/
import Derived.Test.YtehphjapahdalaaBkEven
import Derived.Laws.BytesArg
namespace Go.Proofs.Ytehphjapahdalaa.Gf
set_option linter.unusedVariables false
set_option linter.unusedSimpArgs false
open Go.RowKit

theorem conv_str {w : World} {v : Value} {p : List UInt8} (h : Rd w v p) : Sem.run Try.prog (convert 35 9 v) w = .ok (.string ⟨p.toArray⟩) w := by
  rcases h with ⟨a, c, rfl, rfl, _⟩ | ⟨b, off, cap, hp0, rfl, h1, h2, h3, hpc⟩
  · rcases a with _ | a
    · kernel_rfl
    · kernel_rfl
  · rw [run_convert_bytes_arg (P := Try.prog) w 35 5 Try.underlying35 Try.underlying5 b off p.length cap (p.map fun x => ((x.toNat : Nat) : Int)) (by simp) (fun i hi => by rw [hpc i hi, co_lt hi]; simp [List.getD, hi]) 9 Try.underlying9]
    unfold strOfNums
    congr 4
    rw [List.map_map]
    conv => rhs; rw [← List.map_id p]
    apply List.map_congr_left
    intro b _
    simp

set_option maxRecDepth 100000 in
set_option maxHeartbeats 1000000 in
theorem beq_any {va vb : Value} {p q : List UInt8} {w : World} (hp : Rd w va p) (hq : Rd w vb q) : Calls Try.prog 30 #[va, vb] w fun e w' => e = .returned (.bool (sameB p q)) ∧ w' = w := by
  have h1 := conv_str hp
  have h2 := conv_str hq
  obtain ⟨a, c, rfl⟩ := hp.form
  obtain ⟨a', c', rfl⟩ := hq.form
  clear hp hq
  go_enter Try.func30, Try.ntmps30
  go_wp2
  go_ret
  have e : (p == q) = sameB p q := by unfold sameB; rw [Bool.eq_iff_iff]; simp
  exact ⟨congrArg (fun b => Ending.returned (.bool b)) e, rfl⟩

set_option maxRecDepth 100000 in
set_option maxHeartbeats 1000000 in
theorem eqf_any {va vb : Value} {A B : List (List UInt8)} {w : World} (hA : Rs w va A) (hB : Rs w vb B) : Calls Try.prog 29 #[va, vb, .func (.func 30) #[] #[]] w fun e w' => e = .returned (.bool (sameL A B)) ∧ w' = w := by
  obtain ⟨a, c, rfl⟩ := hA.form
  obtain ⟨a', c', rfl⟩ := hB.form
  have hl := hA.len
  unfold maxLen at hl
  by_cases hx : A.length = B.length
  · have hb : ((A.length : Int) != (B.length : Int)) = false := by simp [hx]
    have hx' : Hid (A.length = B.length) := hx
    clear hx
    go_enter Try.func29, Try.ntmps29
    go_wp2
    clear hb
    go_loopw [17] (fun i wr => ∃ k : Nat, k ≤ A.length ∧ i = .int .i64 k ∧ Hid (∀ j, j < k → ro A j = ro B j) ∧ wr = w) (fun i _ => A.length - (intOf i).toNat)
    case atStart => exact ⟨0, by omega, rfl, fun j hj => by omega, rfl⟩
    case round =>
      obtain ⟨k, hk, rfl, hs, rfl⟩ := hrel
      by_cases hlt : k < A.length
      · have hltB : k < B.length := by have := hx'.out; omega
        obtain ⟨b, off, xa, xc, rfl, hb, c1, r1⟩ := hA.at hlt
        obtain ⟨b', off', ya, yc, rfl, hb', c0, r0⟩ := hB.at hltB
        have hlt' : (k : Int) < (A.length : Int) := by omega
        have h0' : (k : Int) < (B.length : Int) := by omega
        by_cases e : ro A k = ro B k
        · have hn : sameB (ro A k) (ro B k) = true := sameB_of e
          have HS : Hid (∀ j, j < k + 1 → ro A j = ro B j) := fun j hj => by
            by_cases e2 : j = k
            · rw [e2]; exact e
            · exact hs.out j (by omega)
          clear e hs hA hB
          go_wp2_with fail
          refine (beq_any r1 r0).mono ?_
          rintro e w' ⟨rfl, rfl⟩
          go_wp2
          go_roundw
          case rel => exact ⟨k + 1, by omega, by go_num, HS, by first | rfl | trivial⟩
          case measure => simp [intOf]; omega
        · have hn : sameB (ro A k) (ro B k) = false := decide_eq_false e
          have E : Hid (sameL A B = false) := decide_eq_false fun h => e (by rw [h])
          clear e hs hA hB
          go_wp2_with fail
          refine (beq_any r1 r0).mono ?_
          rintro e w' ⟨rfl, rfl⟩
          go_wp2
          go_ret
          exact ⟨by rw [E.out]; rfl, rfl⟩
      · have E : Hid (sameL A B = true) := decide_eq_true (ro_ext hx'.out fun i hi => hs.out i (by omega))
        have hge : ¬ (k : Int) < (A.length : Int) := by omega
        clear hs hA hB
        go_wp2
        go_ret
        exact ⟨by rw [E.out]; rfl, rfl⟩
  · have hb : ((A.length : Int) != (B.length : Int)) = true := by simp; omega
    have E : Hid (sameL A B = false) := decide_eq_false fun h => hx (by rw [h])
    clear hA hB hx
    go_enter Try.func29, Try.ntmps29
    go_wp2
    go_ret
    exact ⟨by rw [E.out]; rfl, rfl⟩

end Go.Proofs.Ytehphjapahdalaa.Gf
