/-
  THE DOCUMENT's ANSWER FOR LAYER 6 (package aumbryref06) BY CONTRACT: 'Copied'.
-/
import Derived.Test.YtehphjapahdalaaBkRd
namespace Go.Proofs.Ytehphjapahdalaa.Gf
set_option linter.unusedVariables false
set_option linter.unusedSimpArgs false
open Go.RowKit

theorem info_shard : (Try.prog.info? 35).map (fun i => (i.zero, i.size, i.bytes)) = some (some (.slice none 0 0), 1, 24) := by kernel_rfl
theorem take_next {M : List (List UInt8)} {k : Nat} (h : k < M.length) : M.take (k + 1) = M.take k ++ [ro M k] := by
  rw [List.take_add_one, ro_some h]; rfl

set_option maxRecDepth 100000 in
set_option maxHeartbeats 2000000 in
theorem rcop_any {v : Value} {L : List (List UInt8)} {w : World} (h : Rs w v L) (hS : Small L) : Calls Try.prog 20 #[v] w fun e w' => ∃ v', e = .returned v' ∧ Os w' w.heap.size 35 5 v' L ∧ Below w.heap.size w w' := by
  obtain ⟨i0, hi, hz0, hz1, hz2⟩ := info_parts info_u8
  obtain ⟨i1, hj, hy0, hy1, hy2⟩ := info_parts info_shard
  obtain ⟨a, c, rfl⟩ := h.form
  have hl := hS.1
  go_enter Try.func20, Try.ntmps20
  go_wp2
  go_loopw [3, 4] (fun o i wr => ∃ k : Nat, k ≤ L.length ∧ i = .int .i64 k ∧ Os wr w.heap.size 35 5 o (L.take k) ∧ Below w.heap.size w wr) (fun _ i _ => L.length - (intOf i).toNat)
  case atStart => exact ⟨0, by omega, rfl, Os.nil _ _ _ _, Below.refl _ _⟩
  case round =>
    obtain ⟨k, hk, rfl, hO, hB⟩ := hrel
    have hsz := hB.size
    by_cases hlt : k < L.length
    · obtain ⟨b, off, xa, xc, rfl, hb, c1, r1⟩ := (h.below hB).at hlt
      have hlt' : (k : Int) < (L.length : Int) := by omega
      have hln := hS.2 k
      obtain ⟨p, hp⟩ : ∃ p, Hid (p = ro L k) := ⟨_, rfl⟩
      have HT : Hid (L.take (k + 1) = L.take k ++ [p]) := by show _ = _; rw [hp.out]; exact take_next hlt
      have HL : Hid ((L.take k).length = k) := by show _ = _; rw [List.length_take]; omega
      rw [← hp.out] at c1 r1 hln
      obtain ⟨av, cv, ev⟩ := hO.form
      rw [HL.out] at ev
      subst ev
      have hE : (wr.alloc (.cells #[] 5)).ownsRow w.heap.size 5 1 (.slice (some ⟨wr.heap.size, 0, none⟩) 0 0) 0 [] := World.ownsRow_made wr #[] 0 hsz (Nat.zero_le _) rfl
      have hA1 : Below wr.heap.size wr (wr.alloc (.cells #[] 5)) := (Below.refl _ _).alloc (Nat.le_refl _) _
      have HR2 : Hid _ := r1.below hA1
      clear h hS r1 hp
      go_wp2_with (first
        | (at_builtin; refine wpList_append_rd2 _ rfl (.tmp 12) (.tmp 16) 35 rfl w.heap.size 5 i0 Try.underlying35 hi hz0 hz1 hz2 (.slice (some ⟨wr.heap.size, 0, none⟩) 0 0) 0 [] rfl hE _ _ rfl HR2.out (by omega) (by simp; omega) ?_; intro x w5 hx5 hg5 hb5; rw [List.nil_append, Nat.zero_add] at hx5; obtain ⟨ax, cx, ex⟩ := owns_form hx5; subst ex)
        | (at_builtin; go_loud (refine wpList_append_os rfl (.tmp 11) (.tmp 18) 23 rfl w.heap.size 35 i1 Try.underlying23 hj hy0 hy1 hy2 5 (.slice av k cv) (L.take k) rfl hO (hA1.trans (by exact (Below.refl _ _).grown hg5 (by simp) (fun q hq => by cases hq; exact Nat.le_refl _))) (.slice ax p.length cx) p hx5 (by intro q hq; rcases hb5 with e | e <;> (rw [e] at hq; cases hq; simp)) _ 1 rfl (by rw [HL.out]; omega) hsz ?_); intro v' w6 hv6 hb6 _ _))
      rw [← HT.out] at hv6
      have HB : Hid (Below w.heap.size w w6) := hB.trans hb6
      have HO : Hid (Os w6 w.heap.size 35 5 v' (L.take (k + 1))) := hv6
      clear hB hb6 hv6 hO hx5 hg5 hb5 hE HR2 hA1 c1
      go_roundw
      case rel => exact ⟨k + 1, by omega, by go_num, HO.out, HB.out⟩
      case measure => simp [intOf]; omega
    · have e : k = L.length := by omega
      have hge : ¬ (k : Int) < (L.length : Int) := by omega
      rw [e, List.take_length] at hO
      clear h hS e
      go_wp2
      go_ret
      exact ⟨_, rfl, hO, hB⟩

end Go.Proofs.Ytehphjapahdalaa.Gf
