/-
  THE STATEMENTS' HEAD OF LAYER 4 BY CONTRACT: 'awake' answers true.
-/
import Derived.Test.YtpplniahjgdknaaCrCode
namespace Go.Proofs.Ytpplniahjgdknaa.Gf
set_option linter.unusedVariables false
set_option linter.unusedSimpArgs false
open Go.RowKit

theorem cr_aw0 : more 0 [] = 0 := by decide +kernel
theorem cr_aw1 : more 0 [49, 50, 51, 52, 53, 54, 55, 56, 57] = 3808858755 := by decide +kernel
theorem cr_aw2 : more (more 0 [49, 50, 51, 52]) [53, 54, 55, 56, 57] = 3808858755 := by decide +kernel
theorem Below.step {w w1 w2 : World} (h : Below w.heap.size w w1) (k : Below w1.heap.size w1 w2) : Below w.heap.size w w2 := h.trans (k.mono h.size)
theorem pushed_at {α : Type} (a : Array α) (x : α) : (a.push x)[a.size]? = some x := by rw [Array.getElem?_push]; simp
theorem push_modify {α : Type} (a : Array α) (x : α) (f : α → α) : (a.push x).modify a.size f = a.push (f x) := by
  refine Array.ext_getElem? fun i => ?_
  rw [Array.getElem?_modify, Array.getElem?_push, Array.getElem?_push]
  by_cases h : a.size = i
  · rw [if_pos h, if_pos h.symm, if_pos h.symm]; rfl
  · rw [if_neg h, if_neg (fun e => h e.symm), if_neg (fun e => h e.symm)]
/-- a literal's bytes, told to be a slice of bytes made of a string: the place behind them is marked -/
theorem conv_bytes (w : World) (cs : Array Value) (n c : Nat) : Sem.run Try.prog (convert 23 23 (.slice (some ⟨w.heap.size, 0, none⟩) n c)) (w.alloc (.cells cs 5)) = .ok (.slice (some ⟨w.heap.size, 0, none⟩) n c) (w.alloc (.cells cs 5 (cs.size, cs.size + 1))) := by
  have h0 : (w.alloc (.cells cs 5)).heap[w.heap.size]? = some (.cells cs 5) := pushed_at _ _
  have hsh : (w.alloc (.cells cs 5)).shape? w.heap.size = some (5, cs.size) := by unfold World.shape?; rw [h0]
  have hfr : (w.alloc (.cells cs 5)).freeze ⟨w.heap.size, cs.size, none⟩ 1 = w.alloc (.cells cs 5 (cs.size, cs.size + 1)) := by
    unfold World.freeze
    rw [if_neg (by decide)]
    exact congrArg (fun h => ({ w with heap := h } : World)) (push_modify _ _ _)
  simp [convert, run_underlying Try.underlying23, run_underlying Try.underlying5, markStringish, hsh]
  exact hfr
theorem cell_marked (w : World) (cs : Array Value) (e : TypeId) (fr : Nat × Nat) (j : Nat) : (w.alloc (.cells cs e fr)).cell? ⟨w.heap.size, j, none⟩ = (w.alloc (.cells cs e)).cell? ⟨w.heap.size, j, none⟩ := by
  have h1 : (w.alloc (.cells cs e fr)).heap[w.heap.size]? = some (.cells cs e fr) := pushed_at _ _
  have h2 : (w.alloc (.cells cs e)).heap[w.heap.size]? = some (.cells cs e) := pushed_at _ _
  unfold World.cell?
  rw [h1, h2]
theorem rd_marked {w : World} {cs : Array Value} {e n : Nat} {fr : Nat × Nat} (p : List UInt8) (hn : p.length = n) (hs : cs.toList = p.map vb) (hl : n ≤ 1000000) : Rd (w.alloc (.cells cs e fr)) (.slice (some ⟨w.heap.size, 0, none⟩) n n) p := by
  have h := rd_lit (w := w) (e := e) p hn hs hl
  rcases h with h | ⟨b, o, c, h0, h1, h2, h3, h4, h5⟩
  · exact Or.inl h
  · refine Or.inr ⟨b, o, c, h0, h1, h2, h3, by simpa using h4, fun i hi => ?_⟩
    simp at h1
    obtain ⟨⟨rfl, rfl⟩, _⟩ := h1
    rw [cell_marked]
    exact h5 i hi
theorem rd_nil0 {w : World} : Rd w (.slice none 0 0) [] := Or.inl ⟨none, 0, rfl, rfl, Nat.zero_le _, fun _ => rfl⟩

set_option maxRecDepth 100000 in
set_option maxHeartbeats 2000000 in
theorem awake4_any (w : World) : Calls Try.prog 8 #[] w fun e w' => e = .returned (.bool true) ∧ Below w.heap.size w w' := by
  have hcv := conv_bytes
  go_enter Try.func8, Try.ntmps8
  go_wp2_with fail
  refine (csum_any rd_nil0 (by decide)).mono ?_
  rintro e u1 ⟨rfl, b1⟩
  rw [cr_aw0]
  go_wp2_with fail
  refine (csum_any (rd_marked [49, 50, 51, 52, 53, 54, 55, 56, 57] rfl rfl (by decide)) (by decide)).mono ?_
  rintro e u2 ⟨rfl, b2⟩
  rw [cr_aw1]
  have B2 : Below w.heap.size w u2 := Below.step (below_lit b1 _) b2
  clear b1 b2
  go_wp2_with fail
  refine (csum_any (rd_marked [49, 50, 51, 52] rfl rfl (by decide)) (by decide)).mono ?_
  rintro e u3 ⟨rfl, b3⟩
  have B3 : Below w.heap.size w u3 := Below.step (below_lit B2 _) b3
  clear B2 b3
  go_wp2_with fail
  refine (cmore_any rfl (more_lt _ _) (rd_marked [53, 54, 55, 56, 57] rfl rfl (by decide)) (by decide)).mono ?_
  rintro e u4 ⟨rfl, b4⟩
  rw [cr_aw2]
  have B4 : Below w.heap.size w u4 := Below.step (below_lit B3 _) b4
  clear B3 b4
  go_wp2
  go_ret
  exact ⟨rfl, B4⟩

end Go.Proofs.Ytpplniahjgdknaa.Gf
