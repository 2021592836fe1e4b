/- TEXTS JOINED: VaApp, LyAll. -/
import Derived.Test.YthicjoicfckmpaaTome2
import Derived.Maps.AppendAt
/-
  ONE VALUE APPENDED TO A ROW OF THE CALL's OWN. No program's function is named here.
-/

namespace Go.Proofs.Ythicjoicfckmpaa.Gf
set_option linter.unusedVariables false
set_option linter.unusedSimpArgs false
open Go.RowKit

/-- 'append(s, x)': one value of one cell, laid as a list of one -/
theorem wpList_append_v {P : Program} (w : World) {ops : Array Oper} {rest : List Oper} {o : Oper} {a : Act} {Q : Exit → Act → World → Prop} (hgd : o.guard = none) (s x : Operand) (t : TypeId)
    (ho : o.op = .call { callee := .builtin .append, args := #[s, x], argTypes := #[t, t] })
    (base : Nat) (e : TypeId) (i : TypeInfo) (z : Value) (by_ : Nat) (ht : P.underlying t = some (.slice e)) (hi : P.info? e = some i) (hz : i.zero = some z) (hsize : i.size = 1) (hby : i.bytes = by_) (hzc : z.cells.size = 1) (hb24 : by_ ≤ 24)
    (v : Value) (n : Nat) (xs : List Value) (hs : a.eval s = v) (hown : w.ownsRow base e 1 v n xs) (b c : Nat) (u : Value) (hx : a.eval x = .slice (some ⟨b, 0, none⟩) 1 c) (hr : w.cell? ⟨b, 0, none⟩ = some u) (hu : u.oneCell' = true) (hl : n ≤ 100000) (hbase : base ≤ w.heap.size)
    (h : ∀ v' w', w'.ownsRow base e 1 v' (n + 1) (xs ++ [u]) → w.grownBy w' v.ownBlock → (v'.ownBlock = v.ownBlock ∨ v'.ownBlock = some w.heap.size) → wpList P ops Q rest (a.put o.dst v') w') : wpList P ops Q (o :: rest) a w := by
  refine wpList_plain hgd fun K hK => ?_
  have hb6 : (n + 1) * by_ ≤ 140737488355328 := Nat.le_trans (Nat.mul_le_mul (show n + 1 ≤ 100001 by omega) hb24) (by decide)
  obtain ⟨v', w', hrun, h2, h3, _, h5⟩ := run_append_own_at (P := P) w base t o.type e i z 1 by_ ht hi hz hsize hby hzc (by decide) v n xs hown ⟨b, 0, none⟩ 1 c [u] rfl (by intro j y hj; rw [add_at, Nat.zero_add]; rcases j with _ | j <;> simp at hj; subst hj; exact hr) (by intro y hy; simp at hy; rw [hy]; exact hu) (by unfold maxLen; omega) hb6 hbase
  unfold Oper.wp execOp
  simp only [ho, resolve, invoke, builtin, Sem.run_bind, Sem.run_pure, Result.andThen_ok, List.map_toArray, List.map_cons, List.map_nil, hs, hx, hrun]
  exact hK _ _ (h v' w' h2 h3 h5)
end Go.Proofs.Ythicjoicfckmpaa.Gf

/-
  A ROW OF PLACES THAT IS APPENDED TO, BESIDE A ROW OF BOOLS (layer 14): 'Allp'. No program's function is named here.
-/

namespace Go.Proofs.Ythicjoicfckmpaa.Gf
set_option linter.unusedVariables false
set_option linter.unusedSimpArgs false
open Go.RowKit

theorem info_intL : (Try.prog.info? 3).map (fun i => (i.zero, i.size, i.bytes)) = some (some (.int .i64 0), 1, 8) := by kernel_rfl
/-- 1, 2, 3 .. -/
def incL (q : Nat) : List Value := (List.range q).map fun i => .int .i64 ((i + 1 : Nat) : Int)
theorem incL_succ (q : Nat) : incL q ++ [.int .i64 ((q + 1 : Nat) : Int)] = incL (q + 1) := by simp [incL, List.range_succ]
theorem incL_at {q i : Nat} (h : i < q) : (incL q)[i]? = some (.int .i64 ((i + 1 : Nat) : Int)) := by simp [incL, h]
structure Allp (W0 wr : World) (gu : Nat) (v : Value) (q : Nat) : Prop where
  row : wr.ownsRow W0.heap.size 3 1 v q (incL q)
  used : wr.rowIs gu 4 1000 (fun j => .bool (decide (j = 0)))
  ne : ∀ k, v.ownBlock = some k → k ≠ gu
  b : Below W0.heap.size W0 wr
section
variable {W0 wr w2 : World} {gu q : Nat} {v v' : Value}
theorem Allp.start {u : World} (hr : u.rowIs gu 4 1000 (fun _ => .bool false)) (hb : Below W0.heap.size W0 u) (hg : W0.heap.size ≤ gu) : Allp W0 (u.setCell ⟨gu, 0, none⟩ (.bool true)) gu (.slice none 0 0) 0 :=
  ⟨⟨rfl, Or.inl ⟨rfl, rfl⟩⟩, (hr.set 0 (.bool true)).congr fun j hj => by
    by_cases e : j = 0
    · rw [if_pos e, decide_eq_true e]
    · rw [if_neg e, decide_eq_false e], (fun k h => by cases h), hb.setCell hg _⟩
theorem Allp.below (h : Allp W0 wr gu v q) (hb : Below wr.heap.size wr w2) : Allp W0 w2 gu v q := ⟨owns_later h.row hb, h.used.of_block (hb.block gu h.used.lt), h.ne, h.b.stepL hb h.b.size⟩
theorem Allp.push (h : Allp W0 wr gu v q) {x : Int} (hx : x = ((q + 1 : Nat) : Int)) (hr : w2.ownsRow W0.heap.size 3 1 v' (q + 1) (incL q ++ [.int .i64 x])) (g : wr.grownBy w2 v.ownBlock) (e : v'.ownBlock = v.ownBlock ∨ v'.ownBlock = some wr.heap.size) : Allp W0 w2 gu v' (q + 1) := by
  rw [hx, incL_succ] at hr
  refine ⟨hr, h.used.of_block (g.block gu h.used.lt (fun e2 => h.ne gu e2.symm rfl)), fun k hk => ?_, h.b.grown g h.b.size (fun k hk => (World.ownsRow.lt h.row k hk).1)⟩
  rcases e with e | e
  · rw [e] at hk; exact h.ne k hk
  · rw [e] at hk; cases hk; have := h.used.lt; omega
theorem Allp.form (h : Allp W0 wr gu v q) : ∃ a c, v = .slice a q c := by
  obtain ⟨_, ⟨h1, h2⟩ | ⟨g, cap, cur, hv, _⟩⟩ := h.row
  · exact ⟨none, 0, by rw [h1, h2]⟩
  · exact ⟨_, _, hv⟩
theorem Allp.at (h : Allp W0 wr gu v q) (hq : 0 < q) : ∃ g c, v = .slice (some ⟨g, 0, none⟩) q c ∧ g ≠ gu ∧ g < wr.heap.size ∧ ∀ i, i < q → wr.cell? ⟨g, i, none⟩ = some (.int .i64 ((i + 1 : Nat) : Int)) := by
  have hrow := h.row
  obtain ⟨_, ⟨h1, h2⟩ | ⟨g, cap, cur, hv, hr⟩⟩ := h.row
  · omega
  · subst hv
    refine ⟨g, cap, rfl, h.ne g rfl, (World.ownsRow.lt hrow g rfl).2, fun i hi => ?_⟩
    rw [World.ownsRow.cellAt hrow i (by omega)]
    exact incL_at hi
end
end Go.Proofs.Ythicjoicfckmpaa.Gf

