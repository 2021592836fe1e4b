/- TEXTS JOINED: SyLawM, SyStep. -/
import Derived.Test.YtjgeipmfdmdmkaaTome4
import Derived.Test.YtjgeipmfdmdmkaaTome3
/-
  WHAT LAYER 8's STATEMENTS ASK, as plain mathematics. No program's function is named here.
-/

namespace Go.Proofs.Ytjgeipmfdmdmkaa.Gf
set_option linter.unusedVariables false
set_option linter.unusedSimpArgs false

/-- a word times a number -/
def timesP (z : List UInt8) (c : UInt8) : List UInt8 := upto (fun i => mu (co z i) c) z.length
theorem timesP_length (z : List UInt8) (c : UInt8) : (timesP z c).length = z.length := upto_length _ _
/-- the sum of two words -/
def xorP (a b : List UInt8) : List UInt8 := upto (fun i => co a i ^^^ co b i) a.length
theorem xorP_length (a b : List UInt8) : (xorP a b).length = a.length := upto_length _ _
theorem ofX_len {k m : Int} {a b : List UInt8} (h : a.length = b.length) : ofX k m b = ofX k m a := by unfold ofX; rw [h]
theorem ofR_len {k m : Int} {a b : List UInt8} (h : a.length = b.length) : (ofR k m b).length = (ofR k m a).length := by
  unfold ofR
  rw [h]
  split
  · rw [upto_length, upto_length]
  · rfl
theorem ofR_zero {k m : Int} {a : List UInt8} (h : ofX k m a = 0) : ((ofR k m a).length : Int) = m := by
  rcases of_cases k m a with c | ⟨c, d⟩ | ⟨c, d⟩
  · rw [(ofX_bad c).1] at h; cases h
  · rw [(ofX_shard c d).1] at h; cases h
  · obtain ⟨k, m, rfl, rfl, h1, h2⟩ := c.nat
    rw [(ofX_ok c (by omega)).2, upto_length]
theorem ofR_times {k m : Int} {z : List UInt8} {c : UInt8} {i : Nat} (hi : i < (ofR k m z).length) : co (ofR k m (timesP z c)) i = mu (co (ofR k m z) i) c := by
  rcases of_cases k m z with d | ⟨d, e⟩ | ⟨d, e⟩
  · rw [(ofX_bad d).2] at hi; simp at hi
  · rw [(ofX_shard d e).2] at hi; simp at hi
  · obtain ⟨k, m, rfl, rfl, h1, h2⟩ := d.nat
    rw [(ofX_ok (z := z) d (by omega)).2] at hi ⊢
    rw [upto_length] at hi
    rw [(ofX_ok (z := timesP z c) d (by rw [timesP_length]; omega)).2, co_upto_in hi, co_upto_in hi]
    exact synF_times fun j hj => by unfold timesP; rw [co_upto_in (by omega)]
theorem ofR_xor {k m : Int} {a b : List UInt8} (hl : a.length = b.length) {i : Nat} (hi : i < (ofR k m a).length) : co (ofR k m (xorP a b)) i = co (ofR k m a) i ^^^ co (ofR k m b) i := by
  rcases of_cases k m a with d | ⟨d, e⟩ | ⟨d, e⟩
  · rw [(ofX_bad d).2] at hi; simp at hi
  · rw [(ofX_shard d e).2] at hi; simp at hi
  · obtain ⟨k, m, rfl, rfl, h1, h2⟩ := d.nat
    rw [(ofX_ok (z := a) d (by omega)).2] at hi ⊢
    rw [upto_length] at hi
    rw [(ofX_ok (z := xorP a b) d (by rw [xorP_length]; omega)).2, (ofX_ok (z := b) d (by omega)).2, co_upto_in hi, co_upto_in hi, co_upto_in hi]
    exact synF_add fun j hj => by unfold xorP; rw [co_upto_in (by omega)]

end Go.Proofs.Ytjgeipmfdmdmkaa.Gf

/-
  A LAW ON A BUILTIN AT A STEP OF A REGION THAT DRAWS ITS ORDER: 'append(s, x)', s a row of bytes of the call's own, however long it is. Made of the library's laws on append; no program's function is named here.
-/

namespace Go.Proofs.Ytjgeipmfdmdmkaa.Gf
set_option linter.unusedVariables false
set_option linter.unusedSimpArgs false
open Go.RowKit

theorem step_append_big {P : Program} {w : World} {ops : Array Oper} {o : Oper} {a : Act} {K : Act → World → Prop} {Q : Exit → Act → World → Prop} {E : Prop} (hgd : o.guard = none) (s x : Operand) (t : TypeId)
    (ho : o.op = .call { callee := .builtin .append, args := #[s, x], argTypes := #[t, t] })
    (base : Nat) (e : TypeId) (i : TypeInfo) (ht : P.underlying t = some (.slice e)) (hi : P.info? e = some i) (hz : i.zero = some (.int .u8 0)) (hsize : i.size = 1) (hby : i.bytes = 1)
    (v : Value) (n : Nat) (xs : List Value) (hs : a.eval s = v) (hown : w.ownsRow base e 1 v n xs) (va : Value) (y : UInt8) (hx : a.eval x = va) (hr : Rd w va [y]) (hl : n + 1 ≤ 140737488355328) (hbase : base ≤ w.heap.size)
    (h : ∀ v' w', w'.ownsRow base e 1 v' (n + 1) (xs ++ [y].map vb) → w.grownBy w' v.ownBlock → K (a.put o.dst v') w') :
    if Region.wanted o (yielded ops a.tmps) = true then Oper.wp P o a w K Q else E := by
  have hw : Region.wanted o (yielded ops a.tmps) = true := by simp [Region.wanted, hgd]
  rw [if_pos hw]
  rcases hr with ⟨_, _, hr, _⟩ | ⟨b, off, cap, hp0, rfl, h1, h2, h3, hpc⟩
  · cases hr
  obtain ⟨v', w', hrun, h2, h3, _⟩ := run_append_own_at (P := P) w base t o.type e i (.int .u8 0) 1 1 ht hi hz hsize hby rfl (by decide) v n xs hown ⟨b, off, none⟩ [y].length cap (([y].take [y].length).map vb) (by simp) (news_of hpc) (vb_one _) (by unfold maxLen; show n + 1 ≤ _; omega) (by show (n + 1) * 1 ≤ _; omega) hbase
  unfold Oper.wp execOp
  simp only [ho, resolve, invoke, builtin, Sem.run_bind, Sem.run_pure, Result.andThen_ok, List.map_toArray, List.map_cons, List.map_nil, hs, hx, hrun]
  exact h v' w' (by simpa using h2) h3
theorem cell_alloc8 {w : World} {b off : Nat} {v : Value} (h : w.cell? ⟨b, off, none⟩ = some v) (o : Obj) : (w.alloc o).cell? ⟨b, off, none⟩ = some v := by
  rw [World.cell?_alloc_past _ _ _ (World.block_lt_of_cell? w _ h)]; exact h
theorem cell_grown8 {w w' : World} {r : Option Nat} {b off N : Nat} {v : Value} (hg : w.grownBy w' r) (h : w.cell? ⟨b, off, none⟩ = some v) (hb : b < N) (hr : ∀ q, r = some q → N ≤ q) : w'.cell? ⟨b, off, none⟩ = some v := by
  have hlt : b < w.heap.size := World.block_lt_of_cell? w ⟨b, off, none⟩ h
  have e : w'.heap[b]? = w.heap[b]? := hg.block b hlt (fun e => by have := hr b e.symm; omega)
  rw [World.cell?_of_block (w := w) (a := ⟨b, off, none⟩) e]; exact h

/-- of a slice that came in the length is at most the capacity -/
theorem len_cap {w : World} {a : Option Addr} {len cap : Nat} {zs : List Int}
    (h : (a = none ∧ len = 0 ∧ cap = 0 ∧ zs = []) ∨ ∃ x, a = some x ∧ len ≤ cap ∧ cap ≤ maxLen ∧ zs.length = cap ∧ (∀ i, i < zs.length → w.cell? (x.add i) = some (.int .u8 (zs.getD i 0))) ∧ ∀ n ∈ zs, (Lit.int .u8 n).wf = true) : len ≤ cap := by
  rcases h with ⟨_, h1, h2, _⟩ | ⟨_, _, h, _⟩
  · omega
  · exact h

end Go.Proofs.Ytjgeipmfdmdmkaa.Gf

