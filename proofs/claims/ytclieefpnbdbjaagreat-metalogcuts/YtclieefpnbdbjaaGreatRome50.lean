/- TEXTS JOINED: MeAc. -/
import Derived.Test.YtclieefpnbdbjaaGreatRome37
namespace Go.Proofs.YtclieefpnbdbjaaGreat.Gf
set_option linter.unusedVariables false
set_option linter.unusedSimpArgs false
open Go.RowKit
theorem cells_one18 {w : World} {L : List RcV} (h : ∀ c ∈ L, RcV.In w c) : ∀ y ∈ cellsRc L, y.oneCell' = true := by
  induction L with
  | nil => intro y hy; cases hy
  | cons c L ih =>
    intro y hy
    rcases List.mem_append.1 hy with hy | hy
    · obtain ⟨a, n, e⟩ := (h c (List.mem_cons_self ..)).rs.form
      simp only [fourR, List.mem_cons, List.not_mem_nil, or_false] at hy
      rcases hy with rfl | rfl | rfl | rfl
      · rfl
      · rfl
      · rfl
      · rw [e]; rfl
    · exact ih (fun d hd => h d (List.mem_cons_of_mem _ hd)) y hy
theorem run_append_rcs {w : World} {base b2 : Nat} {v va : Value} {L M : List RcV} (ty : TypeId) (h : OwnRc w base v L) (hM : OwnRc w b2 va M) (ha : ∀ c ∈ M, NearR base w.heap.size v c.vs) (hl : L.length + M.length ≤ 100000) (hbase : base ≤ w.heap.size) :
    ∃ v' w', (Builtin.append_ #[51, 51] ty #[v, va]).run Tryz.prog w = .ok v' w' ∧ OwnRc w' base v' (L ++ M) ∧ Gro w v w' v' := by
  obtain ⟨i, hi, hz, hs, hy⟩ := info_rec18'
  obtain ⟨_, ⟨e, hn⟩ | ⟨g, cap, cur, e, hg, hh, hc, hm, hcs, ht⟩⟩ := id hM.row
  · have : M = [] := List.length_eq_zero_iff.1 hn
    subst this
    subst e
    exact ⟨v, w, run_append_owned_none (P := Tryz.prog) (w := w) base 51 ty 38 i 4 Tryz.underlying51 hi v L.length (cellsRc L) h.row, by rw [List.append_nil]; exact h, Gro.refl _ _⟩
  · subst e
    obtain ⟨v', w', hrun, h2, h3, _, h5⟩ := run_append_own_at (P := Tryz.prog) w base 51 ty 38 i (.agg #[.int .i64 0, .string ⟨#[]⟩, .int .i64 0, .slice none 0 0]) 4 56 Tryz.underlying51 hi hz hs hy rfl (by decide) v L.length (cellsRc L) h.row ⟨g, 0, none⟩ M.length cap (cellsRc M) (cellsRc_length M)
      (by
        intro j y hj
        have hlt : j < (cellsRc M).length := by
          by_cases q : j < (cellsRc M).length
          · exact q
          · rw [List.getElem?_eq_none (by omega)] at hj; cases hj
        rw [add_at, Nat.zero_add, ← hj]
        exact World.ownsRow.cellAt hM.row j (by rw [cellsRc_length] at hlt; exact hlt)) (cells_one18 hM.ea) (by unfold maxLen; omega) (by omega) hbase
    have G : Gro w v w' v' := Gro.of h3 h5
    refine ⟨v', w', hrun, ⟨?_, ?_, ?_⟩, G⟩
    · rw [List.length_append, cellsRc_append]; exact h2
    · intro d hd
      rcases List.mem_append.1 hd with hd | hd
      · have k := h.ea d hd
        exact ⟨k.wk, k.wl, k.ky, k.rs.groR G (h.ap d hd), k.wi⟩
      · have k := hM.ea d hd
        exact ⟨k.wk, k.wl, k.ky, k.rs.groR G (ha d hd), k.wi⟩
    · have key : ∀ u, NearR base w.heap.size v u → NearR base w'.heap.size v' u := fun u hu x n c e => (hu x n c e).imp id fun q => ⟨q.1, Nat.lt_of_lt_of_le q.2.1 G.gr.size, G.ne q.2.1 q.2.2⟩
      intro d hd
      rcases List.mem_append.1 hd with hd | hd
      · exact key _ (h.ap d hd)
      · exact key _ (ha d hd)
theorem step_append_rcs {w : World} {ops : Array Oper} {o : Oper} {a : Act} {K : Act → World → Prop} {Q : Exit → Act → World → Prop} {E : Prop} (hgd : o.guard = none) (s x : Operand)
    (ho : o.op = .call { callee := .builtin .append, args := #[s, x], argTypes := #[51, 51] })
    (base b2 : Nat) (v : Value) (L : List RcV) (hs : a.eval s = v) (h : OwnRc w base v L) (va : Value) (M : List RcV) (hx : a.eval x = va) (hM : OwnRc w b2 va M) (ha : ∀ c ∈ M, NearR base w.heap.size v c.vs) (hl : L.length + M.length ≤ 100000) (hbase : base ≤ w.heap.size)
    (k : ∀ v' w', OwnRc w' base v' (L ++ M) → Gro w v w' v' → K (a.put o.dst v') w') :
    if Region.wanted o (yielded ops a.tmps) = true then Oper.wp Tryz.prog o a w K Q else E := by
  have hw : Region.wanted o (yielded ops a.tmps) = true := by simp [Region.wanted, hgd]
  rw [if_pos hw]
  obtain ⟨v', w', hrun, h2, h3⟩ := run_append_rcs o.type h hM ha hl hbase
  unfold Oper.wp execOp
  simp only [ho, resolve, invoke, builtin, Sem.run_bind, Sem.run_pure, Result.andThen_ok, List.map_toArray, List.map_cons, List.map_nil, hs, hx, hrun]
  exact k v' w' h2 h3
/-- a literal of none -/
theorem made_rc (w : World) {base : Nat} (h : base ≤ w.heap.size) : OwnRc (w.alloc (.cells #[] 38)) base (.slice (some ⟨w.heap.size, 0, none⟩) 0 0) [] :=
  ⟨World.ownsRow_made w #[] 0 h (Nat.zero_le _) rfl, (fun c hc => by cases hc), (fun c hc => by cases hc)⟩
/-- a literal of one -/
theorem lit_rc (w : World) {base : Nat} {c : RcV} (hc : RcV.In w c) (h : base ≤ w.heap.size) (hf : NearR base w.heap.size (.slice (some ⟨w.heap.size, 0, none⟩) 1 1) c.vs) : OwnRc (w.alloc (.cells #[.int .i64 c.r.kind, sv c.r.key, .int .i64 c.r.len, c.vs] 38)) base (.slice (some ⟨w.heap.size, 0, none⟩) 1 1) [c] := by
  refine ⟨⟨by simp [cellsRc, fourR], .inr ⟨w.heap.size, 1, _, rfl, h, heap_alloc_new w _, Nat.le_refl _, by unfold maxLen; omega, rfl, by simp [cellsRc, fourR]⟩⟩, fun d hd => ?_, fun d hd => ?_⟩
  · simp only [List.mem_singleton] at hd
    subst hd
    exact hc.below (belR _ _)
  · simp only [List.mem_singleton] at hd
    subst hd
    exact hf.mono (by simp)
/-- a row lies as it lay where another has grown -/
theorem OwnRc.gro {w w' : World} {base b2 : Nat} {u v v' : Value} {M : List RcV} (h : OwnRc w b2 u M) (g : Gro w v w' v') (hn : ∀ q, u.ownBlock = some q → v.ownBlock ≠ some q) (ha : ∀ c ∈ M, NearR base w.heap.size v c.vs) : OwnRc w' b2 u M := by
  refine ⟨?_, fun c hc => ?_, fun c hc => (h.ap c hc).mono g.gr.size⟩
  · obtain ⟨h0, k | ⟨q, cap, cur, e, hg, hh, r⟩⟩ := h.row
    · exact ⟨h0, Or.inl k⟩
    · have hq : u.ownBlock = some q := by rw [e]; rfl
      have hlt : q < w.heap.size := (Array.getElem?_eq_some_iff.1 hh).1
      exact ⟨h0, Or.inr ⟨q, cap, cur, e, hg, by rw [g.gr.block q hlt (fun e2 => hn q hq e2.symm)]; exact hh, r⟩⟩
  · have k := h.ea c hc
    exact ⟨k.wk, k.wl, k.ky, k.rs.groR g (ha c hc), k.wi⟩
/-- .. and where the blocks of an array have turned -/
theorem OwnRc.turnO {w w' : World} {base : Nat} {u : Value} {M : List RcV} {G : Nat → Prop} (h : OwnRc w base u M) (t : TurnG G w w') (hq : ∀ q, u.ownBlock = some q → ¬ G q) (hi : ∀ c ∈ M, RcV.In w' c) : OwnRc w' base u M := by
  refine ⟨?_, hi, fun c hc => (h.ap c hc).mono t.size⟩
  obtain ⟨h0, k | ⟨q, cap, cur, e, hg, hh, r⟩⟩ := h.row
  · exact ⟨h0, Or.inl k⟩
  · have hb : u.ownBlock = some q := by rw [e]; rfl
    have hlt : q < w.heap.size := (Array.getElem?_eq_some_iff.1 hh).1
    exact ⟨h0, Or.inr ⟨q, cap, cur, e, hg, by rw [t.block q hlt (hq q hb)]; exact hh, r⟩⟩
theorem rdR_in {w : World} {v : Value} {L : List RcV} (h : RdR w v L) : ∀ c ∈ L, RcV.In w c := fun c hc => by
  rcases h with ⟨_, _, rfl, _⟩ | ⟨b, off, cap, h1, h2, h3, h4, h5⟩
  · cases hc
  · obtain ⟨i, hi, e⟩ := List.getElem_of_mem hc
    have := (h5 i hi).ok
    rw [show L.getD i default = L[i] by simp [List.getD, hi], e] at this
    exact this
theorem own_mk (b n c : Nat) : Value.ownBlock (.slice (some ⟨b, 0, none⟩) n c) = some b := rfl
theorem own_is {b n c q : Nat} (h : Value.ownBlock (.slice (some ⟨b, 0, none⟩) n c) = some q) : q = b := by rw [own_mk] at h; simpa using h.symm
theorem own_at {N b n c : Nat} (h : N ≤ b) : ∀ q, Value.ownBlock (.slice (some ⟨b, 0, none⟩) n c) = some q → N ≤ q := fun q e => by rw [own_is e]; exact h
/-- what lay there lies off what was made behind it -/
theorem near_old {wo : World} {c : RcV} (h : RcV.In wo c) {lim : Nat} (hl : wo.heap.size ≤ lim) {v : Value} (hv : ∀ q, v.ownBlock = some q → wo.heap.size ≤ q) : NearR 0 lim v c.vs := fun x n k e => by
  rcases h.rs with ⟨ao, cap, _, e1⟩ | ⟨b, off, cap, _, e1, _, q, _⟩
  · rw [e1] at e
    simp at e
    exact Or.inl e.2.1.symm
  · rw [e1] at e
    simp at e
    obtain ⟨rfl, _⟩ := e
    refine Or.inr ⟨Nat.zero_le _, by show b < lim; omega, fun e2 => ?_⟩
    have h3 : wo.heap.size ≤ b := hv _ e2
    omega
theorem ap18_after {wo W w1 : World} {v0 v1 : Value} (b : Below wo.heap.size wo W) (q : ∀ k, v0.ownBlock = some k → wo.heap.size ≤ k) (g : Gro W v0 w1 v1) : Below wo.heap.size wo w1 ∧ ∀ k, v1.ownBlock = some k → wo.heap.size ≤ k := by
  refine ⟨b.grown g.gr b.size q, fun k e => ?_⟩
  rcases g.pl with h | ⟨j, h, hj⟩
  · rw [h] at e; exact q k e
  · rw [h] at e
    simp at e
    have := b.size
    omega
end Go.Proofs.YtclieefpnbdbjaaGreat.Gf
