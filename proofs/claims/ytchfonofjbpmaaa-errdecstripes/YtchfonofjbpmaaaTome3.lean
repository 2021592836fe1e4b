/- TEXTS JOINED: SsOwn, PoSame, BkRd, BkEvM, CaMath, BkMath, BkAddM, CaOk, BkX. -/
import Derived.Test.YtchfonofjbpmaaaTome2
import Derived.Test.YtchfonofjbpmaaaTome1
/-
  SLICES OF SLICES OF BYTES THAT A CALL ITSELF MAKES: a row of slices, each of which is a row of bytes of the call's own, in blocks that are unlike. No program's function is named here.
-/

namespace Go.Proofs.Ytchfonofjbpmaaa.Gf
set_option linter.unusedVariables false
set_option linter.unusedSimpArgs false
open Go.RowKit

/-- 'append(s, p...)', s a row of bytes of the call's own, p whatever slice of bytes: and where the row lies then. -/
theorem run_append_rd2 {P : Program} (w : World) (t ty : TypeId) (base : Nat) (e : TypeId) (i : TypeInfo) (ht : P.underlying t = some (.slice e)) (hi : P.info? e = some i) (hz : i.zero = some (.int .u8 0)) (hsize : i.size = 1) (hby : i.bytes = 1)
    (v : Value) (n : Nat) (xs : List Value) (hown : w.ownsRow base e 1 v n xs) (va : Value) (p : List UInt8) (hr : Rd w va p) (hl : n + p.length ≤ 1000000) (hbase : base ≤ w.heap.size) :
    ∃ v' w', (Builtin.append_ #[t, t] ty #[v, va]).run P w = .ok v' w' ∧ w'.ownsRow base e 1 v' (n + p.length) (xs ++ p.map vb) ∧ w.grownBy w' v.ownBlock ∧ (v'.ownBlock = v.ownBlock ∨ v'.ownBlock = some w.heap.size) := by
  rcases hr with ⟨ao, cap, rfl, rfl, hc, hn⟩ | ⟨b, off, cap, hp0, rfl, h1, h2, h3, hpc⟩
  · rcases ao with _ | ad
    · have := hn rfl
      subst this
      exact ⟨v, w, run_append_owned_none (P := P) (w := w) base t ty e i 1 ht hi v n xs hown, by simpa using hown, World.grownBy.refl _ _, Or.inl rfl⟩
    · obtain ⟨v', w', hr, h2, h3, _, h5⟩ := run_append_own_at (P := P) w base t ty e i (.int .u8 0) 1 1 ht hi hz hsize hby rfl (by decide) v n xs hown ad 0 cap [] rfl (by intro j u hj; simp at hj) (by intro u hu; simp at hu) (by unfold maxLen; omega) (by omega) hbase
      exact ⟨v', w', hr, by simpa using h2, h3, h5⟩
  · obtain ⟨v', w', hr, h2, h3, _, h5⟩ := run_append_own_at (P := P) w base t ty e i (.int .u8 0) 1 1 ht hi hz hsize hby rfl (by decide) v n xs hown ⟨b, off, none⟩ p.length cap ((p.take p.length).map vb) (by simp) (news_of hpc) (vb_one _) (by unfold maxLen; omega) (by omega) hbase
    exact ⟨v', w', hr, by simpa using h2, h3, h5⟩
theorem wpList_append_rd2 {P : Program} (w : World) {ops : Array Oper} {rest : List Oper} {o : Oper} {a : Act} {Q : Exit → Act → World → Prop} (hgd : o.guard = none) (s x : Operand) (t : TypeId)
    (ho : o.op = .call { callee := .builtin .append, args := #[s, x], argTypes := #[t, t] })
    (base : Nat) (e : TypeId) (i : TypeInfo) (ht : P.underlying t = some (.slice e)) (hi : P.info? e = some i) (hz : i.zero = some (.int .u8 0)) (hsize : i.size = 1) (hby : i.bytes = 1)
    (v : Value) (n : Nat) (xs : List Value) (hs : a.eval s = v) (hown : w.ownsRow base e 1 v n xs) (va : Value) (p : List UInt8) (hx : a.eval x = va) (hr : Rd w va p) (hl : n + p.length ≤ 1000000) (hbase : base ≤ w.heap.size)
    (h : ∀ v' w', w'.ownsRow base e 1 v' (n + p.length) (xs ++ p.map vb) → w.grownBy w' v.ownBlock → (v'.ownBlock = v.ownBlock ∨ v'.ownBlock = some w.heap.size) → wpList P ops Q rest (a.put o.dst v') w') : wpList P ops Q (o :: rest) a w := by
  refine wpList_plain hgd fun K hK => ?_
  obtain ⟨v', w', hrun, h2, h3, h4⟩ := run_append_rd2 w t o.type base e i ht hi hz hsize hby v n xs hown va p hr hl hbase
  unfold Oper.wp execOp
  simp only [ho, resolve, invoke, builtin, Sem.run_bind, Sem.run_pure, Result.andThen_ok, List.map_toArray, List.map_cons, List.map_nil, hs, hx, hrun]
  exact hK _ _ (h v' w' h2 h3 h4)
/-- 'append(s, x)' on a row of slices of the call's own, x one slice, laid as a list of one. -/
theorem wpList_append_one {P : Program} (w : World) {ops : Array Oper} {rest : List Oper} {o : Oper} {a : Act} {Q : Exit → Act → World → Prop} (hgd : o.guard = none) (s x : Operand) (t : TypeId)
    (ho : o.op = .call { callee := .builtin .append, args := #[s, x], argTypes := #[t, t] })
    (base : Nat) (e : TypeId) (i : TypeInfo) (ht : P.underlying t = some (.slice e)) (hi : P.info? e = some i) (hz : i.zero = some (.slice none 0 0)) (hsize : i.size = 1) (hby : i.bytes = 24)
    (v : Value) (n : Nat) (xs : List Value) (hs : a.eval s = v) (hown : w.ownsRow base e 1 v n xs) (b c : Nat) (u : Value) (hx : a.eval x = .slice (some ⟨b, 0, none⟩) 1 c) (hr : w.cell? ⟨b, 0, none⟩ = some u) (hu : u.oneCell' = true) (hl : n ≤ 100000) (hbase : base ≤ w.heap.size)
    (h : ∀ v' w', w'.ownsRow base e 1 v' (n + 1) (xs ++ [u]) → w.grownBy w' v.ownBlock → (v'.ownBlock = v.ownBlock ∨ v'.ownBlock = some w.heap.size) → wpList P ops Q rest (a.put o.dst v') w') : wpList P ops Q (o :: rest) a w := by
  refine wpList_plain hgd fun K hK => ?_
  obtain ⟨v', w', hrun, h2, h3, _, h5⟩ := run_append_own_at (P := P) w base t o.type e i (.slice none 0 0) 1 24 ht hi hz hsize hby rfl (by decide) v n xs hown ⟨b, 0, none⟩ 1 c [u] rfl (by intro j y hj; rw [add_at, Nat.zero_add]; rcases j with _ | j <;> simp at hj; subst hj; exact hr) (by intro y hy; simp at hy; rw [hy]; exact hu) (by unfold maxLen; omega) (by omega) hbase
  unfold Oper.wp execOp
  simp only [ho, resolve, invoke, builtin, Sem.run_bind, Sem.run_pure, Result.andThen_ok, List.map_toArray, List.map_cons, List.map_nil, hs, hx, hrun]
  exact hK _ _ (h v' w' h2 h3 h5)

def OwnP (w : World) (base u : Nat) (x : Value) (p : List UInt8) : Prop := w.ownsRow base u 1 x p.length (p.map vb)
theorem OwnP.kept {w w' : World} {base u : Nat} {x : Value} {p : List UInt8} (h : OwnP w base u x p) {r : Option Nat} (hg : w.grownBy w' r) (hne : x.ownBlock = none ∨ x.ownBlock ≠ r) : OwnP w' base u x p := World.ownsRow.kept h hg hne
theorem OwnP.alloc {w : World} {base u : Nat} {x : Value} {p : List UInt8} (h : OwnP w base u x p) (o : Obj) : OwnP (w.alloc o) base u x p := World.ownsRow.alloc h o
theorem OwnP.one {w : World} {base u : Nat} {x : Value} {p : List UInt8} (h : OwnP w base u x p) : x.oneCell' = true := by
  obtain ⟨a, c, rfl⟩ := owns_form h
  rfl
theorem OwnP.lt {w : World} {base u : Nat} {x : Value} {p : List UInt8} (h : OwnP w base u x p) {k : Nat} (hk : x.ownBlock = some k) : base ≤ k ∧ k < w.heap.size := World.ownsRow.lt h k hk
/-- rows of the call's own in a row of slices of its own -/
structure RowsO (w : World) (base u : Nat) (v : Value) (vals : List Value) (row : Nat → List UInt8) : Prop where
  own : ∀ (i : Nat) (x : Value), vals[i]? = some x → OwnP w base u x (row i)
  diff : ∀ (i j : Nat) (x y : Value), vals[i]? = some x → vals[j]? = some y → i ≠ j → x.ownBlock = none ∨ x.ownBlock ≠ y.ownBlock
  out : ∀ (i : Nat) (x : Value), vals[i]? = some x → x.ownBlock = none ∨ x.ownBlock ≠ v.ownBlock
theorem RowsO.nil (w : World) (base u : Nat) (v : Value) (row : Nat → List UInt8) : RowsO w base u v [] row :=
  ⟨fun i x h => by simp at h, fun i j x y h => by simp at h, fun i x h => by simp at h⟩
theorem block_apart {x : Value} {s : Nat} {r : Option Nat} (h : ∀ k, x.ownBlock = some k → k < s) (hr : ∀ k, r = some k → s ≤ k) : x.ownBlock = none ∨ x.ownBlock ≠ r := by
  cases hx : x.ownBlock with
  | none => exact Or.inl rfl
  | some k =>
    refine Or.inr fun e => ?_
    have h1 := h k hx
    have h2 := hr k e.symm
    omega
theorem block_apart' {x : Value} {s : Nat} {r : Option Nat} (h : ∀ k, x.ownBlock = some k → s ≤ k) (hr : ∀ k, r = some k → k < s) : x.ownBlock = none ∨ x.ownBlock ≠ r := by
  cases hx : x.ownBlock with
  | none => exact Or.inl rfl
  | some k =>
    refine Or.inr fun e => ?_
    have h1 := h k hx
    have h2 := hr k e.symm
    omega
/-- one row more: laid in a block of its own, then appended -/
theorem RowsO.push {wr w1 w2 : World} {base u bt : Nat} {v v' x : Value} {vals : List Value} {row : Nat → List UInt8} {o o' : Obj} (h : RowsO wr base u v vals row) (hv : wr.ownsRow base bt 1 v vals.length vals)
    (g1 : (wr.alloc o).grownBy w1 (some wr.heap.size)) (hx : OwnP w1 base u x (row vals.length)) (hb1 : ∀ k, x.ownBlock = some k → wr.heap.size ≤ k)
    (g2 : (w1.alloc o').grownBy w2 v.ownBlock) (hb2 : v'.ownBlock = v.ownBlock ∨ v'.ownBlock = some (w1.alloc o').heap.size) : RowsO w2 base u v' (vals ++ [x]) row := by
  have s1 : wr.heap.size + 1 ≤ w1.heap.size := by have := g1.size; simpa using this
  have old : ∀ (i : Nat) (y : Value), vals[i]? = some y → ∀ k, y.ownBlock = some k → k < wr.heap.size := fun i y hy k hk => ((h.own i y hy).lt hk).2
  have vlt : ∀ k, v.ownBlock = some k → k < wr.heap.size := fun k hk => (World.ownsRow.lt hv k hk).2
  have xlt : ∀ k, x.ownBlock = some k → k < w1.heap.size := fun k hk => (hx.lt hk).2
  have keep : ∀ i y, vals[i]? = some y → OwnP w2 base u y (row i) := fun i y hy =>
    ((((h.own i y hy).alloc o).kept g1 (block_apart (old i y hy) (fun k e => by cases e; exact Nat.le_refl _))).alloc o').kept g2 (h.out i y hy)
  have xkeep : OwnP w2 base u x (row vals.length) := (hx.alloc o').kept g2 (block_apart' hb1 vlt)
  have at_end : ∀ i y, (vals ++ [x])[i]? = some y → (vals[i]? = some y ∧ i < vals.length) ∨ (i = vals.length ∧ y = x) := fun i y hy => by
    by_cases hi : i < vals.length
    · rw [List.getElem?_append_left hi] at hy; exact Or.inl ⟨hy, hi⟩
    · rw [List.getElem?_append_right (by omega)] at hy
      have : i - vals.length = 0 := by
        rcases Nat.eq_zero_or_pos (i - vals.length) with e | e
        · exact e
        · rw [List.getElem?_eq_none (by simp; omega)] at hy; cases hy
      rw [this] at hy
      simp at hy
      exact Or.inr ⟨by omega, hy.symm⟩
  have vout : ∀ y : Value, (∀ k, y.ownBlock = some k → k < w1.heap.size) → (y.ownBlock = none ∨ y.ownBlock ≠ v.ownBlock) → (y.ownBlock = none ∨ y.ownBlock ≠ v'.ownBlock) := fun y hy ho => by
    rcases hb2 with e | e
    · rw [e]; exact ho
    · refine block_apart hy (fun k hk => ?_)
      rw [e] at hk; simp at hk; omega
  refine ⟨fun i y hy => ?_, fun i j y z hy hz hij => ?_, fun i y hy => ?_⟩
  · rcases at_end i y hy with ⟨e, _⟩ | ⟨rfl, rfl⟩
    · exact keep i y e
    · exact xkeep
  · rcases at_end i y hy with ⟨e, _⟩ | ⟨rfl, rfl⟩
    · rcases at_end j z hz with ⟨e', _⟩ | ⟨rfl, rfl⟩
      · exact h.diff i j y z e e' hij
      · exact block_apart (old i y e) hb1
    · rcases at_end j z hz with ⟨e', _⟩ | ⟨rfl, rfl⟩
      · exact block_apart' hb1 (old j z e')
      · exact absurd rfl hij
  · rcases at_end i y hy with ⟨e, _⟩ | ⟨rfl, rfl⟩
    · exact vout y (fun k hk => by have := old i y e k hk; omega) (h.out i y e)
    · exact vout y xlt (block_apart' hb1 vlt)

/-- one row, told anew by an append, and stored back -/
theorem RowsO.put {wr w6 w7 : World} {base u bt G n C k : Nat} {x x' : Value} {vals : List Value} {row row' : Nat → List UInt8} (h : RowsO wr base u (.slice (some ⟨G, 0, none⟩) n C) vals row) (hv : wr.ownsRow base bt 1 (.slice (some ⟨G, 0, none⟩) n C) n vals)
    (hk : vals[k]? = some x) (hB : Below wr.heap.size wr w6) (hg : w6.grownBy w7 x.ownBlock) (hx : OwnP w7 base u x' (row' k)) (hb : x'.ownBlock = x.ownBlock ∨ x'.ownBlock = some w6.heap.size) (hrow : ∀ i, i ≠ k → row' i = row i) :
    (w7.setCell ⟨G, k, none⟩ x').ownsRow base bt 1 (.slice (some ⟨G, 0, none⟩) n C) n (vals.set k x') ∧ RowsO (w7.setCell ⟨G, k, none⟩ x') base u (.slice (some ⟨G, 0, none⟩) n C) (vals.set k x') row' := by
  have hG : G < wr.heap.size := (World.ownsRow.lt hv G rfl).2
  have xo := h.out k x hk
  have v6 := owns_later hv hB
  have v7 : w7.ownsRow base bt 1 (.slice (some ⟨G, 0, none⟩) n C) n vals := World.ownsRow.kept v6 hg (by
    rcases xo with e | e
    · right; rw [e]; simp [Value.ownBlock]
    · right; exact fun h => e h.symm)
  obtain ⟨v8, g8⟩ := World.ownsRow.stored v7 k x'
  have x'o : x'.ownBlock = none ∨ x'.ownBlock ≠ some G := by
    rcases hb with e | e
    · rw [e]; exact xo
    · right; rw [e]; intro h; cases h; have := hB.size; omega
  have old : ∀ (i : Nat) (y : Value), vals[i]? = some y → ∀ k, y.ownBlock = some k → k < wr.heap.size := fun i y hy k hk => ((h.own i y hy).lt hk).2
  have sets : ∀ (i : Nat) (y : Value), (vals.set k x')[i]? = some y → (i = k ∧ y = x') ∨ (i ≠ k ∧ vals[i]? = some y) := fun i y hy => by
    by_cases e : i = k
    · subst e
      have hlt : i < vals.length := by
        rcases Nat.lt_or_ge i vals.length with h | h
        · exact h
        · rw [List.getElem?_eq_none h] at hk; cases hk
      rw [List.getElem?_set_self hlt] at hy
      exact Or.inl ⟨rfl, by cases hy; rfl⟩
    · rw [List.getElem?_set_ne (fun h => e h.symm)] at hy
      exact Or.inr ⟨e, hy⟩
  have x'd : ∀ (j : Nat) (z : Value), vals[j]? = some z → j ≠ k → x'.ownBlock = none ∨ x'.ownBlock ≠ z.ownBlock := fun j z hz hj => by
    rcases hb with e | e
    · rw [e]; exact h.diff k j x z hk hz (fun h => hj h.symm)
    · refine block_apart' (s := wr.heap.size) (fun q hq => ?_) (old j z hz)
      rw [e] at hq; cases hq; exact hB.size
  refine ⟨v8, ⟨fun i y hy => ?_, fun i j y z hy hz hij => ?_, fun i y hy => ?_⟩⟩
  · rcases sets i y hy with ⟨rfl, rfl⟩ | ⟨e, hy⟩
    · exact hx.kept g8 x'o
    · rw [hrow i e]
      exact (World.ownsRow.kept (World.ownsRow.kept (owns_later (h.own i y hy) hB) hg (h.diff i k y x hy hk e)) g8 (h.out i y hy))
  · rcases sets i y hy with ⟨ei, ey⟩ | ⟨ei, hy'⟩
    · rcases sets j z hz with ⟨ej, ez⟩ | ⟨ej, hz'⟩
      · exact absurd (ei.trans ej.symm) hij
      · rw [ey]; exact x'd j z hz' ej
    · rcases sets j z hz with ⟨ej, ez⟩ | ⟨ej, hz'⟩
      · rw [ez]
        have h1 := x'd i y hy' ei
        cases hyo : y.ownBlock with
        | none => exact Or.inl rfl
        | some q =>
          right
          rcases h1 with h1 | h1
          · rw [h1]; simp
          · rw [hyo] at h1; exact fun h => h1 h.symm
      · exact h.diff i j y z hy' hz' hij
  · rcases sets i y hy with ⟨rfl, rfl⟩ | ⟨e, hy⟩
    · exact x'o
    · exact h.out i y hy

theorem RowsO.outer {wr w6 w7 : World} {base u bt G n C k : Nat} {x : Value} {vals : List Value} {row : Nat → List UInt8} (h : RowsO wr base u (.slice (some ⟨G, 0, none⟩) n C) vals row) (hv : wr.ownsRow base bt 1 (.slice (some ⟨G, 0, none⟩) n C) n vals)
    (hk : vals[k]? = some x) (hkn : k < n) (hB : Below wr.heap.size wr w6) (hg : w6.grownBy w7 x.ownBlock) : w7.cell? ⟨G, k, none⟩ = some x ∧ w7.frozen? ⟨G, k, none⟩ = false := by
  have v7 : w7.ownsRow base bt 1 (.slice (some ⟨G, 0, none⟩) n C) n vals := World.ownsRow.kept (owns_later hv hB) hg (by
    rcases h.out k x hk with e | e
    · right; rw [e]; simp [Value.ownBlock]
    · right; exact fun h => e h.symm)
  exact ⟨by rw [World.ownsRow.cellAt v7 k (by omega), hk], World.ownsRow.frozenAt v7 k⟩

/-- a row of slices of the call's own, whose slices read as the rows of a matrix -/
def Grid (w : World) (base bt G n C M : Nat) (W : Mx) : Prop :=
  ∃ vals : List Value, w.ownsRow base bt 1 (.slice (some ⟨G, 0, none⟩) n C) n vals ∧ ∀ i, i < n → ∃ x, vals[i]? = some x ∧ Rd w x (upto (W i) M) ∧ Apart G x
theorem Rd.grown {w w' : World} {v : Value} {p : List UInt8} {G : Nat} (h : Rd w v p) (hg : w.grownBy w' (some G)) (ha : Apart G v) : Rd w' v p := by
  rcases h with h | ⟨b, off, cap, h1, h2, h3, h4, h5, h6⟩
  · exact Or.inl h
  · have hb : b ≠ G := by
      rcases ha _ _ _ h2 with e | e
      · exact absurd (List.length_eq_zero_iff.1 e) h1
      · exact e
    exact Or.inr ⟨b, off, cap, h1, h2, h3, h4, Nat.lt_of_lt_of_le h5 hg.size, fun i hi => (hg.cell_far ⟨b, off + i, none⟩ h5 (fun e => hb (by cases e; rfl))).trans (h6 i hi)⟩
theorem Grid.later {w w' : World} {base bt G n C M : Nat} {W : Mx} (h : Grid w base bt G n C M W) (hb : Below w.heap.size w w') : Grid w' base bt G n C M W := by
  obtain ⟨vals, hv, hr⟩ := h
  exact ⟨vals, owns_later hv hb, fun i hi => by obtain ⟨x, h1, h2, h3⟩ := hr i hi; exact ⟨x, h1, h2.below hb, h3⟩⟩
theorem Grid.congr {w : World} {base bt G n C M : Nat} {W W' : Mx} (h : Grid w base bt G n C M W) (he : ∀ i j, i < n → j < M → W i j = W' i j) : Grid w base bt G n C M W' := by
  obtain ⟨vals, hv, hr⟩ := h
  exact ⟨vals, hv, fun i hi => by obtain ⟨x, h1, h2, h3⟩ := hr i hi; exact ⟨x, h1, by rw [← upto_congr (fun j hj => he i j hi hj)]; exact h2, h3⟩⟩
theorem Grid.cell {w : World} {base bt G n C M : Nat} {W : Mx} (h : Grid w base bt G n C M W) {i : Nat} (hi : i < n) : ∃ x, w.cell? ⟨G, i, none⟩ = some x ∧ w.frozen? ⟨G, i, none⟩ = false ∧ Rd w x (upto (W i) M) ∧ Apart G x := by
  obtain ⟨vals, hv, hr⟩ := h
  obtain ⟨x, h1, h2, h3⟩ := hr i hi
  exact ⟨x, by rw [World.ownsRow.cellAt hv i (by omega), h1], World.ownsRow.frozenAt hv i, h2, h3⟩
theorem Grid.lt {w : World} {base bt G n C M : Nat} {W : Mx} (h : Grid w base bt G n C M W) : base ≤ G ∧ G < w.heap.size := by
  obtain ⟨vals, hv, hr⟩ := h
  exact World.ownsRow.lt hv G rfl
theorem Grid.at {w : World} {base bt G n C M : Nat} {W : Mx} (h : Grid w base bt G n C M W) {i : Nat} (hi : i < n) (hM : 0 < M) : ∃ b o cap, w.cell? ⟨G, i, none⟩ = some (.slice (some ⟨b, o, none⟩) M cap) ∧ w.frozen? ⟨G, i, none⟩ = false ∧ Rd w (.slice (some ⟨b, o, none⟩) M cap) (upto (W i) M) ∧ b ≠ G ∧ ∀ j, j < M → w.cell? ⟨b, o + j, none⟩ = some (.int .u8 ((W i j).toNat : Nat)) := by
  obtain ⟨x, h1, h2, h3, h4⟩ := h.cell hi
  have h3' := h3
  rcases h3 with ⟨ao, cap, e, _⟩ | ⟨b, o, cap, e, rfl, k1, k2, k3, k4⟩
  · have := upto_length (W i) M
    rw [e] at this; simp at this; omega
  · rw [upto_length] at h1 h3' h4 k4
    refine ⟨b, o, cap, h1, h2, h3', ?_, fun j hj => ?_⟩
    · rcases h4 _ _ _ rfl with e2 | e2
      · omega
      · exact e2
    · rw [k4 j hj, co_upto_lt hj]
theorem Below.ofdrew {a b : World} (h : Below a.drew.heap.size a.drew b) : Below a.heap.size a b := ⟨h.os, h.tape, h.output, h.size, h.block⟩
/-- a row told anew -/
theorem Grid.set {w : World} {base bt G n C M : Nat} {W W' : Mx} (h : Grid w base bt G n C M W) {k : Nat} (hk : k < n) {x : Value} (hx : Rd w x (upto (W' k) M)) (ha : Apart G x) (he : ∀ i j, i < n → i ≠ k → j < M → W i j = W' i j) : Grid (w.setCell ⟨G, k, none⟩ x) base bt G n C M W' := by
  obtain ⟨vals, hv, hr⟩ := h
  have hlen : vals.length = n := by have := hv.1; omega
  obtain ⟨v8, g8⟩ := World.ownsRow.stored hv k x
  refine ⟨_, v8, fun i hi => ?_⟩
  by_cases e : i = k
  · subst e
    exact ⟨x, List.getElem?_set_self (by omega), hx.grown g8 ha, ha⟩
  · obtain ⟨y, h1, h2, h3⟩ := hr i hi
    refine ⟨y, by rw [List.getElem?_set_ne (fun h => e h.symm)]; exact h1, ?_, h3⟩
    rw [← upto_congr (fun j hj => he i j hi e hj)]
    exact h2.grown g8 h3

end Go.Proofs.Ytchfonofjbpmaaa.Gf

/-
  THE DOCUMENT's ANSWER FOR LAYER 2 (package aumbryref02) BY CONTRACT: 'Same' tells whether two lists of bytes are one.
-/

namespace Go.Proofs.Ytchfonofjbpmaaa.Gf
set_option linter.unusedVariables false
set_option linter.unusedSimpArgs false
open Go.RowKit

def sameB (p q : List UInt8) : Bool := decide (p = q)
theorem sameB_self (p : List UInt8) : sameB p p = true := decide_eq_true rfl
theorem sameB_of {p q : List UInt8} (h : p = q) : sameB p q = true := decide_eq_true h

set_option maxRecDepth 100000 in
set_option maxHeartbeats 1000000 in
/-- of unlike lengths -/
theorem same_len (a b : Option Addr) (n m c d : Nat) (w : World) (h : n ≠ m) :
    Calls Try.prog 14 #[.slice a n c, .slice b m d] w fun e w' => e = .returned (.bool false) ∧ w' = w := by
  have hb : ((n : Int) != (m : Int)) = true := by simp; omega
  go_enter Try.func14, Try.ntmps14
  go_wp2
  go_ret
  exact ⟨rfl, rfl⟩

set_option maxRecDepth 100000 in
set_option maxHeartbeats 1000000 in
/-- of nothing -/
theorem same_nil (a b : Option Addr) (c d : Nat) (w : World) :
    Calls Try.prog 14 #[.slice a 0 c, .slice b 0 d] w fun e w' => e = .returned (.bool true) ∧ w' = w := by
  go_enter Try.func14, Try.ntmps14
  go_wp2
  go_loop [5] (fun i => i = .int .i64 0) (fun _ => 0)
  case atStart => rfl
  case round =>
    subst hrel
    go_wp2
    go_ret
    exact ⟨rfl, rfl⟩

set_option maxRecDepth 100000 in
set_option maxHeartbeats 1000000 in
theorem same_main (b off b' off' c d : Nat) (p q : List UInt8) (w : World) (hl : q.length = p.length) (hm : p.length ≤ 9223372036854775807)
    (hp : ∀ i, i < p.length → w.cell? ⟨b, off + i, none⟩ = some (.int .u8 ((co p i).toNat : Nat)))
    (hq : ∀ i, i < p.length → w.cell? ⟨b', off' + i, none⟩ = some (.int .u8 ((co q i).toNat : Nat))) :
    Calls Try.prog 14 #[.slice (some ⟨b, off, none⟩) p.length c, .slice (some ⟨b', off', none⟩) p.length d] w fun e w' => e = .returned (.bool (sameB p q)) ∧ ∃ n, w' = w.drewN n := by
  have hb : ((p.length : Int) != (p.length : Int)) = false := by simp
  go_enter Try.func14, Try.ntmps14
  go_wp2
  clear hb
  go_loopw [5] (fun i wr => ∃ k : Nat, k ≤ p.length ∧ i = .int .i64 k ∧ Hid (∀ j, j < k → co p j = co q j) ∧ ∃ n, wr = w.drewN n) (fun i _ => p.length - (intOf i).toNat)
  case atStart => exact ⟨0, by omega, rfl, fun j hj => by omega, 0, rfl⟩
  case round =>
    obtain ⟨k, hk, rfl, hs, nd, rfl⟩ := hrel
    by_cases hlt : k < p.length
    · have c1 := hp k hlt
      have c2 := hq k hlt
      by_cases e : co p k = co q k
      · have hn : ((((co p k).toNat : Nat) : Int) != (((co q k).toNat : Nat) : Int)) = false := by rw [ne_u8]; simp [e]
        have HS : Hid (∀ j, j < k + 1 → co p j = co q j) := fun j hj => by
          by_cases e2 : j = k
          · rw [e2]; exact e
          · exact hs.out j (by omega)
        clear e hp hq hs
        go_wp2
        go_quiet (fail)
        go_wp2
        go_roundw
        case rel => exact ⟨k + 1, by omega, by go_num, HS, _, rfl⟩
        case measure => simp [intOf]; omega
      · have hn : ((((co p k).toNat : Nat) : Int) != (((co q k).toNat : Nat) : Int)) = true := by rw [ne_u8]; simp [e]
        have E : Hid (sameB p q = false) := by
          refine decide_eq_false (fun h => e ?_)
          rw [h]
        clear e hp hq hs
        go_wp2
        go_quiet (fail)
        go_wp2
        go_ret
        exact ⟨by rw [E.out]; rfl, _, World.drewN_drewN _ _ _⟩
    · have E : Hid (sameB p q = true) := sameB_of (co_ext hl.symm (fun i hi => hs.out i (by omega)))
      clear hp hq hs
      go_wp2
      go_ret
      exact ⟨by rw [E.out]; rfl, _, rfl⟩

theorem same_any {va vb : Value} {p q : List UInt8} {w : World} (hp : Rd w va p) (hq : Rd w vb q) :
    Calls Try.prog 14 #[va, vb] w fun e w' => e = .returned (.bool (sameB p q)) ∧ ∃ n, w' = w.drewN n := by
  have l1 := hp.len
  have l2 := hq.len
  unfold maxLen at l1 l2
  by_cases hl : p.length = q.length
  · rcases hp with ⟨a, c, rfl, rfl, _⟩ | ⟨b, off, c, hp0, rfl, _, _, _, hpc⟩
    · have : q = [] := List.length_eq_zero_iff.1 (by simpa using hl.symm)
      subst this
      rcases hq with ⟨a', c', _, rfl, _⟩ | ⟨_, _, _, h, _⟩
      · exact (same_nil a a' c c' w).mono fun e w' ⟨he, hw⟩ => ⟨by rw [he, sameB_self], 0, hw⟩
      · exact absurd rfl h
    · rcases hq with ⟨a', c', rfl, rfl, _⟩ | ⟨b', off', c', hq0, rfl, _, _, _, hqc⟩
      · exact absurd (List.length_eq_zero_iff.1 hl) hp0
      · rw [← hl]
        exact same_main b off b' off' c c' p q w hl.symm (by omega) hpc (fun i hi => hqc i (by omega))
  · have E : sameB p q = false := decide_eq_false (fun h => hl (by rw [h]))
    have key : ∃ a n c, va = .slice a n c ∧ n = p.length := by
      rcases hp with ⟨a, c, rfl, rfl, _⟩ | ⟨b, off, c, hp0, rfl, _⟩
      · exact ⟨_, _, _, rfl, rfl⟩
      · exact ⟨_, _, _, rfl, rfl⟩
    have key2 : ∃ a n c, vb = .slice a n c ∧ n = q.length := by
      rcases hq with ⟨a, c, rfl, rfl, _⟩ | ⟨b, off, c, hp0, rfl, _⟩
      · exact ⟨_, _, _, rfl, rfl⟩
      · exact ⟨_, _, _, rfl, rfl⟩
    obtain ⟨a, n, c, rfl, rfl⟩ := key
    obtain ⟨a', n', c', rfl, rfl⟩ := key2
    exact (same_len a a' _ _ c c' w hl).mono fun e w' ⟨he, hw⟩ => ⟨by rw [he, E], 0, hw⟩

/-- the same, for a caller: the world behind it is a new letter -/
theorem same_b {va vb : Value} {p q : List UInt8} {w : World} (hp : Rd w va p) (hq : Rd w vb q) :
    Calls Try.prog 14 #[va, vb] w fun e w' => e = .returned (.bool (sameB p q)) ∧ Below w.heap.size w w' :=
  (same_any hp hq).mono fun e w' ⟨he, n, hw⟩ => ⟨he, by rw [hw]; exact ⟨rfl, rfl, rfl, Nat.le_refl _, fun _ _ => rfl⟩⟩

end Go.Proofs.Ytchfonofjbpmaaa.Gf

/-
  SLICES OF SLICES OF BYTES IN MEMORY: 'Rs w v L': the value v reads, in the world w, as the list of lists L; 'Os': such a slice of the call's own, whose rows lie in blocks of their own. No program's function is named here.
-/

namespace Go.Proofs.Ytchfonofjbpmaaa.Gf
set_option linter.unusedVariables false
set_option linter.unusedSimpArgs false
open Go.RowKit

/-- the shard i -/
def ro (L : List (List UInt8)) (i : Nat) : List UInt8 := L.getD i []
theorem ro_lt {L : List (List UInt8)} {i : Nat} (h : i < L.length) : ro L i = L[i] := by simp [ro, List.getD, h]
theorem ro_ge {L : List (List UInt8)} {i : Nat} (h : L.length ≤ i) : ro L i = [] := by simp [ro, List.getD, h]
theorem ro_some {L : List (List UInt8)} {i : Nat} (h : i < L.length) : L[i]? = some (ro L i) := by rw [ro_lt h]; exact List.getElem?_eq_getElem h
theorem ro_ext {L M : List (List UInt8)} (h : L.length = M.length) (h2 : ∀ i, i < L.length → ro L i = ro M i) : L = M := by
  refine List.ext_getElem h fun i h1 h3 => ?_
  have := h2 i h1
  rwa [ro_lt h1, ro_lt h3] at this
/-- n shards -/
def mkL (n : Nat) (f : Nat → List UInt8) : List (List UInt8) := (List.range n).map f
theorem mkL_length (n : Nat) (f : Nat → List UInt8) : (mkL n f).length = n := by simp [mkL]
theorem ro_mkL {n : Nat} {f : Nat → List UInt8} {i : Nat} (h : i < n) : ro (mkL n f) i = f i := by
  rw [ro_lt (by rw [mkL_length]; exact h)]; simp [mkL]
theorem mkL_ro (L : List (List UInt8)) : mkL L.length (ro L) = L := ro_ext (mkL_length _ _) fun i hi => ro_mkL (by rwa [mkL_length] at hi)
theorem mkL_succ (n : Nat) (f : Nat → List UInt8) : mkL (n + 1) f = mkL n f ++ [f n] := by simp [mkL, List.range_succ]
theorem mkL_congr {n : Nat} {f g : Nat → List UInt8} (h : ∀ i, i < n → f i = g i) : mkL n f = mkL n g := List.map_congr_left fun i hi => h i (List.mem_range.1 hi)
theorem ro_append_left {L M : List (List UInt8)} {i : Nat} (h : i < L.length) : ro (L ++ M) i = ro L i := by simp [ro, List.getD, List.getElem?_append_left h]
theorem ro_append_right {L M : List (List UInt8)} {i : Nat} (h : L.length ≤ i) : ro (L ++ M) i = ro M (i - L.length) := by simp [ro, List.getD, List.getElem?_append_right h]
theorem ro_take {L : List (List UInt8)} {k i : Nat} (h : i < k) : ro (L.take k) i = ro L i := by simp [ro, List.getD, List.getElem?_take_of_lt h]
theorem ro_drop {L : List (List UInt8)} {k i : Nat} : ro (L.drop k) i = ro L (k + i) := by simp [ro, List.getD]
theorem ro_set {L : List (List UInt8)} {k i : Nat} {x : List UInt8} (hk : k < L.length) : ro (L.set k x) i = if i = k then x else ro L i := by
  by_cases e : i = k
  · subst e; rw [if_pos rfl]; simp [ro, List.getD, List.getElem?_set_self hk]
  · rw [if_neg e]; simp [ro, List.getD, List.getElem?_set_ne (fun h => e h.symm)]

def Rs (w : World) (v : Value) (L : List (List UInt8)) : Prop :=
  ∃ (a : Option Addr) (cap : Nat), v = .slice a L.length cap ∧ L.length ≤ cap ∧ cap ≤ maxLen ∧ (a = none → cap = 0) ∧
    ∀ i, i < L.length → ∃ (b off : Nat) (x : Value), a = some ⟨b, off, none⟩ ∧ b < w.heap.size ∧ w.cell? ⟨b, off + i, none⟩ = some x ∧ Rd w x (ro L i)
theorem Rs.below {w w' : World} {v : Value} {L : List (List UInt8)} (h : Rs w v L) (hb : Below w.heap.size w w') : Rs w' v L := by
  obtain ⟨a, cap, h1, h2, h3, h4, h5⟩ := h
  refine ⟨a, cap, h1, h2, h3, h4, fun i hi => ?_⟩
  obtain ⟨b, off, x, k1, k2, k3, k4⟩ := h5 i hi
  exact ⟨b, off, x, k1, Nat.lt_of_lt_of_le k2 hb.size, (hb.cell (p := ⟨b, off + i, none⟩) k2).trans k3, k4.below hb⟩
theorem Rs.drewN {w : World} {v : Value} {L : List (List UInt8)} (h : Rs w v L) (n : Nat) : Rs (w.drewN n) v L := h
theorem Rs.form {w : World} {v : Value} {L : List (List UInt8)} (h : Rs w v L) : ∃ a c, v = .slice a L.length c := by
  obtain ⟨a, c, e, _⟩ := h
  exact ⟨a, c, e⟩
theorem Rs.len {w : World} {v : Value} {L : List (List UInt8)} (h : Rs w v L) : L.length ≤ maxLen := by
  obtain ⟨a, c, e, h1, h2, _⟩ := h
  omega
/-- a shard, as the walk meets it -/
theorem Rs.at {w : World} {a : Option Addr} {n c : Nat} {L : List (List UInt8)} (h : Rs w (.slice a n c) L) {i : Nat} (hi : i < L.length) :
    ∃ (b off : Nat) (xa : Option Addr) (xc : Nat), a = some ⟨b, off, none⟩ ∧ b < w.heap.size ∧ w.cell? ⟨b, off + i, none⟩ = some (.slice xa (ro L i).length xc) ∧ Rd w (.slice xa (ro L i).length xc) (ro L i) := by
  obtain ⟨a', c', e, h1, h2, h3, h4⟩ := h
  simp at e
  obtain ⟨rfl, rfl, rfl⟩ := e
  obtain ⟨b, off, x, k1, k2, k3, k4⟩ := h4 i hi
  obtain ⟨xa, xc, rfl⟩ := k4.form
  exact ⟨b, off, xa, xc, k1, k2, k3, k4⟩
/-- .. where its place is known -/
theorem Rs.get {w : World} {b off n c : Nat} {L : List (List UInt8)} (h : Rs w (.slice (some ⟨b, off, none⟩) n c) L) {i : Nat} (hi : i < L.length) :
    ∃ (xa : Option Addr) (xc : Nat), w.cell? ⟨b, off + i, none⟩ = some (.slice xa (ro L i).length xc) ∧ Rd w (.slice xa (ro L i).length xc) (ro L i) := by
  obtain ⟨b', off', xa, xc, e, h1, h2, h3⟩ := h.at hi
  simp at e
  obtain ⟨rfl, rfl⟩ := e
  exact ⟨xa, xc, h2, h3⟩
theorem Rs.somewhere {w : World} {v : Value} {L : List (List UInt8)} (h : Rs w v L) (hL : 0 < L.length) : ∃ b off cap, v = .slice (some ⟨b, off, none⟩) L.length cap ∧ b < w.heap.size ∧ L.length ≤ cap ∧ cap ≤ maxLen := by
  obtain ⟨a, c, e, h1, h2, h3, h4⟩ := h
  obtain ⟨b, off, x, k1, k2, _⟩ := h4 0 hL
  subst k1
  exact ⟨b, off, c, e, k2, h1, h2⟩
theorem Rd.byte {w : World} {a : Option Addr} {n c : Nat} {p : List UInt8} (h : Rd w (.slice a n c) p) {i : Nat} (hi : i < p.length) : ∃ b off, a = some ⟨b, off, none⟩ ∧ b < w.heap.size ∧ w.cell? ⟨b, off + i, none⟩ = some (.int .u8 ((co p i).toNat : Nat)) := by
  rcases h with ⟨a', c', e, _⟩ | ⟨b, off, cap, _, e, _, _, k, hc⟩
  · subst e; simp at hi
  · simp at e; obtain ⟨rfl, _⟩ := e; exact ⟨b, off, rfl, k, hc i hi⟩
theorem rs_none {w : World} : Rs w (.slice none 0 0) [] := ⟨none, 0, rfl, Nat.le_refl _, Nat.zero_le _, fun _ => rfl, fun i hi => by simp at hi⟩
/-- the first shards -/
theorem Rs.first {w : World} {b off n c k : Nat} {L : List (List UInt8)} (h : Rs w (.slice (some ⟨b, off, none⟩) n c) L) (hk : k ≤ L.length) : Rs w (.slice (some ⟨b, off, none⟩) k c) (L.take k) := by
  obtain ⟨a', c', e, h1, h2, h3, h4⟩ := h
  simp at e
  obtain ⟨e1, e2, e3⟩ := e
  subst e1 e3
  have hl : (L.take k).length = k := by rw [List.length_take]; omega
  refine ⟨some ⟨b, off, none⟩, c, by rw [hl], by rw [hl]; omega, h2, nofun, fun i hi => ?_⟩
  rw [hl] at hi
  obtain ⟨b', off', x, k1, k2, k3, k4⟩ := h4 i (by omega)
  exact ⟨b', off', x, k1, k2, k3, by rw [ro_take hi]; exact k4⟩
/-- .. and those behind them -/
theorem Rs.rest {w : World} {b off n c k : Nat} {L : List (List UInt8)} (h : Rs w (.slice (some ⟨b, off, none⟩) n c) L) (hk : k ≤ L.length) (m : Nat) (hm : m = L.length - k) : Rs w (.slice (some ⟨b, off + k, none⟩) m (c - k)) (L.drop k) := by
  obtain ⟨a', c', e, h1, h2, h3, h4⟩ := h
  simp at e
  obtain ⟨e1, e2, e3⟩ := e
  subst e1 e3 hm
  have hl : (L.drop k).length = L.length - k := by rw [List.length_drop]
  refine ⟨some ⟨b, off + k, none⟩, c - k, by rw [hl], by rw [hl]; omega, by omega, nofun, fun i hi => ?_⟩
  rw [hl] at hi
  obtain ⟨b', off', x, k1, k2, k3, k4⟩ := h4 (k + i) (by omega)
  simp at k1
  obtain ⟨rfl, rfl⟩ := k1
  exact ⟨b, off + k, x, rfl, k2, by rw [Nat.add_assoc]; exact k3, by rw [ro_drop]; exact k4⟩

/-- of the call's own: T the type of a shard, u that of a byte -/
def Os (w : World) (base T u : Nat) (v : Value) (L : List (List UInt8)) : Prop := ∃ vals, w.ownsRow base T 1 v L.length vals ∧ RowsO w base u v vals (ro L)
theorem Os.rs {w : World} {base T u : Nat} {v : Value} {L : List (List UInt8)} (h : Os w base T u v L) : Rs w v L := by
  obtain ⟨vals, hv, hr⟩ := h
  have hlen : vals.length = L.length := by have := hv.1; omega
  have hv' := hv
  obtain ⟨_, ⟨e, hn⟩ | ⟨g, cap, cur, e, hg, hh, hc, hm, hs, ht⟩⟩ := hv
  · subst e
    have : L = [] := List.length_eq_zero_iff.1 hn
    subst this
    exact rs_none
  · subst e
    refine ⟨some ⟨g, 0, none⟩, cap, rfl, hc, hm, nofun, fun i hi => ?_⟩
    have hx : vals[i]? = some vals[i] := List.getElem?_eq_getElem (by omega)
    refine ⟨g, 0, vals[i], rfl, (Array.getElem?_eq_some_iff.1 hh).1, ?_, Rd.owned (hr.own i _ hx)⟩
    rw [Nat.zero_add, World.ownsRow.cellAt hv' i (by omega), hx]
theorem Os.nil (w : World) (base T u : Nat) : Os w base T u (.slice none 0 0) [] := ⟨[], World.ownsRow_nil _ _ _ _, RowsO.nil _ _ _ _ _⟩
theorem Os.later {w w' : World} {base T u : Nat} {v : Value} {L : List (List UInt8)} (h : Os w base T u v L) (hb : Below w.heap.size w w') : Os w' base T u v L := by
  obtain ⟨vals, hv, hr⟩ := h
  exact ⟨vals, owns_later hv hb, ⟨fun i x hx => owns_later (hr.own i x hx) hb, hr.diff, hr.out⟩⟩
theorem Os.base {w : World} {base base' T u : Nat} {v : Value} {L : List (List UInt8)} (h : Os w base T u v L) (hb : base' ≤ base) : Os w base' T u v L := by
  obtain ⟨vals, hv, hr⟩ := h
  exact ⟨vals, ownsRow_base hv hb, ⟨fun i x hx => ownsRow_base (hr.own i x hx) hb, hr.diff, hr.out⟩⟩
theorem Os.as {w : World} {base T u : Nat} {v : Value} {L M : List (List UInt8)} (h : Os w base T u v L) (e : L = M) : Os w base T u v M := e ▸ h
theorem Rs.as {w : World} {v : Value} {L M : List (List UInt8)} (h : Rs w v L) (e : L = M) : Rs w v M := e ▸ h
/-- one byte, told anew -/
def setL (L : List (List UInt8)) (i n : Nat) (y : UInt8) : List (List UInt8) := L.set i ((ro L i).set n y)
theorem setL_length (L : List (List UInt8)) (i n : Nat) (y : UInt8) : (setL L i n y).length = L.length := by simp [setL]
theorem co_at {p : List UInt8} {n j : Nat} {y : UInt8} (hn : n < p.length) : co (p.set n y) j = if j = n then y else co p j := by
  by_cases e : j = n
  · subst e; rw [if_pos rfl]; simp [co, List.getD, hn]
  · rw [if_neg e]; simp [co, List.getD, List.getElem?_set_ne (fun h => e h.symm)]
/-- where a byte of a shard of the call's own lies, and what a store there leaves -/
theorem Os.byte {w : World} {base T u : Nat} {v : Value} {L : List (List UInt8)} (h : Os w base T u v L) {i n : Nat} (hi : i < L.length) (hn : n < (ro L i).length) :
    ∃ G C g c, v = .slice (some ⟨G, 0, none⟩) L.length C ∧ w.cell? ⟨G, i, none⟩ = some (.slice (some ⟨g, 0, none⟩) (ro L i).length c) ∧ w.cell? ⟨g, n, none⟩ = some (.int .u8 ((co (ro L i) n).toNat : Nat)) ∧ w.frozen? ⟨g, n, none⟩ = false ∧ base ≤ g ∧ base ≤ G ∧ g ≠ G ∧ g < w.heap.size ∧
      ∀ y : UInt8, Os (w.setCell ⟨g, n, none⟩ (.int .u8 ((y.toNat : Nat) : Int))) base T u v (setL L i n y) := by
  obtain ⟨vals, hv, hr⟩ := h
  have hlen : vals.length = L.length := by have := hv.1; omega
  have hx : vals[i]? = some vals[i] := List.getElem?_eq_getElem (by omega)
  obtain ⟨g, c, ex, hF⟩ := RowF.of (hr.own i _ hx) (by omega)
  have hG : ∃ G C, v = .slice (some ⟨G, 0, none⟩) L.length C := by
    obtain ⟨_, ⟨e, hn⟩ | ⟨G, cap, cur, e, _⟩⟩ := hv
    · omega
    · exact ⟨G, cap, e⟩
  obtain ⟨G, C, rfl⟩ := hG
  have hgG : g ≠ G := by
    have := hr.out i _ hx
    rw [ex] at this
    rcases this with e | e
    · simp [Value.ownBlock] at e
    · intro e2; subst e2; exact e rfl
  refine ⟨G, C, g, c, rfl, by rw [World.ownsRow.cellAt hv i (by omega), hx, ex], hF.cell hn, hF.unfrozen n, hF.lt.1, (World.ownsRow.lt hv G rfl).1, hgG, hF.lt.2, fun y => ?_⟩
  have h1 := hF.store (f' := fun t => if t = n then y else co (ro L i) t) hn y (fun t => rfl)
  have hg : w.grownBy (w.setCell ⟨g, n, none⟩ (.int .u8 ((y.toNat : Nat) : Int))) (some g) := by
    have O := (Only.refl g w).setCell n (.int .u8 ((y.toNat : Nat) : Int))
    exact ⟨O.os, O.tape, O.output, by rw [O.size]; exact Nat.le_refl _, fun q _ hq => O.block q (fun e => hq (by rw [e]))⟩
  refine ⟨vals, ?_, ⟨fun j x hj => ?_, hr.diff, hr.out⟩⟩
  · rw [setL_length]
    exact World.ownsRow.kept hv hg (Or.inr (by simp [Value.ownBlock]; exact fun e => hgG e.symm))
  · have hjl : j < L.length := by
      rcases Nat.lt_or_ge j vals.length with h | h
      · omega
      · rw [List.getElem?_eq_none h] at hj; cases hj
    unfold setL
    rw [ro_set hi]
    by_cases e : j = i
    · subst e
      rw [if_pos rfl]
      have e2 : x = vals[j] := by rw [hx] at hj; cases hj; rfl
      subst e2
      rw [ex]
      unfold OwnP
      have e3 : (ro L j).set n y = upto (fun t => if t = n then y else co (ro L j) t) (ro L j).length := by
        refine co_ext (by rw [upto_length]; simp) fun t ht => ?_
        rw [co_at hn, upto, co_map_range _ (by simpa using ht)]
      rw [e3, upto_length]
      exact h1
    · rw [if_neg e]
      refine OwnP.kept (hr.own j x hj) hg ?_
      have := hr.diff j i x _ hj hx e
      rw [ex] at this
      exact this
/-- one shard more: x, laid in a block of its own behind the others, then appended -/
theorem Os.push {wr w1 w2 : World} {base T u : Nat} {v v' x : Value} {L : List (List UInt8)} {p : List UInt8} {o' : Obj} {vals : List Value} (hv : wr.ownsRow base T 1 v L.length vals) (hr : RowsO wr base u v vals (ro L)) (b1 : Below wr.heap.size wr w1) (hx : OwnP w1 base u x p) (hb1 : ∀ k, x.ownBlock = some k → wr.heap.size ≤ k)
    (g2 : (w1.alloc o').grownBy w2 v.ownBlock) (hb2 : v'.ownBlock = v.ownBlock ∨ v'.ownBlock = some (w1.alloc o').heap.size) (hv' : w2.ownsRow base T 1 v' (L.length + 1) (vals ++ [x])) : Os w2 base T u v' (L ++ [p]) := by
  have hlen : vals.length = L.length := by have := hv.1; omega
  have vlt : ∀ k, v.ownBlock = some k → k < wr.heap.size := fun k hk => (World.ownsRow.lt hv k hk).2
  have old : ∀ (i : Nat) (y : Value), vals[i]? = some y → ∀ k, y.ownBlock = some k → k < wr.heap.size := fun i y hy k hk => ((hr.own i y hy).lt hk).2
  have xlt : ∀ k, x.ownBlock = some k → k < w1.heap.size := fun k hk => (hx.lt hk).2
  have s1 := b1.size
  refine ⟨vals ++ [x], by rw [List.length_append]; exact hv', ?_⟩
  have at_end : ∀ i y, (vals ++ [x])[i]? = some y → (vals[i]? = some y ∧ i < vals.length) ∨ (i = vals.length ∧ y = x) := fun i y hy => by
    by_cases hi : i < vals.length
    · rw [List.getElem?_append_left hi] at hy; exact Or.inl ⟨hy, hi⟩
    · rw [List.getElem?_append_right (by omega)] at hy
      have : i - vals.length = 0 := by
        rcases Nat.eq_zero_or_pos (i - vals.length) with e | e
        · exact e
        · rw [List.getElem?_eq_none (by simp; omega)] at hy; cases hy
      rw [this] at hy
      simp at hy
      exact Or.inr ⟨by omega, hy.symm⟩
  have keep : ∀ i y, vals[i]? = some y → OwnP w2 base u y (ro L i) := fun i y hy =>
    ((owns_later (hr.own i y hy) b1 : OwnP w1 base u y (ro L i)).alloc o').kept g2 (hr.out i y hy)
  have xkeep : OwnP w2 base u x p := (hx.alloc o').kept g2 (block_apart' hb1 vlt)
  have vout : ∀ y : Value, (∀ k, y.ownBlock = some k → k < w1.heap.size) → (y.ownBlock = none ∨ y.ownBlock ≠ v.ownBlock) → (y.ownBlock = none ∨ y.ownBlock ≠ v'.ownBlock) := fun y hy ho => by
    rcases hb2 with e | e
    · rw [e]; exact ho
    · refine block_apart hy (fun k hk => ?_)
      rw [e] at hk; simp at hk; omega
  refine ⟨fun i y hy => ?_, fun i j y z hy hz hij => ?_, fun i y hy => ?_⟩
  · rcases at_end i y hy with ⟨e, hi⟩ | ⟨rfl, rfl⟩
    · rw [ro_append_left (by omega)]; exact keep i y e
    · rw [ro_append_right (by omega), hlen, Nat.sub_self]; exact xkeep
  · rcases at_end i y hy with ⟨e, _⟩ | ⟨rfl, rfl⟩
    · rcases at_end j z hz with ⟨e', _⟩ | ⟨rfl, rfl⟩
      · exact hr.diff i j y z e e' hij
      · exact block_apart (old i y e) hb1
    · rcases at_end j z hz with ⟨e', _⟩ | ⟨rfl, rfl⟩
      · exact block_apart' hb1 (old j z e')
      · exact absurd rfl hij
  · rcases at_end i y hy with ⟨e, _⟩ | ⟨rfl, rfl⟩
    · exact vout y (fun k hk => by have := old i y e k hk; omega) (hr.out i y e)
    · exact vout y xlt (block_apart' hb1 vlt)
theorem Os.made {w : World} {base T u : Nat} (cur : Array Value) (cap : Nat) (hb : base ≤ w.heap.size) (hm : cap ≤ maxLen) (hs : cur.size = cap * 1) : Os (w.alloc (.cells cur T)) base T u (.slice (some ⟨w.heap.size, 0, none⟩) 0 cap) [] :=
  ⟨[], World.ownsRow_made w cur cap hb hm hs, RowsO.nil _ _ _ _ _⟩
theorem Os.form {w : World} {base T u : Nat} {v : Value} {L : List (List UInt8)} (h : Os w base T u v L) : ∃ a c, v = .slice a L.length c := h.rs.form

/-- 'append(s, x)' on shards of the call's own, x a shard of its own, laid as a list of one -/
theorem wpList_append_os {P : Program} {wr w1 : World} {ops : Array Oper} {rest : List Oper} {o : Oper} {a : Act} {Q : Exit → Act → World → Prop} (hgd : o.guard = none) (s xo : Operand) (t : TypeId)
    (ho : o.op = .call { callee := .builtin .append, args := #[s, xo], argTypes := #[t, t] })
    (base e : Nat) (i : TypeInfo) (ht : P.underlying t = some (.slice e)) (hi : P.info? e = some i) (hz : i.zero = some (.slice none 0 0)) (hsize : i.size = 1) (hby : i.bytes = 24)
    (u : Nat) (v : Value) (L : List (List UInt8)) (hs : a.eval s = v) (hO : Os wr base e u v L) (b1 : Below wr.heap.size wr w1) (x : Value) (p : List UInt8) (hx : OwnP w1 base u x p) (hb1 : ∀ k, x.ownBlock = some k → wr.heap.size ≤ k)
    (et c : Nat) (hxo : a.eval xo = .slice (some ⟨w1.heap.size, 0, none⟩) 1 c) (hl : L.length ≤ 100000) (hbase : base ≤ wr.heap.size)
    (h : ∀ v' w2, Os w2 base e u v' (L ++ [p]) → Below base wr w2 → (∀ q, q < w1.heap.size → v.ownBlock ≠ some q → w2.heap[q]? = w1.heap[q]?) → (∀ q, q < w1.heap.size → v.ownBlock ≠ some q → v'.ownBlock ≠ some q) → wpList P ops Q rest (a.put o.dst v') w2) : wpList P ops Q (o :: rest) a (w1.alloc (.cells #[x] et)) := by
  obtain ⟨vals, hv, hr⟩ := hO
  have s1 := b1.size
  refine wpList_append_one _ hgd s xo t ho base e i ht hi hz hsize hby v L.length vals hs (World.ownsRow.alloc (owns_later hv b1) _) w1.heap.size c x hxo (by simp) hx.one hl (by simp; omega) ?_
  intro v' w2 hv2 hg2 hb2
  refine h v' w2 (Os.push hv hr b1 hx hb1 hg2 hb2 hv2) ?_ (fun q hq hne => ?_) (fun q hq hne => ?_)
  rotate_left
  · rw [hg2.block q (by simp; omega) (fun e => hne e.symm)]
    exact ((Below.refl w1.heap.size w1).alloc (Nat.le_refl _) _).block q hq
  · rcases hb2 with e | e
    · rw [e]; exact hne
    · rw [e]; intro h; cases h; simp at hq; omega
  exact (((b1.mono hbase).alloc (by omega) _).grown hg2 (by simp; omega) (fun q hq => (World.ownsRow.lt hv q hq).1))
/-- What a call that answers shards and an error leaves. -/
def MakesRs (w : World) (x : Int) (L : List (List UInt8)) (e : Ending) (w' : World) : Prop := ∃ v, e = .returned (.tuple #[v, .int .i64 x]) ∧ Rs w' v L ∧ Below w.heap.size w w'
/-- few and short shards -/
def Small (L : List (List UInt8)) : Prop := L.length ≤ 300 ∧ ∀ i, (ro L i).length ≤ 300

/-- Slices of slices of bytes that came in, as the frame of a statement's proof tells them. -/
theorem rs_rows {w : World} {a : Addr} {len cap : Nat} {A : Nat → Option Addr} {N C : Nat → Nat} {Z : Nat → List Int} (hl : len ≤ cap) (hm : cap ≤ maxLen)
    (h : ∀ r, r < cap → w.cell? (a.add r) = some (.slice (A r) (N r) (C r)) ∧ N r ≤ C r ∧ C r ≤ maxLen ∧ (Z r).length = C r ∧ (∀ n ∈ Z r, (Lit.int .u8 n).wf = true) ∧ (A r = none → C r = 0) ∧ ∀ a', A r = some a' → 0 ≤ a'.block ∧ ∀ c, c < C r → w.cell? (a'.add c) = some (.int .u8 ((Z r).getD c 0))) :
    ∃ L, Rs w (.slice (some a) len cap) L := by
  have row : ∀ r, ∃ p : List UInt8, r < len → N r = p.length ∧ Rd w (.slice (A r) (N r) (C r)) p := fun r => by
    by_cases hr : r < len
    · obtain ⟨h1, h2, h3, h4, h5, h6, h7⟩ := h r (by omega)
      have : ∃ p : List UInt8, N r = p.length ∧ Rd w (.slice (A r) (N r) (C r)) p := by
        refine rd_row (zs := Z r) ?_
        cases hA : A r with
        | none =>
          have := h6 hA
          refine Or.inl ⟨rfl, by omega, this, List.length_eq_zero_iff.1 (by omega)⟩
        | some a' => exact Or.inr ⟨a', rfl, h2, h3, h4, fun i hi => (h7 a' hA).2 i (by omega), h5⟩
      obtain ⟨p, hp⟩ := this
      exact ⟨p, fun _ => hp⟩
    · exact ⟨[], fun h => absurd h hr⟩
  have hex : ∃ P : Nat → List UInt8, ∀ r, r < len → N r = (P r).length ∧ Rd w (.slice (A r) (N r) (C r)) (P r) := ⟨fun r => (row r).choose, fun r => (row r).choose_spec⟩
  obtain ⟨P, hP⟩ := hex
  have hll := mkL_length len P
  refine ⟨mkL len P, some a, cap, by rw [hll], by rw [hll]; exact hl, hm, nofun, fun i hi => ?_⟩
  rw [hll] at hi
  obtain ⟨h1, _⟩ := h i (by omega)
  obtain ⟨b, off, spot⟩ := a
  have hspot : spot = none := by
    have h0 := World.cell?_spot (h 0 (by omega)).1
    simpa [Addr.add] using h0
  subst hspot
  rw [add_at] at h1
  exact ⟨b, off, _, rfl, World.block_lt_of_cell? w _ h1, h1, by rw [ro_mkL hi]; exact (hP i hi).2⟩

end Go.Proofs.Ytchfonofjbpmaaa.Gf

/-
  SHARDS OF ONE LENGTH. No program's function is named here.
-/

namespace Go.Proofs.Ytchfonofjbpmaaa.Gf
set_option linter.unusedVariables false
set_option linter.unusedSimpArgs false
open Go.RowKit

/-- all of one length -/
def Even (L : List (List UInt8)) : Prop := ∀ i, i < L.length → (ro L i).length = (ro L 0).length
instance (L : List (List UInt8)) : Decidable (Even L) := inferInstanceAs (Decidable (∀ i, i < L.length → (ro L i).length = (ro L 0).length))
def alikeB (L : List (List UInt8)) (n : Int) : Bool := decide ((L.length : Int) = n ∧ Even L)
theorem alikeB_true {L : List (List UInt8)} {n : Int} (h1 : (L.length : Int) = n) (h2 : Even L) : alikeB L n = true := decide_eq_true ⟨h1, h2⟩
theorem alikeB_false1 {L : List (List UInt8)} {n : Int} (h1 : ¬ (L.length : Int) = n) : alikeB L n = false := decide_eq_false fun h => h1 h.1
theorem alikeB_false2 {L : List (List UInt8)} {n : Int} (h1 : ¬ Even L) : alikeB L n = false := decide_eq_false fun h => h1 h.2
def sameL (A B : List (List UInt8)) : Bool := decide (A = B)

end Go.Proofs.Ytchfonofjbpmaaa.Gf

/-
  PLAIN MATHEMATICS: Cauchy's matrices over the field: the checks' product with the generator is nought; any k rows of the generator take nothing but nought to nought. No program is named here.
-/

namespace Go.Proofs.Ytchfonofjbpmaaa.Gf
set_option linter.unusedVariables false
set_option linter.unusedSimpArgs false

/-- the point of a shard -/
def pt (n : Nat) : UInt8 := UInt8.ofNat n
theorem pt_inj {a b : Nat} (ha : a < 256) (hb : b < 256) (h : pt a = pt b) : a = b := by
  have := congrArg UInt8.toNat h
  unfold pt at this
  rw [UInt8.toNat_ofNat', UInt8.toNat_ofNat', Nat.mod_eq_of_lt ha, Nat.mod_eq_of_lt hb] at this
  exact this
theorem pt_ne {a b : Nat} (ha : a < 256) (hb : b < 256) (h : a ≠ b) : pt a ^^^ pt b ≠ 0 := fun e => h (pt_inj ha hb (x_eq_zero.1 e))
def parF (k : Nat) : Mx := fun i j => iv (pt (k + i) ^^^ pt j)
def genF (k : Nat) : Mx := fun i j => if i < k then one i j else parF k (i - k) j
def chkF (k : Nat) : Mx := fun i j => if j < k then parF k i j else one i (j - k)

theorem S_split (n m : Nat) (f : Nat → UInt8) : S (n + m) f = S n f ^^^ S m (fun i => f (n + i)) := by
  induction m with
  | zero => rw [Nat.add_zero]; show S n f = S n f ^^^ 0; rw [x_zero]
  | succ m ih => rw [← Nat.add_assoc, S, ih, S, x_assoc]
/-- the checks' product with the generator -/
theorem chk_gen (k m : Nat) {i j : Nat} (hi : i < m) (hj : j < k) : mm (k + m) (chkF k) (genF k) i j = 0 := by
  unfold mm
  rw [S_split]
  have e1 : S k (fun x => mu (chkF k i x) (genF k x j)) = parF k i j := by
    rw [S_one (k := j) hj (fun x hx hxj => ?_)]
    · unfold chkF genF; rw [if_pos hj, if_pos hj, one_self, mu_one]
    · unfold genF; rw [if_pos hx, one_ne hxj, mu_zero]
  have e2 : S m (fun x => mu (chkF k i (k + x)) (genF k (k + x) j)) = parF k i j := by
    rw [S_one (k := i) hi (fun x hx hxi => ?_)]
    · unfold chkF genF; rw [if_neg (by omega), if_neg (by omega), Nat.add_sub_cancel_left, one_self, one_mu]
    · unfold chkF; rw [if_neg (by omega), Nat.add_sub_cancel_left, one_ne (fun h => hxi h.symm), zero_mu]
  rw [e1, e2, x_self]

/-! Polynomials of less than k numbers, as functions. -/
def PF : Nat → (UInt8 → UInt8) → Prop
  | 0, f => ∀ z, f z = 0
  | k + 1, f => ∃ c h, PF k h ∧ ∀ z, f z = c ^^^ mu z (h z)
theorem PF.congr {k : Nat} {f g : UInt8 → UInt8} (h : PF k f) (e : ∀ z, g z = f z) : PF k g := by
  cases k with
  | zero => intro z; rw [e]; exact h z
  | succ k => obtain ⟨c, h1, h2, h3⟩ := h; exact ⟨c, h1, h2, fun z => by rw [e]; exact h3 z⟩
theorem PF.zero (k : Nat) : PF k (fun _ => 0) := by
  induction k with
  | zero => intro z; rfl
  | succ k ih => exact ⟨0, fun _ => 0, ih, fun z => by rw [mu_zero, x_zero]⟩
theorem PF.mono {k : Nat} {f : UInt8 → UInt8} (h : PF k f) : PF (k + 1) f := by
  induction k generalizing f with
  | zero => exact ⟨0, fun _ => 0, PF.zero 0, fun z => by rw [h z, mu_zero, x_zero]⟩
  | succ k ih => obtain ⟨c, g, h1, h2⟩ := h; exact ⟨c, g, ih h1, h2⟩
theorem PF.add {k : Nat} {f g : UInt8 → UInt8} (hf : PF k f) (hg : PF k g) : PF k (fun z => f z ^^^ g z) := by
  induction k generalizing f g with
  | zero => intro z; show f z ^^^ g z = 0; rw [hf z, hg z]; rfl
  | succ k ih =>
    obtain ⟨c, f1, h1, h2⟩ := hf
    obtain ⟨d, g1, h3, h4⟩ := hg
    refine ⟨c ^^^ d, _, ih h1 h3, fun z => ?_⟩
    show f z ^^^ g z = c ^^^ d ^^^ mu z (f1 z ^^^ g1 z)
    rw [h2, h4, mu_xor, x_assoc, x_assoc, x_left (mu z (f1 z)) d]
theorem PF.smul {k : Nat} {f : UInt8 → UInt8} (a : UInt8) (hf : PF k f) : PF k (fun z => mu a (f z)) := by
  induction k generalizing f with
  | zero => intro z; show mu a (f z) = 0; rw [hf z, mu_zero]
  | succ k ih =>
    obtain ⟨c, f1, h1, h2⟩ := hf
    refine ⟨mu a c, _, ih h1, fun z => ?_⟩
    show mu a (f z) = mu a c ^^^ mu z (mu a (f1 z))
    rw [h2, mu_xor, mu_left a z]
theorem PF.lin {k : Nat} {f : UInt8 → UInt8} (q : UInt8) (hf : PF k f) : PF (k + 1) (fun z => mu (z ^^^ q) (f z)) := by
  have h1 : PF (k + 1) (fun z => mu z (f z)) := ⟨0, f, hf, fun z => by rw [zero_x]⟩
  exact (h1.add (hf.smul q).mono).congr fun z => xor_mu _ _ _
theorem PF.const (c : UInt8) : PF 1 (fun _ => c) := ⟨c, fun _ => 0, fun _ => rfl, fun z => by rw [mu_zero, x_zero]⟩
theorem PF.sum {k n : Nat} {f : Nat → UInt8 → UInt8} (h : ∀ j, j < n → PF k (f j)) : PF k (fun z => S n (fun j => f j z)) := by
  induction n with
  | zero => exact PF.zero k
  | succ n ih => exact (ih fun j hj => h j (by omega)).add (h n (by omega))
/-- less what it is at r it is divided by z less r -/
theorem PF.div {k : Nat} {f : UInt8 → UInt8} (r : UInt8) (hf : PF (k + 1) f) : ∃ g, PF k g ∧ ∀ z, f z = mu (z ^^^ r) (g z) ^^^ f r := by
  induction k generalizing f with
  | zero =>
    obtain ⟨c, f1, h1, h2⟩ := hf
    exact ⟨fun _ => 0, fun _ => rfl, fun z => by rw [h2 z, h2 r, h1 z, h1 r, mu_zero, mu_zero, mu_zero, zero_x]⟩
  | succ k ih =>
    obtain ⟨c, f1, h1, h2⟩ := hf
    obtain ⟨g, hg, hz⟩ := ih h1
    refine ⟨fun z => f1 r ^^^ mu z (g z), ⟨f1 r, g, hg, fun z => rfl⟩, fun z => ?_⟩
    show f z = mu (z ^^^ r) (f1 r ^^^ mu z (g z)) ^^^ f r
    have e1 : mu z (mu (z ^^^ r) (g z)) = mu (z ^^^ r) (mu z (g z)) := mu_left _ _ _
    rw [h2 z, h2 r, hz z, mu_xor, mu_xor, e1, xor_mu z r (f1 r)]
    generalize mu (z ^^^ r) (mu z (g z)) = A
    generalize mu z (f1 r) = B
    generalize mu r (f1 r) = D
    rw [x_assoc (B ^^^ D), x_left A c D, x_assoc B D, x_left D c, x_left D A, x_self, x_zero, x_left B c, x_comm B A]
/-- as many roots as numbers -/
theorem PF.roots {k : Nat} {f : UInt8 → UInt8} (hf : PF k f) (rs : Nat → UInt8) (hd : ∀ i j, i < k → j < k → i ≠ j → rs i ≠ rs j) (hr : ∀ i, i < k → f (rs i) = 0) : ∀ z, f z = 0 := by
  induction k generalizing f with
  | zero => exact hf
  | succ k ih =>
    obtain ⟨g, hg, hz⟩ := hf.div (rs k)
    rw [hr k (by omega)] at hz
    have h0 := ih hg (fun i j hi hj => hd i j (by omega) (by omega)) (fun i hi => by
      have h1 := hr i (by omega)
      rw [hz, x_zero] at h1
      rcases mu_eq_zero.1 h1 with h2 | h2
      · exact absurd (x_eq_zero.1 h2) (hd i k (by omega) (by omega) (by omega))
      · exact h2)
    intro z
    rw [hz, h0 z, mu_zero, x_zero]

/-! Products of all z less q, but one. -/
def PD (q : Nat → UInt8) : Nat → UInt8 → UInt8
  | 0, _ => 1
  | n + 1, z => mu (z ^^^ q n) (PD q n z)
def PE (q : Nat → UInt8) (j : Nat) : Nat → UInt8 → UInt8
  | 0, _ => 1
  | n + 1, z => if n = j then PE q j n z else mu (z ^^^ q n) (PE q j n z)
theorem PE_deg (q : Nat → UInt8) (j n : Nat) : (j < n → PF n (PE q j n)) ∧ (n ≤ j → PF (n + 1) (PE q j n)) := by
  induction n with
  | zero => exact ⟨fun h => by omega, fun _ => PF.const 1⟩
  | succ n ih =>
    refine ⟨fun h => ?_, fun h => ?_⟩
    · by_cases e : n = j
      · exact (ih.2 (by omega)).congr fun z => by rw [PE, if_pos e]
      · exact ((ih.1 (by omega)).lin (q n)).congr fun z => by rw [PE, if_neg e]
    · exact ((ih.2 (by omega)).lin (q n)).congr fun z => by rw [PE, if_neg (by omega)]
theorem PE_far (q : Nat → UInt8) (j n : Nat) (h : n ≤ j) (z : UInt8) : PE q j n z = PD q n z := by
  induction n with
  | zero => rfl
  | succ n ih => rw [PE, if_neg (by omega), ih (by omega), PD]
theorem PE_mul (q : Nat → UInt8) {j n : Nat} (h : j < n) (z : UInt8) : mu (z ^^^ q j) (PE q j n z) = PD q n z := by
  induction n with
  | zero => omega
  | succ n ih =>
    by_cases e : n = j
    · subst e; rw [PE, if_pos rfl, PE_far q n n (Nat.le_refl _), PD]
    · rw [PE, if_neg e, mu_left, ih (by omega), PD]
theorem PE_other (q : Nat → UInt8) {j l n : Nat} (hl : l < n) (hj : l ≠ j) : PE q j n (q l) = 0 := by
  induction n with
  | zero => omega
  | succ n ih =>
    by_cases e : n = l
    · subst e; rw [PE, if_neg hj, x_self, zero_mu]
    · have := ih (by omega)
      rw [PE, this, mu_zero]; split <;> rfl
theorem PE_own (q : Nat → UInt8) (j n : Nat) (hd : ∀ l, l < n → l ≠ j → q j ^^^ q l ≠ 0) : PE q j n (q j) ≠ 0 := by
  induction n with
  | zero => exact (by decide : (1 : UInt8) ≠ 0)
  | succ n ih =>
    have h := ih fun l hl => hd l (by omega)
    rw [PE]
    split
    · exact h
    · exact mu_ne (hd n (by omega) (by assumption)) h
/-- Any k rows of the generator take nothing but nought to nought. -/
theorem gen_rows {k N : Nat} (hN : N ≤ 256) (hk : k ≤ N) (rs : Nat → Nat) (hlt : ∀ i, i < k → rs i < N) (hd : ∀ i j, i < k → j < k → i ≠ j → rs i ≠ rs j) : ¬ IsSing k (fun i j => genF k (rs i) j) := by
  rintro ⟨x, ⟨j0, hj0, hx0⟩, hx⟩
  have hf : PF k (fun z => S k (fun j => mu (x j) (PE pt j k z))) := PF.sum fun j hj => ((PE_deg pt j k).1 hj).smul (x j)
  have hz := hf.roots (fun i => pt (rs i)) (fun i j hi hj hij e => hd i j hi hj hij (pt_inj (by have := hlt i hi; omega) (by have := hlt j hj; omega) e)) (fun i hi => ?_)
  · have h1 := hz (pt j0)
    have h2 : S k (fun j => mu (x j) (PE pt j k (pt j0))) = mu (x j0) (PE pt j0 k (pt j0)) := S_one (k := j0) hj0 fun j hj hne => by rw [PE_other pt hj0 (fun e => hne e.symm), mu_zero]
    have h3 : mu (x j0) (PE pt j0 k (pt j0)) = 0 := by rw [← h2]; exact h1
    rcases mu_eq_zero.1 h3 with h4 | h4
    · exact hx0 h4
    · exact PE_own pt j0 k (fun l hl hne => pt_ne (by omega) (by omega) (fun e => hne e.symm)) h4
  · show S k (fun j => mu (x j) (PE pt j k (pt (rs i)))) = 0
    have hr := hlt i hi
    have h0 := hx i hi
    by_cases hik : rs i < k
    · have e1 : x (rs i) = 0 := by
        rw [← h0]
        unfold mv
        rw [S_one (k := rs i) hik (fun j hj hne => ?_)]
        · show x (rs i) = mu (genF k (rs i) (rs i)) (x (rs i)); unfold genF; rw [if_pos hik, one_self, one_mu]
        · show mu (genF k (rs i) j) (x j) = 0; unfold genF; rw [if_pos hik, one_ne (fun h => hne h.symm), zero_mu]
      rw [S_one (k := rs i) hik (fun j hj hne => by rw [PE_other pt hik (fun e => hne e.symm), mu_zero]), e1, zero_mu]
    · have e1 : S k (fun j => mu (x j) (PE pt j k (pt (rs i)))) = mu (mv k (fun i j => genF k (rs i) j) x i) (PD pt k (pt (rs i))) := by
        unfold mv
        rw [S_mu]
        refine S_congr fun j hj => ?_
        show mu (x j) (PE pt j k (pt (rs i))) = mu (mu (genF k (rs i) j) (x j)) (PD pt k (pt (rs i)))
        have hne : pt (rs i) ^^^ pt j ≠ 0 := pt_ne (by omega) (by omega) (by omega)
        have e2 : genF k (rs i) j = iv (pt (rs i) ^^^ pt j) := by
          unfold genF parF
          rw [if_neg hik, show k + (rs i - k) = rs i by omega]
        rw [e2, ← PE_mul pt hj, mu_comm (iv _) (x j), mu_assoc, ← mu_assoc (iv _), mu_comm (iv _), mu_iv hne, one_mu]
      rw [e1, h0, zero_mu]

end Go.Proofs.Ytchfonofjbpmaaa.Gf

/-
  STRIPES AS LISTS OF SHARDS: what is encoded, updated, added, multiplied. No program's function is named here.
-/

namespace Go.Proofs.Ytchfonofjbpmaaa.Gf
set_option linter.unusedVariables false
set_option linter.unusedSimpArgs false
open Go.RowKit

/-- a parity byte: the sum of the first j products -/
def wd (F : Mx) (L : List (List UInt8)) (i j n : Nat) : UInt8 := S j (fun l => mu (F i l) (co (ro L l) n))
theorem wd_zero (F : Mx) (L : List (List UInt8)) (i n : Nat) : wd F L i 0 n = 0 := rfl
theorem wd_succ (F : Mx) (L : List (List UInt8)) (i j n : Nat) : wd F L i (j + 1) n = wd F L i j n ^^^ mu (F i j) (co (ro L j) n) := rfl
/-- a parity shard -/
def parR (k : Nat) (F : Mx) (L : List (List UInt8)) (i : Nat) : List UInt8 := upto (wd F L i k) (ro L 0).length
theorem parR_length (k : Nat) (F : Mx) (L : List (List UInt8)) (i : Nat) : (parR k F L i).length = (ro L 0).length := upto_length _ _
/-- all shards of data shards -/
def encL (m k : Nat) (F : Mx) (L : List (List UInt8)) : List (List UInt8) := L ++ mkL m (parR k F L)
theorem encL_length (m k : Nat) (F : Mx) (L : List (List UInt8)) : (encL m k F L).length = L.length + m := by unfold encL; rw [List.length_append, mkL_length]
theorem upto_co (p : List UInt8) : upto (co p) p.length = p := co_ext (upto_length _ _) fun i hi => by rw [upto_length] at hi; exact co_map_range _ hi
theorem co_upto_in {f : Nat → UInt8} {k i : Nat} (h : i < k) : co (upto f k) i = f i := co_map_range f h

end Go.Proofs.Ytchfonofjbpmaaa.Gf

/-
  SUMS OF SHARDS, place by place. No program's function is named here.
-/

namespace Go.Proofs.Ytchfonofjbpmaaa.Gf
set_option linter.unusedVariables false
set_option linter.unusedSimpArgs false
open Go.RowKit

/-- the sums, place by place -/
def addL (A B : List (List UInt8)) : List (List UInt8) := mkL A.length (fun i => upto (fun n => co (ro A i) n ^^^ co (ro B i) n) (ro A i).length)
/-- .. of the first i shards, and of the shard i the first c places -/
def adP (A B : List (List UInt8)) (i c : Nat) : List (List UInt8) := mkL A.length (fun r => upto (fun n => if r < i ∨ (r = i ∧ n < c) then co (ro A r) n ^^^ co (ro B r) n else co (ro A r) n) (ro A r).length)
theorem adP_length (A B : List (List UInt8)) (i c : Nat) : (adP A B i c).length = A.length := mkL_length _ _
theorem adP_row {A B : List (List UInt8)} {i c r : Nat} (h : r < A.length) : (ro (adP A B i c) r).length = (ro A r).length := by unfold adP; rw [ro_mkL h, upto_length]
theorem adP_zero (A B : List (List UInt8)) : adP A B 0 0 = A := by
  refine ro_ext (adP_length _ _ _ _) fun r hr => ?_
  rw [adP_length] at hr
  unfold adP
  rw [ro_mkL hr]
  conv => rhs; rw [← upto_co (ro A r)]
  exact upto_congr fun n hn => if_neg (by omega)
theorem adP_all {A B : List (List UInt8)} {i : Nat} (h : A.length ≤ i ∨ B.length ≤ i) : adP A B i 0 = addL A B := by
  refine mkL_congr fun r hr => upto_congr fun n hn => ?_
  by_cases e : r < i
  · exact if_pos (Or.inl e)
  · rw [if_neg (by omega), ro_ge (L := B) (by omega)]
    show _ = _ ^^^ (0 : UInt8)
    rw [x_zero]
theorem adP_next {A B : List (List UInt8)} {i c : Nat} (hi : i < A.length) (h : (ro A i).length ≤ c ∨ (ro B i).length ≤ c) : adP A B i c = adP A B (i + 1) 0 := by
  refine mkL_congr fun r hr => upto_congr fun n hn => ?_
  by_cases e : r < i
  · rw [if_pos (Or.inl e), if_pos (Or.inl (by omega))]
  · by_cases e2 : r = i
    · subst e2
      rw [if_pos (show r < r + 1 ∨ _ from Or.inl (by omega))]
      by_cases e3 : n < c
      · rw [if_pos (Or.inr ⟨rfl, e3⟩)]
      · rw [if_neg (by omega), co_ge (p := ro B r) (by omega), x_zero]
    · rw [if_neg (by omega), if_neg (by omega)]
theorem adP_at {A B : List (List UInt8)} {i c : Nat} (hi : i < A.length) (hc : c < (ro A i).length) : co (ro (adP A B i c) i) c = co (ro A i) c := by
  unfold adP
  rw [ro_mkL hi, co_upto_in hc]
  exact if_neg (by omega)
theorem adP_step {A B : List (List UInt8)} {i c : Nat} (hi : i < A.length) (hc : c < (ro A i).length) : setL (adP A B i c) i c (co (ro A i) c ^^^ co (ro B i) c) = adP A B i (c + 1) := by
  refine ro_ext (by rw [setL_length, adP_length, adP_length]) fun r hr => ?_
  rw [setL_length, adP_length] at hr
  unfold setL
  rw [ro_set (by rw [adP_length]; exact hi)]
  by_cases e : r = i
  · subst e
    rw [if_pos rfl]
    refine co_ext (by rw [List.length_set, adP_row hr, adP_row hr]) fun n hn => ?_
    rw [List.length_set, adP_row hr] at hn
    rw [co_at (by rw [adP_row hr]; exact hc)]
    unfold adP
    rw [ro_mkL hr, ro_mkL hr, co_upto_in hn, co_upto_in hn]
    by_cases e2 : n = c
    · subst e2; rw [if_pos rfl, if_pos (Or.inr ⟨rfl, by omega⟩)]
    · rw [if_neg e2]
      by_cases e3 : n < c
      · rw [if_pos (Or.inr ⟨rfl, e3⟩), if_pos (Or.inr ⟨rfl, by omega⟩)]
      · rw [if_neg (by omega), if_neg (by omega)]
  · rw [if_neg e]
    unfold adP
    rw [ro_mkL hr, ro_mkL hr]
    refine upto_congr fun n hn => ?_
    by_cases e3 : r < i
    · rw [if_pos (Or.inl e3), if_pos (Or.inl e3)]
    · rw [if_neg (by omega), if_neg (by omega)]

end Go.Proofs.Ytchfonofjbpmaaa.Gf

/-
  WHICH NUMBERS OF SHARDS MAY BE; points as bytes. No program's function is named here.
-/

namespace Go.Proofs.Ytchfonofjbpmaaa.Gf
set_option linter.unusedVariables false
set_option linter.unusedSimpArgs false
open Go.RowKit

/-- so many shards may be -/
def OkC (k m : Int) : Prop := 1 ≤ k ∧ 0 ≤ m ∧ k + m ≤ 256
theorem OkC.nat {k m : Int} (h : OkC k m) : ∃ k' m' : Nat, k = (k' : Int) ∧ m = (m' : Int) ∧ 1 ≤ k' ∧ k' + m' ≤ 256 := by
  obtain ⟨h1, h2, h3⟩ := h
  obtain ⟨k', rfl⟩ := Int.eq_ofNat_of_zero_le (show 0 ≤ k by omega)
  obtain ⟨m', rfl⟩ := Int.eq_ofNat_of_zero_le h2
  exact ⟨k', m', rfl, rfl, by omega, by omega⟩
theorem okC_mk {k m : Nat} (h1 : 1 ≤ k) (h2 : k + m ≤ 256) : OkC k m := ⟨by omega, by omega, by omega⟩
theorem pt_toNat {n : Nat} (h : n < 256) : (pt n).toNat = n := by unfold pt; rw [UInt8.toNat_ofNat']; exact Nat.mod_eq_of_lt h
theorem pt_xor {a b : Nat} (ha : a < 256) (hb : b < 256) : bits .xor .u8 (a : Int) (b : Int) = (((pt a ^^^ pt b).toNat : Nat) : Int) := by
  rw [u8_xor_nat _ _ ha hb, UInt8.toNat_xor, pt_toNat ha, pt_toNat hb]

end Go.Proofs.Ytchfonofjbpmaaa.Gf

/-
  WHAT ENCODING AND ASKING ANSWER, by k, m and the shards: errors and shards. No program's function is named here.
-/

namespace Go.Proofs.Ytchfonofjbpmaaa.Gf
set_option linter.unusedVariables false
set_option linter.unusedSimpArgs false
open Go.RowKit

instance (k m : Int) : Decidable (OkC k m) := inferInstanceAs (Decidable (1 ≤ k ∧ 0 ≤ m ∧ k + m ≤ 256))
def encX (k m : Int) (L : List (List UInt8)) : Int := if OkC k m then (if (L.length : Int) = k ∧ Even L then 0 else 60) else 50
def encR (k m : Int) (L : List (List UInt8)) : List (List UInt8) := if OkC k m ∧ (L.length : Int) = k ∧ Even L then encL m.toNat k.toNat (parF k.toNat) L else []
theorem encX_bad {k m : Int} {L : List (List UInt8)} (h : ¬ OkC k m) : encX k m L = 50 ∧ encR k m L = [] := ⟨if_neg h, if_neg fun e => h e.1⟩
theorem encX_shard {k m : Int} {L : List (List UInt8)} (h : OkC k m) (h2 : ¬ ((L.length : Int) = k ∧ Even L)) : encX k m L = 60 ∧ encR k m L = [] := ⟨by unfold encX; rw [if_pos h, if_neg h2], if_neg fun e => h2 e.2⟩
theorem encX_ok {k m : Nat} {L : List (List UInt8)} (h : OkC k m) (h2 : (L.length : Int) = k) (h3 : Even L) : encX k m L = 0 ∧ encR k m L = encL m k (parF k) L := ⟨by unfold encX; rw [if_pos h, if_pos ⟨h2, h3⟩], if_pos ⟨h, h2, h3⟩⟩
/-- which of the three -/
theorem enc_cases (k m : Int) (L : List (List UInt8)) : (¬ OkC k m) ∨ (OkC k m ∧ ¬ ((L.length : Int) = k ∧ Even L)) ∨ (OkC k m ∧ (L.length : Int) = k ∧ Even L) := by
  by_cases h : OkC k m
  · by_cases h2 : (L.length : Int) = k ∧ Even L
    · exact Or.inr (Or.inr ⟨h, h2⟩)
    · exact Or.inr (Or.inl ⟨h, h2⟩)
  · exact Or.inl h
def fitX (k m : Int) (L : List (List UInt8)) : Int := if OkC k m then (if (L.length : Int) = k + m ∧ Even L then 0 else 60) else 50
def fitB (k m : Int) (L : List (List UInt8)) : Bool := decide (OkC k m ∧ (L.length : Int) = k + m ∧ Even L ∧ encL m.toNat k.toNat (parF k.toNat) (L.take k.toNat) = L)
theorem fitX_bad {k m : Int} {L : List (List UInt8)} (h : ¬ OkC k m) : fitX k m L = 50 ∧ fitB k m L = false := ⟨if_neg h, decide_eq_false fun e => h e.1⟩
theorem fitX_shard {k m : Int} {L : List (List UInt8)} (h : OkC k m) (h2 : ¬ ((L.length : Int) = k + m ∧ Even L)) : fitX k m L = 60 ∧ fitB k m L = false := ⟨by unfold fitX; rw [if_pos h, if_neg h2], decide_eq_false fun e => h2 ⟨e.2.1, e.2.2.1⟩⟩
theorem fitX_ok {k m : Nat} {L : List (List UInt8)} (h : OkC k m) (h2 : (L.length : Int) = k + m) (h3 : Even L) : fitX k m L = 0 ∧ fitB k m L = sameL (encL m k (parF k) (L.take k)) L := by
  refine ⟨by unfold fitX; rw [if_pos h, if_pos ⟨h2, h3⟩], ?_⟩
  unfold fitB sameL
  rw [Bool.eq_iff_iff, decide_eq_true_eq, decide_eq_true_eq]
  exact ⟨fun e => e.2.2.2, fun e => ⟨h, h2, h3, e⟩⟩
theorem fit_cases (k m : Int) (L : List (List UInt8)) : (¬ OkC k m) ∨ (OkC k m ∧ ¬ ((L.length : Int) = k + m ∧ Even L)) ∨ (OkC k m ∧ (L.length : Int) = k + m ∧ Even L) := by
  by_cases h : OkC k m
  · by_cases h2 : (L.length : Int) = k + m ∧ Even L
    · exact Or.inr (Or.inr ⟨h, h2⟩)
    · exact Or.inr (Or.inl ⟨h, h2⟩)
  · exact Or.inl h
theorem even_take {L : List (List UInt8)} (h : Even L) (k : Nat) : Even (L.take k) := fun i hi => by
  rw [List.length_take] at hi
  rw [ro_take (by omega), ro_take (by omega)]
  exact h i (by omega)
theorem small_take {L : List (List UInt8)} (h : Small L) (k : Nat) : Small (L.take k) := ⟨by rw [List.length_take]; have := h.1; omega, fun i => by
  by_cases e : i < k
  · rw [ro_take e]; exact h.2 i
  · rw [ro_ge (by rw [List.length_take]; omega)]; simp⟩

end Go.Proofs.Ytchfonofjbpmaaa.Gf

