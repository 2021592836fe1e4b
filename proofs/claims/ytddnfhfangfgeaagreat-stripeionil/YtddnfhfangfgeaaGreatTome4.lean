/- TEXTS JOINED: SsOwn, MxRInvA, MxRInvB, MxRInvC, CaMath, CaOk, CaLaws, CaRefC, CaRefA, CaRefP, CaRefG, CaCA, CaCB, CaCP, BkRd, FarL, OuS, BkEvM, BkMath, BkAddM, BkX. -/
import Derived.Test.YtddnfhfangfgeaaGreatTome3
import Derived.Test.YtddnfhfangfgeaaGreatTome1
import Derived.BigQuiet
import Derived.Deep.RegionWith
import Derived.Deep.RegionHeld3
import Derived.Test.YtddnfhfangfgeaaGreatTome2
import Derived.Deep.RegionLaw
import Derived.Shelf.Abstract
import Derived.Laws.EntriesVeiled
namespace Go.Proofs.YtddnfhfangfgeaaGreat.Gf
set_option linter.unusedVariables false
set_option linter.unusedSimpArgs false
open Go.RowKit
/-- 'append(s, p...)', s a row of bytes of the call's own, p whatever slice of bytes: and where the row lies then. -/
theorem run_append_rd2 {P : Program} (w : World) (t ty : TypeId) (base : Nat) (e : TypeId) (i : TypeInfo) (ht : P.underlying t = some (.slice e)) (hi : P.info? e = some i) (hz : i.zero = some (.int .u8 0)) (hsize : i.size = 1) (hby : i.bytes = 1)
    (v : Value) (n : Nat) (xs : List Value) (hown : w.ownsRow base e 1 v n xs) (va : Value) (p : List UInt8) (hr : Rd w va p) (hl : n + p.length ≤ 1000000) (hbase : base ≤ w.heap.size) :
    ∃ v' w', (Builtin.append_ #[t, t] ty #[v, va]).run P w = .ok v' w' ∧ w'.ownsRow base e 1 v' (n + p.length) (xs ++ p.map vb) ∧ w.grownBy w' v.ownBlock ∧ (v'.ownBlock = v.ownBlock ∨ v'.ownBlock = some w.heap.size) := by
  rcases hr with ⟨ao, cap, rfl, rfl, hc, hn⟩ | ⟨b, off, cap, hp0, rfl, h1, h2, h3, hpc⟩
  · rcases ao with _ | ad
    · have := hn rfl
      subst this
      exact ⟨v, w, run_append_owned_none (P := P) (w := w) base t ty e i 1 ht hi v n xs hown, by simpa using hown, World.grownBy.refl _ _, Or.inl rfl⟩
    · obtain ⟨v', w', hr, h2, h3, _, h5⟩ := run_append_own_at (P := P) w base t ty e i (.int .u8 0) 1 1 ht hi hz hsize hby rfl (by decide) v n xs hown ad 0 cap [] rfl (by intro j u hj; simp at hj) (by intro u hu; simp at hu) (by unfold maxLen; omega) (by omega) hbase
      exact ⟨v', w', hr, by simpa using h2, h3, h5⟩
  · obtain ⟨v', w', hr, h2, h3, _, h5⟩ := run_append_own_at (P := P) w base t ty e i (.int .u8 0) 1 1 ht hi hz hsize hby rfl (by decide) v n xs hown ⟨b, off, none⟩ p.length cap ((p.take p.length).map vb) (by simp) (news_of hpc) (vb_one _) (by unfold maxLen; omega) (by omega) hbase
    exact ⟨v', w', hr, by simpa using h2, h3, h5⟩
theorem wpList_append_rd2 {P : Program} (w : World) {ops : Array Oper} {rest : List Oper} {o : Oper} {a : Act} {Q : Exit → Act → World → Prop} (hgd : o.guard = none) (s x : Operand) (t : TypeId)
    (ho : o.op = .call { callee := .builtin .append, args := #[s, x], argTypes := #[t, t] })
    (base : Nat) (e : TypeId) (i : TypeInfo) (ht : P.underlying t = some (.slice e)) (hi : P.info? e = some i) (hz : i.zero = some (.int .u8 0)) (hsize : i.size = 1) (hby : i.bytes = 1)
    (v : Value) (n : Nat) (xs : List Value) (hs : a.eval s = v) (hown : w.ownsRow base e 1 v n xs) (va : Value) (p : List UInt8) (hx : a.eval x = va) (hr : Rd w va p) (hl : n + p.length ≤ 1000000) (hbase : base ≤ w.heap.size)
    (h : ∀ v' w', w'.ownsRow base e 1 v' (n + p.length) (xs ++ p.map vb) → w.grownBy w' v.ownBlock → (v'.ownBlock = v.ownBlock ∨ v'.ownBlock = some w.heap.size) → wpList P ops Q rest (a.put o.dst v') w') : wpList P ops Q (o :: rest) a w := by
  refine wpList_plain hgd fun K hK => ?_
  obtain ⟨v', w', hrun, h2, h3, h4⟩ := run_append_rd2 w t o.type base e i ht hi hz hsize hby v n xs hown va p hr hl hbase
  unfold Oper.wp execOp
  simp only [ho, resolve, invoke, builtin, Sem.run_bind, Sem.run_pure, Result.andThen_ok, List.map_toArray, List.map_cons, List.map_nil, hs, hx, hrun]
  exact hK _ _ (h v' w' h2 h3 h4)
/-- 'append(s, x)' on a row of slices of the call's own, x one slice, laid as a list of one. -/
theorem wpList_append_one {P : Program} (w : World) {ops : Array Oper} {rest : List Oper} {o : Oper} {a : Act} {Q : Exit → Act → World → Prop} (hgd : o.guard = none) (s x : Operand) (t : TypeId)
    (ho : o.op = .call { callee := .builtin .append, args := #[s, x], argTypes := #[t, t] })
    (base : Nat) (e : TypeId) (i : TypeInfo) (ht : P.underlying t = some (.slice e)) (hi : P.info? e = some i) (hz : i.zero = some (.slice none 0 0)) (hsize : i.size = 1) (hby : i.bytes = 24)
    (v : Value) (n : Nat) (xs : List Value) (hs : a.eval s = v) (hown : w.ownsRow base e 1 v n xs) (b c : Nat) (u : Value) (hx : a.eval x = .slice (some ⟨b, 0, none⟩) 1 c) (hr : w.cell? ⟨b, 0, none⟩ = some u) (hu : u.oneCell' = true) (hl : n ≤ 100000) (hbase : base ≤ w.heap.size)
    (h : ∀ v' w', w'.ownsRow base e 1 v' (n + 1) (xs ++ [u]) → w.grownBy w' v.ownBlock → (v'.ownBlock = v.ownBlock ∨ v'.ownBlock = some w.heap.size) → wpList P ops Q rest (a.put o.dst v') w') : wpList P ops Q (o :: rest) a w := by
  refine wpList_plain hgd fun K hK => ?_
  obtain ⟨v', w', hrun, h2, h3, _, h5⟩ := run_append_own_at (P := P) w base t o.type e i (.slice none 0 0) 1 24 ht hi hz hsize hby rfl (by decide) v n xs hown ⟨b, 0, none⟩ 1 c [u] rfl (by intro j y hj; rw [add_at, Nat.zero_add]; rcases j with _ | j <;> simp at hj; subst hj; exact hr) (by intro y hy; simp at hy; rw [hy]; exact hu) (by unfold maxLen; omega) (by omega) hbase
  unfold Oper.wp execOp
  simp only [ho, resolve, invoke, builtin, Sem.run_bind, Sem.run_pure, Result.andThen_ok, List.map_toArray, List.map_cons, List.map_nil, hs, hx, hrun]
  exact hK _ _ (h v' w' h2 h3 h5)
def OwnP (w : World) (base u : Nat) (x : Value) (p : List UInt8) : Prop := w.ownsRow base u 1 x p.length (p.map vb)
theorem OwnP.kept {w w' : World} {base u : Nat} {x : Value} {p : List UInt8} (h : OwnP w base u x p) {r : Option Nat} (hg : w.grownBy w' r) (hne : x.ownBlock = none ∨ x.ownBlock ≠ r) : OwnP w' base u x p := World.ownsRow.kept h hg hne
theorem OwnP.alloc {w : World} {base u : Nat} {x : Value} {p : List UInt8} (h : OwnP w base u x p) (o : Obj) : OwnP (w.alloc o) base u x p := World.ownsRow.alloc h o
theorem OwnP.one {w : World} {base u : Nat} {x : Value} {p : List UInt8} (h : OwnP w base u x p) : x.oneCell' = true := by
  obtain ⟨a, c, rfl⟩ := owns_form h
  rfl
theorem OwnP.lt {w : World} {base u : Nat} {x : Value} {p : List UInt8} (h : OwnP w base u x p) {k : Nat} (hk : x.ownBlock = some k) : base ≤ k ∧ k < w.heap.size := World.ownsRow.lt h k hk
/-- rows of the call's own in a row of slices of its own -/
structure RowsO (w : World) (base u : Nat) (v : Value) (vals : List Value) (row : Nat → List UInt8) : Prop where
  own : ∀ (i : Nat) (x : Value), vals[i]? = some x → OwnP w base u x (row i)
  diff : ∀ (i j : Nat) (x y : Value), vals[i]? = some x → vals[j]? = some y → i ≠ j → x.ownBlock = none ∨ x.ownBlock ≠ y.ownBlock
  out : ∀ (i : Nat) (x : Value), vals[i]? = some x → x.ownBlock = none ∨ x.ownBlock ≠ v.ownBlock
theorem RowsO.nil (w : World) (base u : Nat) (v : Value) (row : Nat → List UInt8) : RowsO w base u v [] row :=
  ⟨fun i x h => by simp at h, fun i j x y h => by simp at h, fun i x h => by simp at h⟩
theorem block_apart {x : Value} {s : Nat} {r : Option Nat} (h : ∀ k, x.ownBlock = some k → k < s) (hr : ∀ k, r = some k → s ≤ k) : x.ownBlock = none ∨ x.ownBlock ≠ r := by
  cases hx : x.ownBlock with
  | none => exact Or.inl rfl
  | some k =>
    refine Or.inr fun e => ?_
    have h1 := h k hx
    have h2 := hr k e.symm
    omega
theorem block_apart' {x : Value} {s : Nat} {r : Option Nat} (h : ∀ k, x.ownBlock = some k → s ≤ k) (hr : ∀ k, r = some k → k < s) : x.ownBlock = none ∨ x.ownBlock ≠ r := by
  cases hx : x.ownBlock with
  | none => exact Or.inl rfl
  | some k =>
    refine Or.inr fun e => ?_
    have h1 := h k hx
    have h2 := hr k e.symm
    omega
/-- one row more: laid in a block of its own, then appended -/
theorem RowsO.push {wr w1 w2 : World} {base u bt : Nat} {v v' x : Value} {vals : List Value} {row : Nat → List UInt8} {o o' : Obj} (h : RowsO wr base u v vals row) (hv : wr.ownsRow base bt 1 v vals.length vals)
    (g1 : (wr.alloc o).grownBy w1 (some wr.heap.size)) (hx : OwnP w1 base u x (row vals.length)) (hb1 : ∀ k, x.ownBlock = some k → wr.heap.size ≤ k)
    (g2 : (w1.alloc o').grownBy w2 v.ownBlock) (hb2 : v'.ownBlock = v.ownBlock ∨ v'.ownBlock = some (w1.alloc o').heap.size) : RowsO w2 base u v' (vals ++ [x]) row := by
  have s1 : wr.heap.size + 1 ≤ w1.heap.size := by have := g1.size; simpa using this
  have old : ∀ (i : Nat) (y : Value), vals[i]? = some y → ∀ k, y.ownBlock = some k → k < wr.heap.size := fun i y hy k hk => ((h.own i y hy).lt hk).2
  have vlt : ∀ k, v.ownBlock = some k → k < wr.heap.size := fun k hk => (World.ownsRow.lt hv k hk).2
  have xlt : ∀ k, x.ownBlock = some k → k < w1.heap.size := fun k hk => (hx.lt hk).2
  have keep : ∀ i y, vals[i]? = some y → OwnP w2 base u y (row i) := fun i y hy =>
    ((((h.own i y hy).alloc o).kept g1 (block_apart (old i y hy) (fun k e => by cases e; exact Nat.le_refl _))).alloc o').kept g2 (h.out i y hy)
  have xkeep : OwnP w2 base u x (row vals.length) := (hx.alloc o').kept g2 (block_apart' hb1 vlt)
  have at_end : ∀ i y, (vals ++ [x])[i]? = some y → (vals[i]? = some y ∧ i < vals.length) ∨ (i = vals.length ∧ y = x) := fun i y hy => by
    by_cases hi : i < vals.length
    · rw [List.getElem?_append_left hi] at hy; exact Or.inl ⟨hy, hi⟩
    · rw [List.getElem?_append_right (by omega)] at hy
      have : i - vals.length = 0 := by
        rcases Nat.eq_zero_or_pos (i - vals.length) with e | e
        · exact e
        · rw [List.getElem?_eq_none (by simp; omega)] at hy; cases hy
      rw [this] at hy
      simp at hy
      exact Or.inr ⟨by omega, hy.symm⟩
  have vout : ∀ y : Value, (∀ k, y.ownBlock = some k → k < w1.heap.size) → (y.ownBlock = none ∨ y.ownBlock ≠ v.ownBlock) → (y.ownBlock = none ∨ y.ownBlock ≠ v'.ownBlock) := fun y hy ho => by
    rcases hb2 with e | e
    · rw [e]; exact ho
    · refine block_apart hy (fun k hk => ?_)
      rw [e] at hk; simp at hk; omega
  refine ⟨fun i y hy => ?_, fun i j y z hy hz hij => ?_, fun i y hy => ?_⟩
  · rcases at_end i y hy with ⟨e, _⟩ | ⟨rfl, rfl⟩
    · exact keep i y e
    · exact xkeep
  · rcases at_end i y hy with ⟨e, _⟩ | ⟨rfl, rfl⟩
    · rcases at_end j z hz with ⟨e', _⟩ | ⟨rfl, rfl⟩
      · exact h.diff i j y z e e' hij
      · exact block_apart (old i y e) hb1
    · rcases at_end j z hz with ⟨e', _⟩ | ⟨rfl, rfl⟩
      · exact block_apart' hb1 (old j z e')
      · exact absurd rfl hij
  · rcases at_end i y hy with ⟨e, _⟩ | ⟨rfl, rfl⟩
    · exact vout y (fun k hk => by have := old i y e k hk; omega) (h.out i y e)
    · exact vout y xlt (block_apart' hb1 vlt)
/-- one row, told anew by an append, and stored back -/
theorem RowsO.put {wr w6 w7 : World} {base u bt G n C k : Nat} {x x' : Value} {vals : List Value} {row row' : Nat → List UInt8} (h : RowsO wr base u (.slice (some ⟨G, 0, none⟩) n C) vals row) (hv : wr.ownsRow base bt 1 (.slice (some ⟨G, 0, none⟩) n C) n vals)
    (hk : vals[k]? = some x) (hB : Below wr.heap.size wr w6) (hg : w6.grownBy w7 x.ownBlock) (hx : OwnP w7 base u x' (row' k)) (hb : x'.ownBlock = x.ownBlock ∨ x'.ownBlock = some w6.heap.size) (hrow : ∀ i, i ≠ k → row' i = row i) :
    (w7.setCell ⟨G, k, none⟩ x').ownsRow base bt 1 (.slice (some ⟨G, 0, none⟩) n C) n (vals.set k x') ∧ RowsO (w7.setCell ⟨G, k, none⟩ x') base u (.slice (some ⟨G, 0, none⟩) n C) (vals.set k x') row' := by
  have hG : G < wr.heap.size := (World.ownsRow.lt hv G rfl).2
  have xo := h.out k x hk
  have v6 := owns_later hv hB
  have v7 : w7.ownsRow base bt 1 (.slice (some ⟨G, 0, none⟩) n C) n vals := World.ownsRow.kept v6 hg (by
    rcases xo with e | e
    · right; rw [e]; simp [Value.ownBlock]
    · right; exact fun h => e h.symm)
  obtain ⟨v8, g8⟩ := World.ownsRow.stored v7 k x'
  have x'o : x'.ownBlock = none ∨ x'.ownBlock ≠ some G := by
    rcases hb with e | e
    · rw [e]; exact xo
    · right; rw [e]; intro h; cases h; have := hB.size; omega
  have old : ∀ (i : Nat) (y : Value), vals[i]? = some y → ∀ k, y.ownBlock = some k → k < wr.heap.size := fun i y hy k hk => ((h.own i y hy).lt hk).2
  have sets : ∀ (i : Nat) (y : Value), (vals.set k x')[i]? = some y → (i = k ∧ y = x') ∨ (i ≠ k ∧ vals[i]? = some y) := fun i y hy => by
    by_cases e : i = k
    · subst e
      have hlt : i < vals.length := by
        rcases Nat.lt_or_ge i vals.length with h | h
        · exact h
        · rw [List.getElem?_eq_none h] at hk; cases hk
      rw [List.getElem?_set_self hlt] at hy
      exact Or.inl ⟨rfl, by cases hy; rfl⟩
    · rw [List.getElem?_set_ne (fun h => e h.symm)] at hy
      exact Or.inr ⟨e, hy⟩
  have x'd : ∀ (j : Nat) (z : Value), vals[j]? = some z → j ≠ k → x'.ownBlock = none ∨ x'.ownBlock ≠ z.ownBlock := fun j z hz hj => by
    rcases hb with e | e
    · rw [e]; exact h.diff k j x z hk hz (fun h => hj h.symm)
    · refine block_apart' (s := wr.heap.size) (fun q hq => ?_) (old j z hz)
      rw [e] at hq; cases hq; exact hB.size
  refine ⟨v8, ⟨fun i y hy => ?_, fun i j y z hy hz hij => ?_, fun i y hy => ?_⟩⟩
  · rcases sets i y hy with ⟨rfl, rfl⟩ | ⟨e, hy⟩
    · exact hx.kept g8 x'o
    · rw [hrow i e]
      exact (World.ownsRow.kept (World.ownsRow.kept (owns_later (h.own i y hy) hB) hg (h.diff i k y x hy hk e)) g8 (h.out i y hy))
  · rcases sets i y hy with ⟨ei, ey⟩ | ⟨ei, hy'⟩
    · rcases sets j z hz with ⟨ej, ez⟩ | ⟨ej, hz'⟩
      · exact absurd (ei.trans ej.symm) hij
      · rw [ey]; exact x'd j z hz' ej
    · rcases sets j z hz with ⟨ej, ez⟩ | ⟨ej, hz'⟩
      · rw [ez]
        have h1 := x'd i y hy' ei
        cases hyo : y.ownBlock with
        | none => exact Or.inl rfl
        | some q =>
          right
          rcases h1 with h1 | h1
          · rw [h1]; simp
          · rw [hyo] at h1; exact fun h => h1 h.symm
      · exact h.diff i j y z hy' hz' hij
  · rcases sets i y hy with ⟨rfl, rfl⟩ | ⟨e, hy⟩
    · exact x'o
    · exact h.out i y hy
theorem RowsO.outer {wr w6 w7 : World} {base u bt G n C k : Nat} {x : Value} {vals : List Value} {row : Nat → List UInt8} (h : RowsO wr base u (.slice (some ⟨G, 0, none⟩) n C) vals row) (hv : wr.ownsRow base bt 1 (.slice (some ⟨G, 0, none⟩) n C) n vals)
    (hk : vals[k]? = some x) (hkn : k < n) (hB : Below wr.heap.size wr w6) (hg : w6.grownBy w7 x.ownBlock) : w7.cell? ⟨G, k, none⟩ = some x ∧ w7.frozen? ⟨G, k, none⟩ = false := by
  have v7 : w7.ownsRow base bt 1 (.slice (some ⟨G, 0, none⟩) n C) n vals := World.ownsRow.kept (owns_later hv hB) hg (by
    rcases h.out k x hk with e | e
    · right; rw [e]; simp [Value.ownBlock]
    · right; exact fun h => e h.symm)
  exact ⟨by rw [World.ownsRow.cellAt v7 k (by omega), hk], World.ownsRow.frozenAt v7 k⟩
theorem Rd.grown {w w' : World} {v : Value} {p : List UInt8} {G : Nat} (h : Rd w v p) (hg : w.grownBy w' (some G)) (ha : Apart G v) : Rd w' v p := by
  rcases h with h | ⟨b, off, cap, h1, h2, h3, h4, h5, h6⟩
  · exact Or.inl h
  · have hb : b ≠ G := by
      rcases ha _ _ _ h2 with e | e
      · exact absurd (List.length_eq_zero_iff.1 e) h1
      · exact e
    exact Or.inr ⟨b, off, cap, h1, h2, h3, h4, Nat.lt_of_lt_of_le h5 hg.size, fun i hi => (hg.cell_far ⟨b, off + i, none⟩ h5 (fun e => hb (by cases e; rfl))).trans (h6 i hi)⟩
end Go.Proofs.YtddnfhfangfgeaaGreat.Gf







namespace Go.Proofs.YtddnfhfangfgeaaGreat.Gf
set_option linter.unusedVariables false
set_option linter.unusedSimpArgs false
/-- the point of a shard -/
def pt (n : Nat) : UInt8 := UInt8.ofNat n
theorem pt_inj {a b : Nat} (ha : a < 256) (hb : b < 256) (h : pt a = pt b) : a = b := by
  have := congrArg UInt8.toNat h
  unfold pt at this
  rw [UInt8.toNat_ofNat', UInt8.toNat_ofNat', Nat.mod_eq_of_lt ha, Nat.mod_eq_of_lt hb] at this
  exact this
theorem pt_ne {a b : Nat} (ha : a < 256) (hb : b < 256) (h : a ≠ b) : pt a ^^^ pt b ≠ 0 := fun e => h (pt_inj ha hb (x_eq_zero.1 e))
def parF (k : Nat) : Mx := fun i j => iv (pt (k + i) ^^^ pt j)
theorem S_split (n m : Nat) (f : Nat → UInt8) : S (n + m) f = S n f ^^^ S m (fun i => f (n + i)) := by
  induction m with
  | zero => rw [Nat.add_zero]; show S n f = S n f ^^^ 0; rw [x_zero]
  | succ m ih => rw [← Nat.add_assoc, S, ih, S, x_assoc]
def PF : Nat → (UInt8 → UInt8) → Prop
  | 0, f => ∀ z, f z = 0
  | k + 1, f => ∃ c h, PF k h ∧ ∀ z, f z = c ^^^ mu z (h z)
theorem PF.congr {k : Nat} {f g : UInt8 → UInt8} (h : PF k f) (e : ∀ z, g z = f z) : PF k g := by
  cases k with
  | zero => intro z; rw [e]; exact h z
  | succ k => obtain ⟨c, h1, h2, h3⟩ := h; exact ⟨c, h1, h2, fun z => by rw [e]; exact h3 z⟩
theorem PF.zero (k : Nat) : PF k (fun _ => 0) := by
  induction k with
  | zero => intro z; rfl
  | succ k ih => exact ⟨0, fun _ => 0, ih, fun z => by rw [mu_zero, x_zero]⟩
theorem PF.mono {k : Nat} {f : UInt8 → UInt8} (h : PF k f) : PF (k + 1) f := by
  induction k generalizing f with
  | zero => exact ⟨0, fun _ => 0, PF.zero 0, fun z => by rw [h z, mu_zero, x_zero]⟩
  | succ k ih => obtain ⟨c, g, h1, h2⟩ := h; exact ⟨c, g, ih h1, h2⟩
theorem PF.add {k : Nat} {f g : UInt8 → UInt8} (hf : PF k f) (hg : PF k g) : PF k (fun z => f z ^^^ g z) := by
  induction k generalizing f g with
  | zero => intro z; show f z ^^^ g z = 0; rw [hf z, hg z]; rfl
  | succ k ih =>
    obtain ⟨c, f1, h1, h2⟩ := hf
    obtain ⟨d, g1, h3, h4⟩ := hg
    refine ⟨c ^^^ d, _, ih h1 h3, fun z => ?_⟩
    show f z ^^^ g z = c ^^^ d ^^^ mu z (f1 z ^^^ g1 z)
    rw [h2, h4, mu_xor, x_assoc, x_assoc, x_left (mu z (f1 z)) d]
theorem PF.smul {k : Nat} {f : UInt8 → UInt8} (a : UInt8) (hf : PF k f) : PF k (fun z => mu a (f z)) := by
  induction k generalizing f with
  | zero => intro z; show mu a (f z) = 0; rw [hf z, mu_zero]
  | succ k ih =>
    obtain ⟨c, f1, h1, h2⟩ := hf
    refine ⟨mu a c, _, ih h1, fun z => ?_⟩
    show mu a (f z) = mu a c ^^^ mu z (mu a (f1 z))
    rw [h2, mu_xor, mu_left a z]
theorem PF.lin {k : Nat} {f : UInt8 → UInt8} (q : UInt8) (hf : PF k f) : PF (k + 1) (fun z => mu (z ^^^ q) (f z)) := by
  have h1 : PF (k + 1) (fun z => mu z (f z)) := ⟨0, f, hf, fun z => by rw [zero_x]⟩
  exact (h1.add (hf.smul q).mono).congr fun z => xor_mu _ _ _
theorem PF.const (c : UInt8) : PF 1 (fun _ => c) := ⟨c, fun _ => 0, fun _ => rfl, fun z => by rw [mu_zero, x_zero]⟩
theorem PF.sum {k n : Nat} {f : Nat → UInt8 → UInt8} (h : ∀ j, j < n → PF k (f j)) : PF k (fun z => S n (fun j => f j z)) := by
  induction n with
  | zero => exact PF.zero k
  | succ n ih => exact (ih fun j hj => h j (by omega)).add (h n (by omega))
/-- less what it is at r it is divided by z less r -/
theorem PF.div {k : Nat} {f : UInt8 → UInt8} (r : UInt8) (hf : PF (k + 1) f) : ∃ g, PF k g ∧ ∀ z, f z = mu (z ^^^ r) (g z) ^^^ f r := by
  induction k generalizing f with
  | zero =>
    obtain ⟨c, f1, h1, h2⟩ := hf
    exact ⟨fun _ => 0, fun _ => rfl, fun z => by rw [h2 z, h2 r, h1 z, h1 r, mu_zero, mu_zero, mu_zero, zero_x]⟩
  | succ k ih =>
    obtain ⟨c, f1, h1, h2⟩ := hf
    obtain ⟨g, hg, hz⟩ := ih h1
    refine ⟨fun z => f1 r ^^^ mu z (g z), ⟨f1 r, g, hg, fun z => rfl⟩, fun z => ?_⟩
    show f z = mu (z ^^^ r) (f1 r ^^^ mu z (g z)) ^^^ f r
    have e1 : mu z (mu (z ^^^ r) (g z)) = mu (z ^^^ r) (mu z (g z)) := mu_left _ _ _
    rw [h2 z, h2 r, hz z, mu_xor, mu_xor, e1, xor_mu z r (f1 r)]
    generalize mu (z ^^^ r) (mu z (g z)) = A
    generalize mu z (f1 r) = B
    generalize mu r (f1 r) = D
    rw [x_assoc (B ^^^ D), x_left A c D, x_assoc B D, x_left D c, x_left D A, x_self, x_zero, x_left B c, x_comm B A]
/-- as many roots as numbers -/
theorem PF.roots {k : Nat} {f : UInt8 → UInt8} (hf : PF k f) (rs : Nat → UInt8) (hd : ∀ i j, i < k → j < k → i ≠ j → rs i ≠ rs j) (hr : ∀ i, i < k → f (rs i) = 0) : ∀ z, f z = 0 := by
  induction k generalizing f with
  | zero => exact hf
  | succ k ih =>
    obtain ⟨g, hg, hz⟩ := hf.div (rs k)
    rw [hr k (by omega)] at hz
    have h0 := ih hg (fun i j hi hj => hd i j (by omega) (by omega)) (fun i hi => by
      have h1 := hr i (by omega)
      rw [hz, x_zero] at h1
      rcases mu_eq_zero.1 h1 with h2 | h2
      · exact absurd (x_eq_zero.1 h2) (hd i k (by omega) (by omega) (by omega))
      · exact h2)
    intro z
    rw [hz, h0 z, mu_zero, x_zero]
def PD (q : Nat → UInt8) : Nat → UInt8 → UInt8
  | 0, _ => 1
  | n + 1, z => mu (z ^^^ q n) (PD q n z)
def PE (q : Nat → UInt8) (j : Nat) : Nat → UInt8 → UInt8
  | 0, _ => 1
  | n + 1, z => if n = j then PE q j n z else mu (z ^^^ q n) (PE q j n z)
theorem PE_deg (q : Nat → UInt8) (j n : Nat) : (j < n → PF n (PE q j n)) ∧ (n ≤ j → PF (n + 1) (PE q j n)) := by
  induction n with
  | zero => exact ⟨fun h => by omega, fun _ => PF.const 1⟩
  | succ n ih =>
    refine ⟨fun h => ?_, fun h => ?_⟩
    · by_cases e : n = j
      · exact (ih.2 (by omega)).congr fun z => by rw [PE, if_pos e]
      · exact ((ih.1 (by omega)).lin (q n)).congr fun z => by rw [PE, if_neg e]
    · exact ((ih.2 (by omega)).lin (q n)).congr fun z => by rw [PE, if_neg (by omega)]
theorem PE_far (q : Nat → UInt8) (j n : Nat) (h : n ≤ j) (z : UInt8) : PE q j n z = PD q n z := by
  induction n with
  | zero => rfl
  | succ n ih => rw [PE, if_neg (by omega), ih (by omega), PD]
theorem PE_mul (q : Nat → UInt8) {j n : Nat} (h : j < n) (z : UInt8) : mu (z ^^^ q j) (PE q j n z) = PD q n z := by
  induction n with
  | zero => omega
  | succ n ih =>
    by_cases e : n = j
    · subst e; rw [PE, if_pos rfl, PE_far q n n (Nat.le_refl _), PD]
    · rw [PE, if_neg e, mu_left, ih (by omega), PD]
theorem PE_other (q : Nat → UInt8) {j l n : Nat} (hl : l < n) (hj : l ≠ j) : PE q j n (q l) = 0 := by
  induction n with
  | zero => omega
  | succ n ih =>
    by_cases e : n = l
    · subst e; rw [PE, if_neg hj, x_self, zero_mu]
    · have := ih (by omega)
      rw [PE, this, mu_zero]; split <;> rfl
theorem PE_own (q : Nat → UInt8) (j n : Nat) (hd : ∀ l, l < n → l ≠ j → q j ^^^ q l ≠ 0) : PE q j n (q j) ≠ 0 := by
  induction n with
  | zero => exact (by decide : (1 : UInt8) ≠ 0)
  | succ n ih =>
    have h := ih fun l hl => hd l (by omega)
    rw [PE]
    split
    · exact h
    · exact mu_ne (hd n (by omega) (by assumption)) h
end Go.Proofs.YtddnfhfangfgeaaGreat.Gf

namespace Go.Proofs.YtddnfhfangfgeaaGreat.Gf
set_option linter.unusedVariables false
set_option linter.unusedSimpArgs false
open Go.RowKit
/-- so many shards may be -/
def OkC (k m : Int) : Prop := 1 ≤ k ∧ 0 ≤ m ∧ k + m ≤ 256
theorem OkC.nat {k m : Int} (h : OkC k m) : ∃ k' m' : Nat, k = (k' : Int) ∧ m = (m' : Int) ∧ 1 ≤ k' ∧ k' + m' ≤ 256 := by
  obtain ⟨h1, h2, h3⟩ := h
  obtain ⟨k', rfl⟩ := Int.eq_ofNat_of_zero_le (show 0 ≤ k by omega)
  obtain ⟨m', rfl⟩ := Int.eq_ofNat_of_zero_le h2
  exact ⟨k', m', rfl, rfl, by omega, by omega⟩
theorem okC_mk {k m : Nat} (h1 : 1 ≤ k) (h2 : k + m ≤ 256) : OkC k m := ⟨by omega, by omega, by omega⟩
theorem pt_toNat {n : Nat} (h : n < 256) : (pt n).toNat = n := by unfold pt; rw [UInt8.toNat_ofNat']; exact Nat.mod_eq_of_lt h
theorem pt_xor {a b : Nat} (ha : a < 256) (hb : b < 256) : bits .xor .u8 (a : Int) (b : Int) = (((pt a ^^^ pt b).toNat : Nat) : Int) := by
  rw [u8_xor_nat _ _ ha hb, UInt8.toNat_xor, pt_toNat ha, pt_toNat hb]
end Go.Proofs.YtddnfhfangfgeaaGreat.Gf











namespace Go.Proofs.YtddnfhfangfgeaaGreat.Gf
set_option linter.unusedVariables false
set_option linter.unusedSimpArgs false
open Go.RowKit
set_option maxRecDepth 100000 in
set_option maxHeartbeats 1000000 in
theorem ccheck_same_ok {k m : Int} (w : World) (h : OkC k m) : Calls Tryz.prog 45 #[.int .i64 k, .int .i64 m] w fun e w' => e = .returned (.int .i64 0) ∧ w' = w := by
  obtain ⟨h1, h2, h3⟩ := h
  have k1 : decide (k < 1) = false := decide_eq_false (by omega)
  have k2 : decide (k > 256) = false := decide_eq_false (by omega)
  have k3 : decide (m < 0) = false := decide_eq_false (by omega)
  have k4 : decide (m > 256) = false := decide_eq_false (by omega)
  have k5 : decide (k + m > 256) = false := decide_eq_false (by omega)
  have gw : IntKind.i64.wrap (k + m) = k + m := by rw [IntKind.wrap_i64]; omega
  go_enter Tryz.func45, Tryz.ntmps45
  go_wp2
  go_ret
  exact ⟨rfl, rfl⟩
set_option maxRecDepth 100000 in
set_option maxHeartbeats 1000000 in
theorem ccheck_same_bad {k m : Int} (w : World) (h : ¬ OkC k m) : Calls Tryz.prog 45 #[.int .i64 k, .int .i64 m] w fun e w' => e = .returned (.int .i64 50) ∧ w' = w := by
  by_cases h1 : k < 1
  · have k1 : decide (k < 1) = true := decide_eq_true h1
    clear h h1
    go_enter Tryz.func45, Tryz.ntmps45
    go_wp2
    go_ret
    exact ⟨rfl, rfl⟩
  have k1 : decide (k < 1) = false := decide_eq_false h1
  by_cases h2 : k > 256
  · have k2 : decide (k > 256) = true := decide_eq_true h2
    clear h h1 h2
    go_enter Tryz.func45, Tryz.ntmps45
    go_wp2
    go_ret
    exact ⟨rfl, rfl⟩
  have k2 : decide (k > 256) = false := decide_eq_false h2
  by_cases h3 : m < 0
  · have k3 : decide (m < 0) = true := decide_eq_true h3
    clear h h1 h2 h3
    go_enter Tryz.func45, Tryz.ntmps45
    go_wp2
    go_ret
    exact ⟨rfl, rfl⟩
  have k3 : decide (m < 0) = false := decide_eq_false h3
  by_cases h4 : m > 256
  · have k4 : decide (m > 256) = true := decide_eq_true h4
    clear h h1 h2 h3 h4
    go_enter Tryz.func45, Tryz.ntmps45
    go_wp2
    go_ret
    exact ⟨rfl, rfl⟩
  have k4 : decide (m > 256) = false := decide_eq_false h4
  have k5 : decide (k + m > 256) = true := decide_eq_true (by
    by_cases h5 : k + m ≤ 256
    · exact absurd ⟨by omega, by omega, h5⟩ h
    · omega)
  have gw : IntKind.i64.wrap (k + m) = k + m := by rw [IntKind.wrap_i64]; omega
  clear h h1 h2 h3 h4
  go_enter Tryz.func45, Tryz.ntmps45
  go_wp2
  go_ret
  exact ⟨rfl, rfl⟩
set_option maxRecDepth 100000 in
set_option maxHeartbeats 1000000 in
theorem ccf_ok {k m : Int} {b : Nat} (w : World) (h : OkC k m) : Calls Tryz.prog 184 #[.pointer (some ⟨b, 0, none⟩), .int .i64 k, .int .i64 m] w fun e w' => e = .returned (.int .i64 0) ∧ w' = w := by
  go_enter Tryz.func184, Tryz.ntmps184
  go_wp2_with fail
  refine (ccheck_same_ok _ h).mono ?_
  rintro e w2 ⟨rfl, rfl⟩
  clear h
  go_wp2
  go_ret
  exact ⟨rfl, rfl⟩
set_option maxRecDepth 100000 in
set_option maxHeartbeats 2000000 in
/-- The closure fills the first k numbers of the row of the parity shard i. -/
theorem prow_fill {w : World} {b kb fb k i o n cap g m base : Nat} {f : Nat → UInt8} (hF : FieldAt w b) (hb : b ≠ g) (ck : w.cell? ⟨kb, 0, none⟩ = some (.int .i64 (k : Int))) (hk : kb ≠ g) (cf : w.cell? ⟨fb, 0, none⟩ = some (.pointer (some ⟨b, 0, none⟩))) (hf : fb ≠ g)
    (hki : k + i < 256) (hkn : k ≤ n) (hn : n ≤ 256) (hom : o + n ≤ m) (R : RowF w base 5 g m m f) {x : Int} (hx : x = (i : Int)) :
    Calls Tryz.prog 215 #[.int .i64 x, .slice (some ⟨g, o, none⟩) n cap, .pointer (some ⟨kb, 0, none⟩), .pointer (some ⟨fb, 0, none⟩)] w fun e w' => e = .returned (.tuple #[]) ∧ Only g w w' ∧ RowF w' base 5 g m m (putAt f o k (fun j => parF k i j)) := by
  subst hx
  obtain ⟨t, ht⟩ : ∃ t, Hid (t = k + i) := ⟨_, rfl⟩
  have g0 : (k : Int) + (i : Int) = (t : Int) := by have := ht.out; omega
  have ht2 : t < 256 := by have := ht.out; omega
  have m1 : (t : Int) % 256 = (t : Int) := by omega
  have w1 : IntKind.i64.wrap (t : Int) = (t : Int) := by rw [IntKind.wrap_i64]; omega
  go_enter Tryz.func215, Tryz.ntmps215
  go_wp2
  go_loopw [8] (fun v wr => ∃ j : Nat, j ≤ k ∧ v = .int .i64 j ∧ Only g w wr ∧ RowF wr base 5 g m m (putAt f o j (fun j => parF k i j))) (fun v _ => k - (intOf v).toNat)
  case atStart => exact ⟨0, by omega, rfl, by first | exact Only.refl _ _ | exact (Only.refl _ _).drew, by rw [putAt_zero]; first | exact R | exact R.drew⟩
  case round =>
    obtain ⟨j, hj, rfl, hO, hR⟩ := hrel
    have ck2 := (hO.cell (p := ⟨kb, 0, none⟩) hk).trans ck
    have cf2 := (hO.cell (p := ⟨fb, 0, none⟩) hf).trans cf
    have hF2 := hF.only hb hO
    clear hF ck cf R
    by_cases hlt : j < k
    · have hlt' : (j : Int) < (k : Int) := by omega
      have hj2 : (j : Int) % 256 = (j : Int) := by omega
      have X := pt_xor ht2 (show j < 256 by omega)
      have HP : Hid (parF k i j = iv (pt t ^^^ pt j)) := by show _ = _; rw [ht.out]; rfl
      obtain ⟨u, hu⟩ : ∃ u, Hid (u = pt t ^^^ pt j) := ⟨_, rfl⟩
      rw [← hu.out] at X HP
      have c4 : ∀ nd : Nat, (wr.drewN nd).cell? ⟨g, o + j, none⟩ = some (.int .u8 ((putAt f o j (fun j => parF k i j) (o + j)).toNat : Nat)) := fun nd => hR.cell (show o + j < m by omega)
      have f4 : ∀ nd : Nat, (wr.drewN nd).frozen? ⟨g, o + j, none⟩ = false := fun nd => hR.unfrozen (o + j)
      have HN : ∀ nd : Nat, Hid (RowF ((wr.drewN nd).setCell ⟨g, o + j, none⟩ (.int .u8 (invS u.toNat : Nat))) base 5 g m m (putAt f o (j + 1) (fun j => parF k i j))) := by
        intro nd
        have h := (hR.drewN nd).store (f' := putAt f o (j + 1) (fun j => parF k i j)) (show o + j < m by omega) (iv u) (fun s => by rw [putAt_step, HP.out])
        rw [iv_toNat] at h
        exact h
      have HT : ∀ nd : Nat, Hid (Only g w ((wr.drewN nd).setCell ⟨g, o + j, none⟩ (.int .u8 (invS u.toNat : Nat)))) := fun nd => (hO.drewN nd).setCell _ _
      clear hO hR
      go_wp2_with fail
      refine (inv_all hF2 u.toNat rfl (u8_lt u)).mono ?_
      rintro e w' ⟨rfl, nd, rfl⟩
      replace c4 := c4 nd
      replace f4 := f4 nd
      replace HN := HN nd
      replace HT := HT nd
      go_wp2
      go_roundw
      case rel => exact ⟨j + 1, by omega, by go_num, by first | exact HT.out | exact HT.out.drew, by first | exact HN.out | exact HN.out.drew⟩
      case measure => simp [intOf]; omega
    · have e : j = k := by omega
      subst e
      go_wp2
      go_end0
      exact ⟨rfl, hO, hR⟩
end Go.Proofs.YtddnfhfangfgeaaGreat.Gf

namespace Go.Proofs.YtddnfhfangfgeaaGreat.Gf
set_option linter.unusedVariables false
set_option linter.unusedSimpArgs false
open Go.RowKit
/-- the first r rows of a matrix, noughts behind them -/
def upR (G : Mx) (r : Nat) : Mx := fun i j => if i < r then G i j else 0
theorem upR_zero (G : Mx) (c t : Nat) : pl c (upR G 0) t = 0 := by
  show upR G 0 (t / c) (t % c) = 0
  unfold upR
  rw [if_neg (Nat.not_lt_zero _)]
theorem upR_all (G : Mx) {r c : Nat} : ∀ t, t < r * c → pl c (upR G r) t = pl c G t := pl_congr fun i j hi _ => if_pos hi
set_option maxRecDepth 100000 in
set_option maxHeartbeats 2000000 in
theorem made_any {F : Nat} {p q : Value} (r c : Nat) (w : World) (hr : r ≤ 256) (hc : c ≤ 256) (hc0 : 0 < c) (G : Mx) (eg : Hid (∀ (args : Array Value) (w : World), Sem.run Tryz.prog (callFunc F args) w = .ok (.enter F args) w))
    (hfill : Hid (∀ (g m i o : Nat) (W : World), i < r → Hid (m = r * c) → Hid (o = i * c) → w.heap.size ≤ g → Below w.heap.size w W → RowF W w.heap.size 5 g m m (pl c (upR G i)) →
      Calls Tryz.prog F #[.int .i64 (i : Int), .slice (some ⟨g, o, none⟩) c (m - o), p, q] W fun e w' => e = .returned (.tuple #[]) ∧ Turn g W w' ∧ RowF w' w.heap.size 5 g m m (pl c (upR G (i + 1)))))
    {x y : Int} (hx : x = (r : Int)) (hy : y = (c : Int)) :
    Calls Tryz.prog 185 #[.int .i64 x, .int .i64 y, .func (.func F) #[] #[p, q]] w fun e w' => ∃ g m, e = .returned (.agg #[.int .i64 (r : Int), .int .i64 (c : Int), .slice (some ⟨g, 0, none⟩) m m]) ∧ w.heap.size ≤ g ∧ Rd w' (.slice (some ⟨g, 0, none⟩) m m) (flat r c G) ∧ Below w.heap.size w w' := by
  subst hx hy
  obtain ⟨i0, hi, hz0, hz1, hz2⟩ := info_parts info_u8
  have hmm : r * c ≤ 256 * 256 := Nat.mul_le_mul hr hc
  obtain ⟨m, hm⟩ : ∃ m, Hid (m = r * c) := ⟨_, rfl⟩
  rw [← hm.out] at hmm
  have g0 : (r : Int) * (c : Int) = (m : Int) := by rw [hm.out]; exact_mod_cast rfl
  go_enter Tryz.func185, Tryz.ntmps185
  go_wp2_with (at_make; go_loud (refine wpList_make_full _ rfl (.tmp 13) (.tmp 13) 36 rfl w.heap.size 5 i0 (.int .u8 0) 1 Tryz.underlying36 hi hz0 hz1 _ _ _ _ m rfl rfl (by omega) (by omega) (by rw [hz2]; omega) (by unfold maxLen; omega) (by simp) ?_); intro w1 hown1 hgrow1; obtain ⟨R1, B0, x0, x1, x2, z0, z1, z2⟩ := nought_facts hown1 hgrow1; clear hown1 hgrow1)
  have hg0 : w.heap.size < w.heap.size + 1 := by omega
  generalize hgg : w.heap.size + 1 = g at *
  have X3 : Box w1 w.heap.size 0 0 (.slice none 0 0) := ⟨x0, x1, x2⟩
  have F3 : Free w1 w.heap.size := ⟨z0, z1, z2⟩
  have hA : Below w1.heap.size w1 (w1.alloc (.cells #[.int .i64 (r : Int), .int .i64 (c : Int), .slice (some ⟨g, 0, none⟩) m m] 148)) := (Below.refl _ _).alloc (Nat.le_refl _) _
  have P1 := Box.new w1 (r : Int) (c : Int) (.slice (some ⟨g, 0, none⟩) m m) 148
  have hlt := R1.lt
  replace R1 := R1.later hA
  replace X3 := X3.below (by omega) hA
  replace F3 := F3.below (by omega) hA
  replace B0 := Below.next B0 hA
  have hms : w1.heap.size < (w1.alloc (.cells #[.int .i64 (r : Int), .int .i64 (c : Int), .slice (some ⟨g, 0, none⟩) m m] 148)).heap.size := by simp
  have hmg : w1.heap.size ≠ g := by omega
  clear hA x0 x1 x2 z0 z1 z2
  generalize w1.alloc (.cells #[.int .i64 (r : Int), .int .i64 (c : Int), .slice (some ⟨g, 0, none⟩) m m] 148) = w2 at *
  go_loopw [17] (fun i wr => ∃ k : Nat, k ≤ r ∧ i = .int .i64 k ∧ Turn g w2 wr ∧ RowF wr w.heap.size 5 g m m (pl c (upR G k))) (fun i _ => r - (intOf i).toNat)
  case atStart => exact ⟨0, by omega, rfl, Turn.refl _ _, R1.congr (fun t _ => (upR_zero _ _ t).symm)⟩
  case round =>
    obtain ⟨k, hk, rfl, hT, hRk⟩ := hrel
    clear R1
    replace P1 := P1.turn hms hmg hT
    have hs2 := hT.size
    by_cases hlt2 : k < r
    · have hlt2' : (k : Int) < (r : Int) := by omega
      obtain ⟨o, ho⟩ : ∃ o, Hid (o = k * c) := ⟨_, rfl⟩
      have hom : o + c ≤ m := by rw [ho.out, hm.out, ← Nat.succ_mul]; exact Nat.mul_le_mul_right c hlt2
      have g1 : (k : Int) * (c : Int) = (o : Int) := by rw [ho.out]; exact_mod_cast rfl
      have g2 : ((k : Int) + 1) * (c : Int) = (o : Int) + (c : Int) := by rw [Int.add_mul, Int.one_mul, g1]
      have v1 : IntKind.i64.wrap (o : Int) = (o : Int) := by rw [IntKind.wrap_i64]; omega
      have v2 : IntKind.i64.wrap ((o : Int) + (c : Int)) = (o : Int) + (c : Int) := by rw [IntKind.wrap_i64]; omega
      have v3 : IntKind.i64.wrap ((k : Int) + 1) = (k : Int) + 1 := by rw [IntKind.wrap_i64]; omega
      have hlt3 : o < m := by omega
      have hne : ¬ m = o := by omega
      have hsub : o + c - o = c := by omega
      have y2 := P1.c2
      have HB : Hid (Below w.heap.size w wr) := B0.trans (hT.below (by omega) (by omega))
      have HC := hfill.out g m k o wr hlt2 hm ho (by omega) HB.out hRk
      clear hfill hRk
      go_wp2_with fail
      rw [eg.out, Oper.upon_enter]
      refine HC.mono ?_
      rintro e v4 ⟨rfl, hT4, hR4⟩
      have HT : Hid (Turn g w2 v4) := hT.trans hT4
      have HN : Hid (RowF v4 w.heap.size 5 g m m (pl c (upR G (k + 1)))) := hR4
      clear hT hT4 hR4 y2 P1 HC HB
      go_wp2
      go_roundw
      case rel => exact ⟨k + 1, by omega, by go_num, HT.out, HN.out⟩
      case measure => simp [intOf]; omega
    · have e : k = r := by omega
      subst e
      have R4 : Rd wr (.slice (some ⟨g, 0, none⟩) m m) (flat k c G) := by
        have := (hRk.congr (f' := pl c G) (by rw [hm.out]; exact upR_all G)).rd
        rw [← pl_flat, ← hm.out]
        exact this
      have X4 := X3.turn (by omega) (by omega) hT
      have F4 := F3.turn (by omega) (by omega) hT
      have x30 := X4.c0
      have x31 := X4.c1
      have x32 := X4.c2
      have f30 := F4.f0
      have f31 := F4.f1
      have f32 := F4.f2
      have y0 := P1.c0
      have y1 := P1.c1
      have y2 := P1.c2
      clear hRk hfill
      go_wp2
      have O1 : Only w.heap.size wr (((wr.setCell ⟨w.heap.size, 0, none⟩ (.int .i64 (k : Int))).setCell ⟨w.heap.size, 1, none⟩ (.int .i64 (c : Int))).setCell ⟨w.heap.size, 2, none⟩ (.slice (some ⟨g, 0, none⟩) m m)) :=
        (((Only.refl _ _).setCell 0 _).setCell 1 _).setCell 2 _
      refine bodyPost_ret (v := .agg #[.int .i64 (k : Int), .int .i64 (c : Int), .slice (some ⟨g, 0, none⟩) m m]) (by simp [results, Tryz.results185, go_sem, x30, x31, x32, f30, f31, f32]) rfl ⟨g, m, rfl, by omega, R4.only (apart_block (by omega)) O1, (B0.trans (hT.below (by omega) (by omega))).trans (O1.below (by omega))⟩
end Go.Proofs.YtddnfhfangfgeaaGreat.Gf

namespace Go.Proofs.YtddnfhfangfgeaaGreat.Gf
set_option linter.unusedVariables false
set_option linter.unusedSimpArgs false
open Go.RowKit
/-- one row more -/
theorem upR_row {G : Mx} {r c i : Nat} {f : Nat → UInt8} (h1 : ∀ t, t < r * c → t / c ≠ i → f t = pl c (upR G i) t) (h2 : ∀ j, j < c → f (i * c + j) = G i j) : ∀ t, t < r * c → f t = pl c (upR G (i + 1)) t := by
  intro t ht
  have hc : 0 < c := by
    rcases Nat.eq_zero_or_pos c with e | e
    · rw [e, Nat.mul_zero] at ht; omega
    · exact e
  by_cases e : t / c = i
  · have h3 := Nat.div_add_mod t c
    rw [e, Nat.mul_comm] at h3
    show f t = upR G (i + 1) (t / c) (t % c)
    unfold upR
    rw [if_pos (by omega), e, ← h2 _ (Nat.mod_lt _ hc), h3]
  · rw [h1 t ht e]
    show upR G i (t / c) (t % c) = upR G (i + 1) (t / c) (t % c)
    unfold upR
    by_cases h : t / c < i
    · rw [if_pos h, if_pos (by omega)]
    · rw [if_neg h, if_neg (by omega)]
theorem not_in_row {c i t o : Nat} (ho : o = i * c) (hc : 0 < c) (h : t / c ≠ i) {n : Nat} (hn : n ≤ c) : t < o ∨ o + n ≤ t := by
  by_cases h1 : i * c ≤ t ∧ t < i * c + c
  · exact absurd ((row_iff hc).1 h1) h
  · omega
/-- What fills a parity shard's row: its captured variables. -/
structure Fills (w : World) (b k kb fb : Nat) : Prop where
  ck : w.cell? ⟨kb, 0, none⟩ = some (.int .i64 (k : Int))
  cf : w.cell? ⟨fb, 0, none⟩ = some (.pointer (some ⟨b, 0, none⟩))
  lk : kb < w.heap.size
  lf : fb < w.heap.size
theorem Fills.below {w w' : World} {b k kb fb : Nat} (h : Fills w b k kb fb) (o : Below w.heap.size w w') : Fills w' b k kb fb :=
  ⟨(o.cell (p := ⟨kb, 0, none⟩) h.lk).trans h.ck, (o.cell (p := ⟨fb, 0, none⟩) h.lf).trans h.cf, Nat.lt_of_lt_of_le h.lk o.size, Nat.lt_of_lt_of_le h.lf o.size⟩
theorem enters_prow1 : Hid (∀ (args : Array Value) (w : World), Sem.run Tryz.prog (callFunc 215 args) w = .ok (.enter 215 args) w) := enters_of Tryz.func215 (by kernel_rfl) rfl
set_option maxRecDepth 100000 in
set_option maxHeartbeats 1000000 in
theorem prow_make {b : Nat} (k : Nat) (w : World) {x : Int} (hx : x = (k : Int)) : Calls Tryz.prog 186 #[.pointer (some ⟨b, 0, none⟩), .int .i64 x] w fun e w' => ∃ kb fb, e = .returned (.func (.func 215) #[] #[.pointer (some ⟨kb, 0, none⟩), .pointer (some ⟨fb, 0, none⟩)]) ∧ Fills w' b k kb fb ∧ Below w.heap.size w w' := by
  subst hx
  go_enter Tryz.func186, Tryz.ntmps186
  go_wp2
  go_ret
  refine ⟨_, _, rfl, ⟨by simp, by simp, by simp <;> omega, by simp <;> omega⟩, by repeat (first | exact Below.refl _ _ | apply below_lit)⟩
set_option maxRecDepth 100000 in
set_option maxHeartbeats 2000000 in
theorem cpar_at {b : Nat} {w : World} (k m : Nat) (hF : FieldAt w b) (h1 : 1 ≤ k) (h2 : k + m ≤ 256) {x y : Int} (hx : x = (k : Int)) (hy : y = (m : Int)) :
    Calls Tryz.prog 159 #[.pointer (some ⟨b, 0, none⟩), .int .i64 x, .int .i64 y] w (fun e w' => ∃ g M, e = .returned (.tuple #[.agg #[.int .i64 (m : Int), .int .i64 (k : Int), .slice (some ⟨g, 0, none⟩) M M], .int .i64 0]) ∧ w.heap.size ≤ g ∧ Rd w' (.slice (some ⟨g, 0, none⟩) M M) (flat m k (parF k)) ∧ Below w.heap.size w w') := by
  subst hx hy
  go_enter Tryz.func159, Tryz.ntmps159
  go_wp2_with fail
  refine (ccf_ok _ (okC_mk h1 h2)).mono ?_
  rintro e w2 ⟨rfl, rfl⟩
  go_wp2_with fail
  refine (prow_make k _ rfl).mono ?_
  rintro e w1 ⟨kb, fb, rfl, hfl, b1⟩
  have X3 : Box w1 w.heap.size 0 0 (.slice none 0 0) := Below.box b1 (by simp <;> omega) (Box.new w 0 0 (.slice none 0 0) 148)
  have F3 : Free w1 w.heap.size := Below.free b1 (by simp <;> omega) (Free.new w #[.int .i64 0, .int .i64 0, .slice none 0 0] 148)
  have B1 : Below w.heap.size w w1 := Below.next (by repeat (first | exact Below.refl _ _ | apply below_lit)) b1
  have hF1 := hF.below B1
  have hs1 : w.heap.size < w1.heap.size := by have := b1.size; simp at this; omega
  clear b1
  go_wp2_with fail
  refine (made_any m k w1 (by omega) (by omega) h1 (parF k) enters_prow1 ?_ rfl rfl).mono ?_
  · intro g M i o W hi hM ho hg hB R
    have hf2 := hfl.below hB
    refine (prow_fill (i := i) (n := k) (hF1.below hB) (by have := hF1.lt; omega) hf2.ck (by have := hfl.lk; omega) hf2.cf (by have := hfl.lf; omega) (by omega) (Nat.le_refl _) (by omega) (by rw [ho.out, hM.out, ← Nat.succ_mul]; exact Nat.mul_le_mul_right k hi) R rfl).mono ?_
    rintro e w' ⟨rfl, hO, hR⟩
    refine ⟨rfl, hO.turn, hR.congr ?_⟩
    rw [hM.out]
    refine upR_row (fun t ht hne => putAt_out (not_in_row ho.out (by omega) hne (Nat.le_refl _))) (fun j hj => ?_)
    rw [ho.out]; exact putAt_in hj
  · rintro e w4 ⟨g, M, rfl, hg, hR, b4⟩
    have X4 := X3.below hs1 b4
    have F4 := F3.below hs1 b4
    have B4 : Below w.heap.size w w4 := Below.next B1 b4
    have x30 := X4.c0
    have x31 := X4.c1
    have x32 := X4.c2
    have f30 := F4.f0
    have f31 := F4.f1
    have f32 := F4.f2
    go_wp2
    have O1 : Only w.heap.size w4 (((w4.setCell ⟨w.heap.size, 0, none⟩ (.int .i64 (m : Int))).setCell ⟨w.heap.size, 1, none⟩ (.int .i64 (k : Int))).setCell ⟨w.heap.size, 2, none⟩ (.slice (some ⟨g, 0, none⟩) M M)) :=
      (((Only.refl _ _).setCell 0 _).setCell 1 _).setCell 2 _
    refine bodyPost_ret (v := .tuple #[.agg #[.int .i64 (m : Int), .int .i64 (k : Int), .slice (some ⟨g, 0, none⟩) M M], .int .i64 0]) (by simp [results, Tryz.results159, go_sem, x30, x31, x32, f30, f31, f32]) rfl ⟨g, M, rfl, by omega, hR.only (apart_block (by omega)) O1, B4.trans (O1.below (by omega))⟩
end Go.Proofs.YtddnfhfangfgeaaGreat.Gf

namespace Go.Proofs.YtddnfhfangfgeaaGreat.Gf
set_option linter.unusedVariables false
set_option linter.unusedSimpArgs false
open Go.RowKit
/-- the shard i -/
def ro (L : List (List UInt8)) (i : Nat) : List UInt8 := L.getD i []
theorem ro_lt {L : List (List UInt8)} {i : Nat} (h : i < L.length) : ro L i = L[i] := by simp [ro, List.getD, h]
theorem ro_ge {L : List (List UInt8)} {i : Nat} (h : L.length ≤ i) : ro L i = [] := by simp [ro, List.getD, h]
theorem ro_some {L : List (List UInt8)} {i : Nat} (h : i < L.length) : L[i]? = some (ro L i) := by rw [ro_lt h]; exact List.getElem?_eq_getElem h
theorem ro_ext {L M : List (List UInt8)} (h : L.length = M.length) (h2 : ∀ i, i < L.length → ro L i = ro M i) : L = M := by
  refine List.ext_getElem h fun i h1 h3 => ?_
  have := h2 i h1
  rwa [ro_lt h1, ro_lt h3] at this
/-- n shards -/
def mkL (n : Nat) (f : Nat → List UInt8) : List (List UInt8) := (List.range n).map f
theorem mkL_length (n : Nat) (f : Nat → List UInt8) : (mkL n f).length = n := by simp [mkL]
theorem ro_mkL {n : Nat} {f : Nat → List UInt8} {i : Nat} (h : i < n) : ro (mkL n f) i = f i := by
  rw [ro_lt (by rw [mkL_length]; exact h)]; simp [mkL]
theorem mkL_ro (L : List (List UInt8)) : mkL L.length (ro L) = L := ro_ext (mkL_length _ _) fun i hi => ro_mkL (by rwa [mkL_length] at hi)
theorem mkL_succ (n : Nat) (f : Nat → List UInt8) : mkL (n + 1) f = mkL n f ++ [f n] := by simp [mkL, List.range_succ]
theorem mkL_congr {n : Nat} {f g : Nat → List UInt8} (h : ∀ i, i < n → f i = g i) : mkL n f = mkL n g := List.map_congr_left fun i hi => h i (List.mem_range.1 hi)
theorem ro_append_left {L M : List (List UInt8)} {i : Nat} (h : i < L.length) : ro (L ++ M) i = ro L i := by simp [ro, List.getD, List.getElem?_append_left h]
theorem ro_append_right {L M : List (List UInt8)} {i : Nat} (h : L.length ≤ i) : ro (L ++ M) i = ro M (i - L.length) := by simp [ro, List.getD, List.getElem?_append_right h]
theorem ro_take {L : List (List UInt8)} {k i : Nat} (h : i < k) : ro (L.take k) i = ro L i := by simp [ro, List.getD, List.getElem?_take_of_lt h]
theorem ro_drop {L : List (List UInt8)} {k i : Nat} : ro (L.drop k) i = ro L (k + i) := by simp [ro, List.getD]
theorem ro_set {L : List (List UInt8)} {k i : Nat} {x : List UInt8} (hk : k < L.length) : ro (L.set k x) i = if i = k then x else ro L i := by
  by_cases e : i = k
  · subst e; rw [if_pos rfl]; simp [ro, List.getD, List.getElem?_set_self hk]
  · rw [if_neg e]; simp [ro, List.getD, List.getElem?_set_ne (fun h => e h.symm)]
def Rs (w : World) (v : Value) (L : List (List UInt8)) : Prop :=
  ∃ (a : Option Addr) (cap : Nat), v = .slice a L.length cap ∧ L.length ≤ cap ∧ cap ≤ maxLen ∧ (a = none → cap = 0) ∧
    ∀ i, i < L.length → ∃ (b off : Nat) (x : Value), a = some ⟨b, off, none⟩ ∧ b < w.heap.size ∧ w.cell? ⟨b, off + i, none⟩ = some x ∧ Rd w x (ro L i)
theorem Rs.below {w w' : World} {v : Value} {L : List (List UInt8)} (h : Rs w v L) (hb : Below w.heap.size w w') : Rs w' v L := by
  obtain ⟨a, cap, h1, h2, h3, h4, h5⟩ := h
  refine ⟨a, cap, h1, h2, h3, h4, fun i hi => ?_⟩
  obtain ⟨b, off, x, k1, k2, k3, k4⟩ := h5 i hi
  exact ⟨b, off, x, k1, Nat.lt_of_lt_of_le k2 hb.size, (hb.cell (p := ⟨b, off + i, none⟩) k2).trans k3, k4.below hb⟩
theorem Rs.drewN {w : World} {v : Value} {L : List (List UInt8)} (h : Rs w v L) (n : Nat) : Rs (w.drewN n) v L := h
theorem Rs.form {w : World} {v : Value} {L : List (List UInt8)} (h : Rs w v L) : ∃ a c, v = .slice a L.length c := by
  obtain ⟨a, c, e, _⟩ := h
  exact ⟨a, c, e⟩
theorem Rs.len {w : World} {v : Value} {L : List (List UInt8)} (h : Rs w v L) : L.length ≤ maxLen := by
  obtain ⟨a, c, e, h1, h2, _⟩ := h
  omega
/-- a shard, as the walk meets it -/
theorem Rs.at {w : World} {a : Option Addr} {n c : Nat} {L : List (List UInt8)} (h : Rs w (.slice a n c) L) {i : Nat} (hi : i < L.length) :
    ∃ (b off : Nat) (xa : Option Addr) (xc : Nat), a = some ⟨b, off, none⟩ ∧ b < w.heap.size ∧ w.cell? ⟨b, off + i, none⟩ = some (.slice xa (ro L i).length xc) ∧ Rd w (.slice xa (ro L i).length xc) (ro L i) := by
  obtain ⟨a', c', e, h1, h2, h3, h4⟩ := h
  simp at e
  obtain ⟨rfl, rfl, rfl⟩ := e
  obtain ⟨b, off, x, k1, k2, k3, k4⟩ := h4 i hi
  obtain ⟨xa, xc, rfl⟩ := k4.form
  exact ⟨b, off, xa, xc, k1, k2, k3, k4⟩
/-- .. where its place is known -/
theorem Rs.get {w : World} {b off n c : Nat} {L : List (List UInt8)} (h : Rs w (.slice (some ⟨b, off, none⟩) n c) L) {i : Nat} (hi : i < L.length) :
    ∃ (xa : Option Addr) (xc : Nat), w.cell? ⟨b, off + i, none⟩ = some (.slice xa (ro L i).length xc) ∧ Rd w (.slice xa (ro L i).length xc) (ro L i) := by
  obtain ⟨b', off', xa, xc, e, h1, h2, h3⟩ := h.at hi
  simp at e
  obtain ⟨rfl, rfl⟩ := e
  exact ⟨xa, xc, h2, h3⟩
theorem Rs.somewhere {w : World} {v : Value} {L : List (List UInt8)} (h : Rs w v L) (hL : 0 < L.length) : ∃ b off cap, v = .slice (some ⟨b, off, none⟩) L.length cap ∧ b < w.heap.size ∧ L.length ≤ cap ∧ cap ≤ maxLen := by
  obtain ⟨a, c, e, h1, h2, h3, h4⟩ := h
  obtain ⟨b, off, x, k1, k2, _⟩ := h4 0 hL
  subst k1
  exact ⟨b, off, c, e, k2, h1, h2⟩
theorem Rd.byte {w : World} {a : Option Addr} {n c : Nat} {p : List UInt8} (h : Rd w (.slice a n c) p) {i : Nat} (hi : i < p.length) : ∃ b off, a = some ⟨b, off, none⟩ ∧ b < w.heap.size ∧ w.cell? ⟨b, off + i, none⟩ = some (.int .u8 ((co p i).toNat : Nat)) := by
  rcases h with ⟨a', c', e, _⟩ | ⟨b, off, cap, _, e, _, _, k, hc⟩
  · subst e; simp at hi
  · simp at e; obtain ⟨rfl, _⟩ := e; exact ⟨b, off, rfl, k, hc i hi⟩
theorem rs_none {w : World} : Rs w (.slice none 0 0) [] := ⟨none, 0, rfl, Nat.le_refl _, Nat.zero_le _, fun _ => rfl, fun i hi => by simp at hi⟩
/-- the first shards -/
theorem Rs.first {w : World} {b off n c k : Nat} {L : List (List UInt8)} (h : Rs w (.slice (some ⟨b, off, none⟩) n c) L) (hk : k ≤ L.length) : Rs w (.slice (some ⟨b, off, none⟩) k c) (L.take k) := by
  obtain ⟨a', c', e, h1, h2, h3, h4⟩ := h
  simp at e
  obtain ⟨e1, e2, e3⟩ := e
  subst e1 e3
  have hl : (L.take k).length = k := by rw [List.length_take]; omega
  refine ⟨some ⟨b, off, none⟩, c, by rw [hl], by rw [hl]; omega, h2, nofun, fun i hi => ?_⟩
  rw [hl] at hi
  obtain ⟨b', off', x, k1, k2, k3, k4⟩ := h4 i (by omega)
  exact ⟨b', off', x, k1, k2, k3, by rw [ro_take hi]; exact k4⟩
/-- .. and those behind them -/
theorem Rs.rest {w : World} {b off n c k : Nat} {L : List (List UInt8)} (h : Rs w (.slice (some ⟨b, off, none⟩) n c) L) (hk : k ≤ L.length) (m : Nat) (hm : m = L.length - k) : Rs w (.slice (some ⟨b, off + k, none⟩) m (c - k)) (L.drop k) := by
  obtain ⟨a', c', e, h1, h2, h3, h4⟩ := h
  simp at e
  obtain ⟨e1, e2, e3⟩ := e
  subst e1 e3 hm
  have hl : (L.drop k).length = L.length - k := by rw [List.length_drop]
  refine ⟨some ⟨b, off + k, none⟩, c - k, by rw [hl], by rw [hl]; omega, by omega, nofun, fun i hi => ?_⟩
  rw [hl] at hi
  obtain ⟨b', off', x, k1, k2, k3, k4⟩ := h4 (k + i) (by omega)
  simp at k1
  obtain ⟨rfl, rfl⟩ := k1
  exact ⟨b, off + k, x, rfl, k2, by rw [Nat.add_assoc]; exact k3, by rw [ro_drop]; exact k4⟩
/-- of the call's own: T the type of a shard, u that of a byte -/
def Os (w : World) (base T u : Nat) (v : Value) (L : List (List UInt8)) : Prop := ∃ vals, w.ownsRow base T 1 v L.length vals ∧ RowsO w base u v vals (ro L)
theorem Os.rs {w : World} {base T u : Nat} {v : Value} {L : List (List UInt8)} (h : Os w base T u v L) : Rs w v L := by
  obtain ⟨vals, hv, hr⟩ := h
  have hlen : vals.length = L.length := by have := hv.1; omega
  have hv' := hv
  obtain ⟨_, ⟨e, hn⟩ | ⟨g, cap, cur, e, hg, hh, hc, hm, hs, ht⟩⟩ := hv
  · subst e
    have : L = [] := List.length_eq_zero_iff.1 hn
    subst this
    exact rs_none
  · subst e
    refine ⟨some ⟨g, 0, none⟩, cap, rfl, hc, hm, nofun, fun i hi => ?_⟩
    have hx : vals[i]? = some vals[i] := List.getElem?_eq_getElem (by omega)
    refine ⟨g, 0, vals[i], rfl, (Array.getElem?_eq_some_iff.1 hh).1, ?_, Rd.owned (hr.own i _ hx)⟩
    rw [Nat.zero_add, World.ownsRow.cellAt hv' i (by omega), hx]
theorem Os.nil (w : World) (base T u : Nat) : Os w base T u (.slice none 0 0) [] := ⟨[], World.ownsRow_nil _ _ _ _, RowsO.nil _ _ _ _ _⟩
theorem Os.later {w w' : World} {base T u : Nat} {v : Value} {L : List (List UInt8)} (h : Os w base T u v L) (hb : Below w.heap.size w w') : Os w' base T u v L := by
  obtain ⟨vals, hv, hr⟩ := h
  exact ⟨vals, owns_later hv hb, ⟨fun i x hx => owns_later (hr.own i x hx) hb, hr.diff, hr.out⟩⟩
theorem Os.base {w : World} {base base' T u : Nat} {v : Value} {L : List (List UInt8)} (h : Os w base T u v L) (hb : base' ≤ base) : Os w base' T u v L := by
  obtain ⟨vals, hv, hr⟩ := h
  exact ⟨vals, ownsRow_base hv hb, ⟨fun i x hx => ownsRow_base (hr.own i x hx) hb, hr.diff, hr.out⟩⟩
theorem Os.as {w : World} {base T u : Nat} {v : Value} {L M : List (List UInt8)} (h : Os w base T u v L) (e : L = M) : Os w base T u v M := e ▸ h
theorem Rs.as {w : World} {v : Value} {L M : List (List UInt8)} (h : Rs w v L) (e : L = M) : Rs w v M := e ▸ h
/-- one byte, told anew -/
def setL (L : List (List UInt8)) (i n : Nat) (y : UInt8) : List (List UInt8) := L.set i ((ro L i).set n y)
theorem setL_length (L : List (List UInt8)) (i n : Nat) (y : UInt8) : (setL L i n y).length = L.length := by simp [setL]
theorem co_at {p : List UInt8} {n j : Nat} {y : UInt8} (hn : n < p.length) : co (p.set n y) j = if j = n then y else co p j := by
  by_cases e : j = n
  · subst e; rw [if_pos rfl]; simp [co, List.getD, hn]
  · rw [if_neg e]; simp [co, List.getD, List.getElem?_set_ne (fun h => e h.symm)]
/-- where a byte of a shard of the call's own lies, and what a store there leaves -/
theorem Os.byte {w : World} {base T u : Nat} {v : Value} {L : List (List UInt8)} (h : Os w base T u v L) {i n : Nat} (hi : i < L.length) (hn : n < (ro L i).length) :
    ∃ G C g c, v = .slice (some ⟨G, 0, none⟩) L.length C ∧ w.cell? ⟨G, i, none⟩ = some (.slice (some ⟨g, 0, none⟩) (ro L i).length c) ∧ w.cell? ⟨g, n, none⟩ = some (.int .u8 ((co (ro L i) n).toNat : Nat)) ∧ w.frozen? ⟨g, n, none⟩ = false ∧ base ≤ g ∧ base ≤ G ∧ g ≠ G ∧ g < w.heap.size ∧
      ∀ y : UInt8, Os (w.setCell ⟨g, n, none⟩ (.int .u8 ((y.toNat : Nat) : Int))) base T u v (setL L i n y) := by
  obtain ⟨vals, hv, hr⟩ := h
  have hlen : vals.length = L.length := by have := hv.1; omega
  have hx : vals[i]? = some vals[i] := List.getElem?_eq_getElem (by omega)
  obtain ⟨g, c, ex, hF⟩ := RowF.of (hr.own i _ hx) (by omega)
  have hG : ∃ G C, v = .slice (some ⟨G, 0, none⟩) L.length C := by
    obtain ⟨_, ⟨e, hn⟩ | ⟨G, cap, cur, e, _⟩⟩ := hv
    · omega
    · exact ⟨G, cap, e⟩
  obtain ⟨G, C, rfl⟩ := hG
  have hgG : g ≠ G := by
    have := hr.out i _ hx
    rw [ex] at this
    rcases this with e | e
    · simp [Value.ownBlock] at e
    · intro e2; subst e2; exact e rfl
  refine ⟨G, C, g, c, rfl, by rw [World.ownsRow.cellAt hv i (by omega), hx, ex], hF.cell hn, hF.unfrozen n, hF.lt.1, (World.ownsRow.lt hv G rfl).1, hgG, hF.lt.2, fun y => ?_⟩
  have h1 := hF.store (f' := fun t => if t = n then y else co (ro L i) t) hn y (fun t => rfl)
  have hg : w.grownBy (w.setCell ⟨g, n, none⟩ (.int .u8 ((y.toNat : Nat) : Int))) (some g) := by
    have O := (Only.refl g w).setCell n (.int .u8 ((y.toNat : Nat) : Int))
    exact ⟨O.os, O.tape, O.output, by rw [O.size]; exact Nat.le_refl _, fun q _ hq => O.block q (fun e => hq (by rw [e]))⟩
  refine ⟨vals, ?_, ⟨fun j x hj => ?_, hr.diff, hr.out⟩⟩
  · rw [setL_length]
    exact World.ownsRow.kept hv hg (Or.inr (by simp [Value.ownBlock]; exact fun e => hgG e.symm))
  · have hjl : j < L.length := by
      rcases Nat.lt_or_ge j vals.length with h | h
      · omega
      · rw [List.getElem?_eq_none h] at hj; cases hj
    unfold setL
    rw [ro_set hi]
    by_cases e : j = i
    · subst e
      rw [if_pos rfl]
      have e2 : x = vals[j] := by rw [hx] at hj; cases hj; rfl
      subst e2
      rw [ex]
      unfold OwnP
      have e3 : (ro L j).set n y = upto (fun t => if t = n then y else co (ro L j) t) (ro L j).length := by
        refine co_ext (by rw [upto_length]; simp) fun t ht => ?_
        rw [co_at hn, upto, co_map_range _ (by simpa using ht)]
      rw [e3, upto_length]
      exact h1
    · rw [if_neg e]
      refine OwnP.kept (hr.own j x hj) hg ?_
      have := hr.diff j i x _ hj hx e
      rw [ex] at this
      exact this
/-- one shard more: x, laid in a block of its own behind the others, then appended -/
theorem Os.push {wr w1 w2 : World} {base T u : Nat} {v v' x : Value} {L : List (List UInt8)} {p : List UInt8} {o' : Obj} {vals : List Value} (hv : wr.ownsRow base T 1 v L.length vals) (hr : RowsO wr base u v vals (ro L)) (b1 : Below wr.heap.size wr w1) (hx : OwnP w1 base u x p) (hb1 : ∀ k, x.ownBlock = some k → wr.heap.size ≤ k)
    (g2 : (w1.alloc o').grownBy w2 v.ownBlock) (hb2 : v'.ownBlock = v.ownBlock ∨ v'.ownBlock = some (w1.alloc o').heap.size) (hv' : w2.ownsRow base T 1 v' (L.length + 1) (vals ++ [x])) : Os w2 base T u v' (L ++ [p]) := by
  have hlen : vals.length = L.length := by have := hv.1; omega
  have vlt : ∀ k, v.ownBlock = some k → k < wr.heap.size := fun k hk => (World.ownsRow.lt hv k hk).2
  have old : ∀ (i : Nat) (y : Value), vals[i]? = some y → ∀ k, y.ownBlock = some k → k < wr.heap.size := fun i y hy k hk => ((hr.own i y hy).lt hk).2
  have xlt : ∀ k, x.ownBlock = some k → k < w1.heap.size := fun k hk => (hx.lt hk).2
  have s1 := b1.size
  refine ⟨vals ++ [x], by rw [List.length_append]; exact hv', ?_⟩
  have at_end : ∀ i y, (vals ++ [x])[i]? = some y → (vals[i]? = some y ∧ i < vals.length) ∨ (i = vals.length ∧ y = x) := fun i y hy => by
    by_cases hi : i < vals.length
    · rw [List.getElem?_append_left hi] at hy; exact Or.inl ⟨hy, hi⟩
    · rw [List.getElem?_append_right (by omega)] at hy
      have : i - vals.length = 0 := by
        rcases Nat.eq_zero_or_pos (i - vals.length) with e | e
        · exact e
        · rw [List.getElem?_eq_none (by simp; omega)] at hy; cases hy
      rw [this] at hy
      simp at hy
      exact Or.inr ⟨by omega, hy.symm⟩
  have keep : ∀ i y, vals[i]? = some y → OwnP w2 base u y (ro L i) := fun i y hy =>
    ((owns_later (hr.own i y hy) b1 : OwnP w1 base u y (ro L i)).alloc o').kept g2 (hr.out i y hy)
  have xkeep : OwnP w2 base u x p := (hx.alloc o').kept g2 (block_apart' hb1 vlt)
  have vout : ∀ y : Value, (∀ k, y.ownBlock = some k → k < w1.heap.size) → (y.ownBlock = none ∨ y.ownBlock ≠ v.ownBlock) → (y.ownBlock = none ∨ y.ownBlock ≠ v'.ownBlock) := fun y hy ho => by
    rcases hb2 with e | e
    · rw [e]; exact ho
    · refine block_apart hy (fun k hk => ?_)
      rw [e] at hk; simp at hk; omega
  refine ⟨fun i y hy => ?_, fun i j y z hy hz hij => ?_, fun i y hy => ?_⟩
  · rcases at_end i y hy with ⟨e, hi⟩ | ⟨rfl, rfl⟩
    · rw [ro_append_left (by omega)]; exact keep i y e
    · rw [ro_append_right (by omega), hlen, Nat.sub_self]; exact xkeep
  · rcases at_end i y hy with ⟨e, _⟩ | ⟨rfl, rfl⟩
    · rcases at_end j z hz with ⟨e', _⟩ | ⟨rfl, rfl⟩
      · exact hr.diff i j y z e e' hij
      · exact block_apart (old i y e) hb1
    · rcases at_end j z hz with ⟨e', _⟩ | ⟨rfl, rfl⟩
      · exact block_apart' hb1 (old j z e')
      · exact absurd rfl hij
  · rcases at_end i y hy with ⟨e, _⟩ | ⟨rfl, rfl⟩
    · exact vout y (fun k hk => by have := old i y e k hk; omega) (hr.out i y e)
    · exact vout y xlt (block_apart' hb1 vlt)
theorem Os.made {w : World} {base T u : Nat} (cur : Array Value) (cap : Nat) (hb : base ≤ w.heap.size) (hm : cap ≤ maxLen) (hs : cur.size = cap * 1) : Os (w.alloc (.cells cur T)) base T u (.slice (some ⟨w.heap.size, 0, none⟩) 0 cap) [] :=
  ⟨[], World.ownsRow_made w cur cap hb hm hs, RowsO.nil _ _ _ _ _⟩
theorem Os.form {w : World} {base T u : Nat} {v : Value} {L : List (List UInt8)} (h : Os w base T u v L) : ∃ a c, v = .slice a L.length c := h.rs.form
/-- 'append(s, x)' on shards of the call's own, x a shard of its own, laid as a list of one -/
theorem wpList_append_os {P : Program} {wr w1 : World} {ops : Array Oper} {rest : List Oper} {o : Oper} {a : Act} {Q : Exit → Act → World → Prop} (hgd : o.guard = none) (s xo : Operand) (t : TypeId)
    (ho : o.op = .call { callee := .builtin .append, args := #[s, xo], argTypes := #[t, t] })
    (base e : Nat) (i : TypeInfo) (ht : P.underlying t = some (.slice e)) (hi : P.info? e = some i) (hz : i.zero = some (.slice none 0 0)) (hsize : i.size = 1) (hby : i.bytes = 24)
    (u : Nat) (v : Value) (L : List (List UInt8)) (hs : a.eval s = v) (hO : Os wr base e u v L) (b1 : Below wr.heap.size wr w1) (x : Value) (p : List UInt8) (hx : OwnP w1 base u x p) (hb1 : ∀ k, x.ownBlock = some k → wr.heap.size ≤ k)
    (et c : Nat) (hxo : a.eval xo = .slice (some ⟨w1.heap.size, 0, none⟩) 1 c) (hl : L.length ≤ 100000) (hbase : base ≤ wr.heap.size)
    (h : ∀ v' w2, Os w2 base e u v' (L ++ [p]) → Below base wr w2 → (∀ q, q < w1.heap.size → v.ownBlock ≠ some q → w2.heap[q]? = w1.heap[q]?) → (∀ q, q < w1.heap.size → v.ownBlock ≠ some q → v'.ownBlock ≠ some q) → wpList P ops Q rest (a.put o.dst v') w2) : wpList P ops Q (o :: rest) a (w1.alloc (.cells #[x] et)) := by
  obtain ⟨vals, hv, hr⟩ := hO
  have s1 := b1.size
  refine wpList_append_one _ hgd s xo t ho base e i ht hi hz hsize hby v L.length vals hs (World.ownsRow.alloc (owns_later hv b1) _) w1.heap.size c x hxo (by simp) hx.one hl (by simp; omega) ?_
  intro v' w2 hv2 hg2 hb2
  refine h v' w2 (Os.push hv hr b1 hx hb1 hg2 hb2 hv2) ?_ (fun q hq hne => ?_) (fun q hq hne => ?_)
  rotate_left
  · rw [hg2.block q (by simp; omega) (fun e => hne e.symm)]
    exact ((Below.refl w1.heap.size w1).alloc (Nat.le_refl _) _).block q hq
  · rcases hb2 with e | e
    · rw [e]; exact hne
    · rw [e]; intro h; cases h; simp at hq; omega
  exact (((b1.mono hbase).alloc (by omega) _).grown hg2 (by simp; omega) (fun q hq => (World.ownsRow.lt hv q hq).1))
/-- What a call that answers shards and an error leaves. -/
def MakesRs (w : World) (x : Int) (L : List (List UInt8)) (e : Ending) (w' : World) : Prop := ∃ v, e = .returned (.tuple #[v, .int .i64 x]) ∧ Rs w' v L ∧ Below w.heap.size w w'
/-- few and short shards -/
def Small (L : List (List UInt8)) : Prop := L.length ≤ 300 ∧ ∀ i, (ro L i).length ≤ 300
end Go.Proofs.YtddnfhfangfgeaaGreat.Gf

namespace Go.Proofs.YtddnfhfangfgeaaGreat.Gf
set_option linter.unusedVariables false
set_option linter.unusedSimpArgs false
open Go.RowKit
def FarL (w : World) (base : Nat) (v : Value) (L : List (List UInt8)) : Prop := ∃ T u, Os w base T u v L
section
variable {w w' : World} {base base' : Nat} {v : Value} {L : List (List UInt8)}
theorem FarL.rs (h : FarL w base v L) : Rs w v L := by
  obtain ⟨T, u, h⟩ := h
  exact h.rs
theorem FarL.form (h : FarL w base v L) : ∃ a c, v = .slice a L.length c := h.rs.form
theorem FarL.later (h : FarL w base v L) (hb : Below w.heap.size w w') : FarL w' base v L := by
  obtain ⟨T, u, h⟩ := h
  exact ⟨T, u, h.later hb⟩
theorem FarL.rebase (h : FarL w base v L) (hb : base' ≤ base) : FarL w base' v L := by
  obtain ⟨T, u, h⟩ := h
  exact ⟨T, u, h.base hb⟩
theorem FarL.nil (w : World) (base : Nat) : FarL w base (.slice none 0 0) [] := ⟨0, 0, Os.nil _ _ _ _⟩
end
/-- rows in new memory, and an error -/
def MakesFar (w : World) (x : Int) (L : List (List UInt8)) (e : Ending) (w' : World) : Prop := ∃ v, e = .returned (.tuple #[v, .int .i64 x]) ∧ FarL w' w.heap.size v L ∧ Below w.heap.size w w'
theorem MakesFar.rs {w w' : World} {x : Int} {L : List (List UInt8)} {e : Ending} (h : MakesFar w x L e w') : MakesRs w x L e w' := by
  obtain ⟨v, h1, h2, h3⟩ := h
  exact ⟨v, h1, h2.rs, h3⟩
end Go.Proofs.YtddnfhfangfgeaaGreat.Gf



namespace Go.Proofs.YtddnfhfangfgeaaGreat.Gf
set_option linter.unusedVariables false
set_option linter.unusedSimpArgs false
open Go.RowKit
/-- all of one length -/
def Even (L : List (List UInt8)) : Prop := ∀ i, i < L.length → (ro L i).length = (ro L 0).length
instance (L : List (List UInt8)) : Decidable (Even L) := inferInstanceAs (Decidable (∀ i, i < L.length → (ro L i).length = (ro L 0).length))
end Go.Proofs.YtddnfhfangfgeaaGreat.Gf

namespace Go.Proofs.YtddnfhfangfgeaaGreat.Gf
set_option linter.unusedVariables false
set_option linter.unusedSimpArgs false
open Go.RowKit
/-- a parity byte: the sum of the first j products -/
def wd (F : Mx) (L : List (List UInt8)) (i j n : Nat) : UInt8 := S j (fun l => mu (F i l) (co (ro L l) n))
theorem wd_succ (F : Mx) (L : List (List UInt8)) (i j n : Nat) : wd F L i (j + 1) n = wd F L i j n ^^^ mu (F i j) (co (ro L j) n) := rfl
/-- a parity shard -/
def parR (k : Nat) (F : Mx) (L : List (List UInt8)) (i : Nat) : List UInt8 := upto (wd F L i k) (ro L 0).length
theorem parR_length (k : Nat) (F : Mx) (L : List (List UInt8)) (i : Nat) : (parR k F L i).length = (ro L 0).length := upto_length _ _
/-- all shards of data shards -/
def encL (m k : Nat) (F : Mx) (L : List (List UInt8)) : List (List UInt8) := L ++ mkL m (parR k F L)
theorem encL_length (m k : Nat) (F : Mx) (L : List (List UInt8)) : (encL m k F L).length = L.length + m := by unfold encL; rw [List.length_append, mkL_length]
theorem upto_co (p : List UInt8) : upto (co p) p.length = p := co_ext (upto_length _ _) fun i hi => by rw [upto_length] at hi; exact co_map_range _ hi
theorem co_upto_in {f : Nat → UInt8} {k i : Nat} (h : i < k) : co (upto f k) i = f i := co_map_range f h
end Go.Proofs.YtddnfhfangfgeaaGreat.Gf





