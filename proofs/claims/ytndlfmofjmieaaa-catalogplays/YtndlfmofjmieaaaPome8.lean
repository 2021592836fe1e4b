/- TEXTS JOINED: CtOw, CtV. -/
import Derived.Test.YtndlfmofjmieaaaPome6
import Derived.Test.YtndlfmofjmieaaaPome7
namespace Go.Proofs.Ytndlfmofjmieaaa.Gf
set_option linter.unusedVariables false
set_option linter.unusedSimpArgs false
open Go.RowKit
structure OwnOb (w : World) (base : Nat) (v : Value) (L : List ObV) : Prop where
  row : w.ownsRow base 52 4 v L.length (cellsO L)
  ea : ∀ c ∈ L, ObOk w c
  ap : ∀ c ∈ L, NearR base w.heap.size v c.vs
theorem OwnOb.nil (w : World) (base : Nat) : OwnOb w base (.slice none 0 0) [] := ⟨World.ownsRow_nil _ _ _ _, (fun c hc => by cases hc), (fun c hc => by cases hc)⟩
theorem OwnOb.rd {w : World} {base : Nat} {v : Value} {L : List ObV} (h : OwnOb w base v L) (hl : L.length ≤ 1000000) : RdO w v L := by
  by_cases h0 : L = []
  · subst h0
    obtain ⟨_, ⟨e, _⟩ | ⟨g, cap, cur, e, _⟩⟩ := h.row
    · exact Or.inl ⟨none, 0, rfl, e⟩
    · exact Or.inl ⟨_, cap, rfl, e⟩
  · have hpos : 0 < L.length := List.length_pos_iff.2 h0
    have hr := h.row
    obtain ⟨_, ⟨e, hn⟩ | ⟨g, cap, cur, rfl, hg, hh, hc, hm, hs, ht⟩⟩ := h.row
    · omega
    · refine Or.inr ⟨g, 0, cap, h0, rfl, by unfold maxLen; omega, (World.ownsRow.lt hr g rfl).2, fun i hi => ?_⟩
      have hmem : L.getD i default ∈ L := by rw [List.getD_eq_getElem?_getD, List.getElem?_eq_getElem hi]; exact List.getElem_mem hi
      have k := h.ea _ hmem
      have cc : ∀ j, j < 4 → w.cell? ⟨g, i * 4 + j, none⟩ = (four (L.getD i default))[j]? := fun j hj => (World.ownsRow.cellAt hr (i * 4 + j) (by omega)).trans (cellsO_at L hi hj)
      refine ⟨?_, ?_, ?_, ?_, k.wl, k.we, k.ky, k.rs, k.wi⟩
      · rw [Nat.zero_add]; exact cc 0 (by omega)
      · rw [Nat.zero_add]; exact cc 1 (by omega)
      · rw [Nat.zero_add]; exact cc 2 (by omega)
      · rw [Nat.zero_add]; exact cc 3 (by omega)
theorem ObAt.ok19 {w : World} {b off : Nat} {c : ObV} (h : ObAt w b off c) : ObOk w c := ⟨h.wl, h.we, h.ky, h.rs, h.wi⟩
theorem rdO_ok {w : World} {v : Value} {L : List ObV} (h : RdO w v L) : ∀ c ∈ L, ObOk w c := fun c hc => by
  rcases h with ⟨_, _, rfl, _⟩ | ⟨b, off, cap, h1, h2, h3, h4, h5⟩
  · cases hc
  · obtain ⟨i, hi, e⟩ := List.getElem_of_mem hc
    have := (h5 i hi).ok19
    rw [show L.getD i default = L[i] by simp [List.getD, hi], e] at this
    exact this
theorem info_obj19 : ∃ i, Try.prog.info? 52 = some i ∧ i.zero = some (.agg #[.string ⟨#[]⟩, .int .i64 0, .int .i64 0, .slice none 0 0]) ∧ i.size = 4 ∧ i.bytes = 56 := by
  have h : (Try.prog.info? 52).map (fun i => (i.zero, i.size, i.bytes)) = some (some (.agg #[.string ⟨#[]⟩, .int .i64 0, .int .i64 0, .slice none 0 0]), 4, 56) := by kernel_rfl
  cases e : Try.prog.info? 52 with
  | none => rw [e] at h; cases h
  | some i =>
    rw [e] at h
    simp only [Option.map_some, Option.some.injEq, Prod.mk.injEq] at h
    exact ⟨i, rfl, h.1, h.2.1, h.2.2⟩
theorem cells_one19 {w : World} {L : List ObV} (h : ∀ c ∈ L, ObOk w c) : ∀ y ∈ cellsO L, y.oneCell' = true := by
  induction L with
  | nil => intro y hy; cases hy
  | cons c L ih =>
    intro y hy
    rcases List.mem_append.1 hy with hy | hy
    · obtain ⟨a, n, e⟩ := (h c (List.mem_cons_self ..)).rs.form
      simp only [four, List.mem_cons, List.not_mem_nil, or_false] at hy
      rcases hy with rfl | rfl | rfl | rfl
      · rfl
      · rfl
      · rfl
      · rw [e]; rfl
    · exact ih (fun d hd => h d (List.mem_cons_of_mem _ hd)) y hy
theorem rdO_cells {w : World} {b off : Nat} {L : List ObV} (h : ∀ i, i < L.length → ObAt w b (off + i * 4) (L.getD i default)) : ∀ j u, (cellsO L)[j]? = some u → w.cell? ⟨b, off + j, none⟩ = some u := by
  intro j u hu
  have hlt : j < L.length * 4 := by
    have := (List.getElem?_eq_some_iff.1 hu).1
    rwa [cellsO_length] at this
  obtain ⟨i, r, hr, rfl⟩ : ∃ i r, r < 4 ∧ j = i * 4 + r := ⟨j / 4, j % 4, by omega, by omega⟩
  have hi : i < L.length := by omega
  rw [cellsO_at L hi hr] at hu
  have z := h i hi
  match r, hr, hu with
  | 0, _, hu => exact z.c0.trans hu
  | 1, _, hu => rw [← Nat.add_assoc]; exact z.c1.trans hu
  | 2, _, hu => rw [← Nat.add_assoc]; exact z.c2.trans hu
  | 3, _, hu => rw [← Nat.add_assoc]; exact z.c3.trans hu
theorem run_append_obs {w : World} {base : Nat} {v va : Value} {L M : List ObV} (ty : TypeId) (h : OwnOb w base v L) (hM : RdO w va M) (hc : CapO va) (ha : ∀ c ∈ M, NearR base w.heap.size v c.vs) (hl : L.length + M.length ≤ 100000) (hbase : base ≤ w.heap.size) :
    ∃ v' w', (Builtin.append_ #[25, 25] ty #[v, va]).run Try.prog w = .ok v' w' ∧ OwnOb w' base v' (L ++ M) ∧ Gro w v w' v' := by
  obtain ⟨i, hi, hz, hs, hy⟩ := info_obj19
  have ok := rdO_ok hM
  rcases hM with ⟨ao, cap, rfl, rfl⟩ | ⟨b, off, cap, h1, rfl, h3, h4, h5⟩
  · rcases ao with _ | ad
    · have := (hc _ _ _ rfl).2 rfl
      subst this
      exact ⟨v, w, run_append_owned_none (P := Try.prog) (w := w) base 25 ty 52 i 4 Try.underlying25 hi v L.length (cellsO L) h.row, by rw [List.append_nil]; exact h, Gro.refl _ _⟩
    · obtain ⟨v', w', hrun, h2, h3, _, h5⟩ := run_append_own_at (P := Try.prog) w base 25 ty 52 i (.agg #[.string ⟨#[]⟩, .int .i64 0, .int .i64 0, .slice none 0 0]) 4 56 Try.underlying25 hi hz hs hy rfl (by decide) v L.length (cellsO L) h.row ad 0 cap [] rfl (by intro j u hj; simp at hj) (by intro u hu; simp at hu) (by unfold maxLen; omega) (by omega) hbase
      have G : Gro w v w' v' := Gro.of h3 h5
      refine ⟨v', w', hrun, ⟨by simpa using h2, fun d hd => ?_, fun d hd => ?_⟩, G⟩
      · rw [List.append_nil] at hd
        have k := h.ea d hd
        exact ⟨k.wl, k.we, k.ky, k.rs.groR G (h.ap d hd), k.wi⟩
      · rw [List.append_nil] at hd
        exact fun x n c e => (h.ap d hd x n c e).imp id fun q => ⟨q.1, Nat.lt_of_lt_of_le q.2.1 G.gr.size, G.ne q.2.1 q.2.2⟩
  · obtain ⟨v', w', hrun, h2, h3', _, h5'⟩ := run_append_own_at (P := Try.prog) w base 25 ty 52 i (.agg #[.string ⟨#[]⟩, .int .i64 0, .int .i64 0, .slice none 0 0]) 4 56 Try.underlying25 hi hz hs hy rfl (by decide) v L.length (cellsO L) h.row ⟨b, off, none⟩ M.length cap (cellsO M) (cellsO_length M)
      (by
        intro j y hj
        rw [add_at]
        exact rdO_cells h5 j y hj) (cells_one19 ok) (by unfold maxLen; omega) (by omega) hbase
    have G : Gro w v w' v' := Gro.of h3' h5'
    refine ⟨v', w', hrun, ⟨?_, ?_, ?_⟩, G⟩
    · rw [List.length_append, cellsO_append]; exact h2
    · intro d hd
      rcases List.mem_append.1 hd with hd | hd
      · have k := h.ea d hd
        exact ⟨k.wl, k.we, k.ky, k.rs.groR G (h.ap d hd), k.wi⟩
      · have k := ok d hd
        exact ⟨k.wl, k.we, k.ky, k.rs.groR G (ha d hd), k.wi⟩
    · have key : ∀ u, NearR base w.heap.size v u → NearR base w'.heap.size v' u := fun u hu x n c e => (hu x n c e).imp id fun q => ⟨q.1, Nat.lt_of_lt_of_le q.2.1 G.gr.size, G.ne q.2.1 q.2.2⟩
      intro d hd
      rcases List.mem_append.1 hd with hd | hd
      · exact key _ (h.ap d hd)
      · exact key _ (ha d hd)
theorem step_append_obs {w : World} {ops : Array Oper} {o : Oper} {a : Act} {K : Act → World → Prop} {Q : Exit → Act → World → Prop} {E : Prop} (hgd : o.guard = none) (s x : Operand)
    (ho : o.op = .call { callee := .builtin .append, args := #[s, x], argTypes := #[25, 25] })
    (base : Nat) (v : Value) (L : List ObV) (hs : a.eval s = v) (h : OwnOb w base v L) (va : Value) (M : List ObV) (hx : a.eval x = va) (hM : RdO w va M) (hc : CapO va) (ha : ∀ c ∈ M, NearR base w.heap.size v c.vs) (hl : L.length + M.length ≤ 100000) (hbase : base ≤ w.heap.size)
    (k : ∀ v' w', OwnOb w' base v' (L ++ M) → Gro w v w' v' → K (a.put o.dst v') w') :
    if Region.wanted o (yielded ops a.tmps) = true then Oper.wp Try.prog o a w K Q else E := by
  have hw : Region.wanted o (yielded ops a.tmps) = true := by simp [Region.wanted, hgd]
  rw [if_pos hw]
  obtain ⟨v', w', hrun, h2, h3⟩ := run_append_obs o.type h hM hc ha hl hbase
  unfold Oper.wp execOp
  simp only [ho, resolve, invoke, builtin, Sem.run_bind, Sem.run_pure, Result.andThen_ok, List.map_toArray, List.map_cons, List.map_nil, hs, hx, hrun]
  exact k v' w' h2 h3
theorem wpList_append_obs {w : World} {base : Nat} {v va : Value} {L M : List ObV} {ops : Array Oper} {rest : List Oper} {o : Oper} {a : Act} {Q : Exit → Act → World → Prop} (hgd : o.guard = none) (s x : Operand)
    (ho : o.op = .call { callee := .builtin .append, args := #[s, x], argTypes := #[25, 25] }) (hs : a.eval s = v) (hx : a.eval x = va)
    (h : OwnOb w base v L) (hM : RdO w va M) (hc : CapO va) (ha : ∀ c ∈ M, NearR base w.heap.size v c.vs) (hl : L.length + M.length ≤ 100000) (hbase : base ≤ w.heap.size)
    (k : ∀ v' w', OwnOb w' base v' (L ++ M) → Gro w v w' v' → wpList Try.prog ops Q rest (a.put o.dst v') w') : wpList Try.prog ops Q (o :: rest) a w := by
  refine wpList_plain hgd fun K hK => ?_
  obtain ⟨v', w', hrun, h2, h3⟩ := run_append_obs o.type h hM hc ha hl hbase
  unfold Oper.wp execOp
  simp only [ho, resolve, invoke, builtin, Sem.run_bind, Sem.run_pure, Result.andThen_ok, List.map_toArray, List.map_cons, List.map_nil, hs, hx, hrun]
  exact hK _ _ (k v' w' h2 h3)
/-- a literal of none -/
theorem made_ob (w : World) {base : Nat} (h : base ≤ w.heap.size) : OwnOb (w.alloc (.cells #[] 52)) base (.slice (some ⟨w.heap.size, 0, none⟩) 0 0) [] :=
  ⟨World.ownsRow_made w #[] 0 h (Nat.zero_le _) rfl, (fun c hc => by cases hc), (fun c hc => by cases hc)⟩
/-- a literal of one -/
theorem lit_ob (w : World) {c : ObV} (hc : ObOk w c) : RdO (w.alloc (.cells #[sv c.o.key, .int .i64 c.o.len, .int .i64 c.o.ep, c.vs] 52)) (.slice (some ⟨w.heap.size, 0, none⟩) 1 1) [c] := by
  refine Or.inr ⟨w.heap.size, 0, 1, by simp, rfl, by simp [maxLen], by simp, fun i hi => ?_⟩
  have e : i = 0 := by simpa using hi
  subst e
  have cc : ∀ j, (w.alloc (.cells #[sv c.o.key, .int .i64 c.o.len, .int .i64 c.o.ep, c.vs] 52)).cell? ⟨w.heap.size, j, none⟩ = #[sv c.o.key, Value.int .i64 c.o.len, .int .i64 c.o.ep, c.vs][j]? := fun j => World.cell?_alloc_new _ _ _ _
  have b := belR w (.cells #[sv c.o.key, .int .i64 c.o.len, .int .i64 c.o.ep, c.vs] 52)
  exact ⟨cc 0, cc 1, cc 2, cc 3, hc.wl, hc.we, hc.ky, hc.rs.below b, hc.wi⟩
theorem OwnOb.later {w w' : World} {base : Nat} {v : Value} {L : List ObV} (h : OwnOb w base v L) (t : Below w.heap.size w w') : OwnOb w' base v L :=
  ⟨row_late18 h.row t, fun c hc => by have k := h.ea c hc; exact ⟨k.wl, k.we, k.ky, k.rs.below t, k.wi⟩, fun c hc => (h.ap c hc).mono t.size⟩
theorem RdO.take19 {w : World} {b off c n : Nat} {T : List ObV} (h : RdO w (.slice (some ⟨b, off, none⟩) T.length c) T) {k c' : Nat} (hk : k ≤ T.length) (hn : n = k) : RdO w (.slice (some ⟨b, off, none⟩) n c') (T.take k) := by
  subst hn
  have hl : (T.take n).length = n := by rw [List.length_take]; omega
  by_cases h0 : n = 0
  · subst h0
    exact Or.inl ⟨_, c', by simp, rfl⟩
  · rcases h with ⟨_, _, h1, _⟩ | ⟨b', off', c2, h1, h2, h3, h4, h5⟩
    · rw [h1] at hk; simp at hk; omega
    · simp at h2
      obtain ⟨⟨rfl, rfl⟩, _⟩ := h2
      refine Or.inr ⟨b, off, c', fun e => by rw [e] at hl; simp at hl; omega, by rw [hl], by omega, h4, fun i hi => ?_⟩
      rw [hl] at hi
      have e : (T.take n).getD i default = T.getD i default := by simp [List.getD, List.getElem?_take_of_lt hi]
      rw [e]
      exact h5 i (by omega)
theorem RdO.drop19 {w : World} {b off c n : Nat} {T : List ObV} (h : RdO w (.slice (some ⟨b, off, none⟩) T.length c) T) {k c' : Nat} (hk : k ≤ T.length) (hn : n = T.length - k) : RdO w (.slice (some ⟨b, off + k * 4, none⟩) n c') (T.drop k) := by
  subst hn
  by_cases h0 : k = T.length
  · exact Or.inl ⟨_, c', by rw [h0]; simp, by rw [h0, Nat.sub_self]⟩
  · rcases h with ⟨_, _, h1, _⟩ | ⟨b', off', c2, h1, h2, h3, h4, h5⟩
    · rw [h1] at hk h0; simp at hk; exact absurd hk h0
    · simp at h2
      obtain ⟨⟨rfl, rfl⟩, _⟩ := h2
      have hl : (T.drop k).length = T.length - k := List.length_drop
      refine Or.inr ⟨b, off + k * 4, c', fun e => by rw [e] at hl; simp at hl; omega, by rw [hl], by omega, h4, fun i hi => ?_⟩
      rw [hl] at hi
      have e : (T.drop k).getD i default = T.getD (k + i) default := by simp [List.getD]
      rw [e, show off + k * 4 + i * 4 = off + (k + i) * 4 by omega]
      exact h5 (k + i) (by omega)
end Go.Proofs.Ytndlfmofjmieaaa.Gf

namespace Go.Proofs.Ytndlfmofjmieaaa.Gf
set_option linter.unusedVariables false
set_option linter.unusedSimpArgs false
open Go.RowKit
def finV : List ObV → List UInt8 → Option ObV
  | [], _ => none
  | x :: l, k => if x.o.key = k then some x else finV l k
theorem finV_fin (L : List ObV) (k : List UInt8) : finK (oL L) k = (finV L k).map ObV.o := by
  induction L with
  | nil => rfl
  | cons x l ih =>
    show finK (x.o :: oL l) k = _
    unfold finK finV
    by_cases h : x.o.key = k
    · rw [if_pos h, if_pos h]; rfl
    · rw [if_neg h, if_neg h]; exact ih
theorem finV_mem {L : List ObV} {k : List UInt8} {c : ObV} (h : finV L k = some c) : c ∈ L ∧ c.o.key = k := by
  induction L with
  | nil => cases h
  | cons x l ih =>
    unfold finV at h
    by_cases e : x.o.key = k
    · rw [if_pos e] at h; cases h; exact ⟨List.mem_cons_self .., e⟩
    · rw [if_neg e] at h; obtain ⟨a, b⟩ := ih h; exact ⟨List.mem_cons_of_mem _ a, b⟩
theorem finV_none {L : List ObV} {k : List UInt8} : finV L k = none ↔ finK (oL L) k = none := by
  rw [finV_fin]
  cases finV L k with
  | none => simp
  | some c => simp
theorem finV_some {L : List ObV} (h : Rise (oL L)) {c : ObV} (hc : c ∈ L) : finV L c.o.key = some c := by
  induction L with
  | nil => cases hc
  | cons x l ih =>
    have h' : Rise (x.o :: oL l) := h
    obtain ⟨h1, h2⟩ := Rise.cons.1 h'
    unfold finV
    rcases List.mem_cons.1 hc with rfl | hc
    · rw [if_pos rfl]
    · rw [if_neg (ltK_ne (h1 c.o (List.mem_map_of_mem hc))), ih h2 hc]
def wiV : List ObV → ObV → List ObV
  | [], c => [c]
  | x :: l, c => if ltK x.o.key c.o.key then x :: wiV l c else if x.o.key = c.o.key then c :: l else c :: x :: l
theorem oL_wiV (L : List ObV) (c : ObV) : oL (wiV L c) = wiC (oL L) c.o := by
  induction L with
  | nil => rfl
  | cons x l ih =>
    show _ = wiC (x.o :: oL l) c.o
    unfold wiV wiC
    by_cases h : ltK x.o.key c.o.key
    · rw [if_pos h, if_pos h, ← ih]; rfl
    · rw [if_neg h, if_neg h]
      by_cases e : x.o.key = c.o.key
      · rw [if_pos e, if_pos e]; rfl
      · rw [if_neg e, if_neg e]; rfl
theorem wiV_mem {L : List ObV} {c x : ObV} (h : x ∈ wiV L c) : x = c ∨ x ∈ L := by
  induction L with
  | nil => exact Or.inl (by simpa [wiV] using h)
  | cons y l ih =>
    unfold wiV at h
    by_cases h1 : ltK y.o.key c.o.key
    · rw [if_pos h1] at h
      rcases List.mem_cons.1 h with rfl | h
      · exact Or.inr (List.mem_cons_self ..)
      · exact (ih h).imp id fun q => List.mem_cons_of_mem _ q
    · rw [if_neg h1] at h
      by_cases e : y.o.key = c.o.key
      · rw [if_pos e] at h
        rcases List.mem_cons.1 h with rfl | h
        · exact Or.inl rfl
        · exact Or.inr (List.mem_cons_of_mem _ h)
      · rw [if_neg e] at h
        rcases List.mem_cons.1 h with rfl | h
        · exact Or.inl rfl
        · exact Or.inr h
theorem wiV_fin (L : List ObV) (c : ObV) (k : List UInt8) : finV (wiV L c) k = if k = c.o.key then some c else finV L k := by
  induction L with
  | nil =>
    show (if c.o.key = k then some c else none) = _
    by_cases e : k = c.o.key
    · rw [if_pos e, if_pos e.symm]
    · rw [if_neg e, if_neg fun q => e q.symm]; rfl
  | cons y l ih =>
    unfold wiV
    by_cases h1 : ltK y.o.key c.o.key
    · rw [if_pos h1]
      show (if y.o.key = k then some y else finV (wiV l c) k) = _
      rw [ih]
      by_cases e : y.o.key = k
      · rw [if_pos e, if_neg (fun q => ltK_ne h1 (e.trans q))]
        unfold finV; rw [if_pos e]
      · rw [if_neg e]
        conv => rhs; unfold finV
        rw [if_neg e]
    · rw [if_neg h1]
      by_cases e1 : y.o.key = c.o.key
      · rw [if_pos e1]
        show (if c.o.key = k then some c else finV l k) = _
        by_cases e : k = c.o.key
        · rw [if_pos e, if_pos e.symm]
        · rw [if_neg e, if_neg fun q => e q.symm]
          conv => rhs; unfold finV
          rw [if_neg fun q => e (q.symm.trans e1)]
      · rw [if_neg e1]
        show (if c.o.key = k then some c else finV (y :: l) k) = _
        by_cases e : k = c.o.key
        · rw [if_pos e, if_pos e.symm]
        · rw [if_neg e, if_neg fun q => e q.symm]
def deV : List ObV → List UInt8 → List ObV
  | [], _ => []
  | x :: l, k => if x.o.key = k then l else x :: deV l k
theorem oL_deV (L : List ObV) (k : List UInt8) : oL (deV L k) = deC (oL L) k := by
  induction L with
  | nil => rfl
  | cons x l ih =>
    show _ = deC (x.o :: oL l) k
    unfold deV deC
    by_cases e : x.o.key = k
    · rw [if_pos e, if_pos e]
    · rw [if_neg e, if_neg e, ← ih]; rfl
theorem deV_mem {L : List ObV} {k : List UInt8} {x : ObV} (h : x ∈ deV L k) : x ∈ L := by
  induction L with
  | nil => exact h
  | cons y l ih =>
    unfold deV at h
    by_cases e : y.o.key = k
    · rw [if_pos e] at h; exact List.mem_cons_of_mem _ h
    · rw [if_neg e] at h
      rcases List.mem_cons.1 h with rfl | h
      · exact List.mem_cons_self ..
      · exact List.mem_cons_of_mem _ (ih h)
theorem deV_fin {L : List ObV} (h : Rise (oL L)) (k k2 : List UInt8) : finV (deV L k) k2 = if k2 = k then none else finV L k2 := by
  by_cases e : k2 = k
  · rw [if_pos e]
    refine finV_none.2 ?_
    rw [oL_deV, deC_fin h, if_pos e]
  · rw [if_neg e]
    clear h
    induction L with
    | nil => rfl
    | cons y l ih =>
      unfold deV
      by_cases e1 : y.o.key = k
      · rw [if_pos e1]
        conv => rhs; unfold finV
        rw [if_neg fun q => e (q.symm.trans e1)]
      · rw [if_neg e1]
        unfold finV
        rw [ih]
theorem ltK_lt (a b : List UInt8) : ltK a b ↔ a < b := by
  induction a generalizing b with
  | nil =>
    cases b with
    | nil => simp [ltK, Op.bytesLess]
    | cons y b => simp [ltK, Op.bytesLess]
  | cons x a ih =>
    cases b with
    | nil => simp [ltK, Op.bytesLess]
    | cons y b =>
      rw [List.cons_lt_cons_iff, ← ih b]
      unfold ltK
      conv => lhs; unfold Op.bytesLess
      by_cases e : x = y
      · subst e
        simp
      · simp [e]
theorem le_key (a b : List UInt8) : a ≤ b ↔ ¬ ltK b a := by
  rw [ltK_lt]
  exact Iff.rfl
def keysC (L : List ObV) : List (List UInt8) := L.map fun c => c.o.key
theorem keysC_mem {L : List ObV} {d : List UInt8} : d ∈ keysC L ↔ (finV L d).isSome = true := by
  unfold keysC
  rw [List.mem_map]
  constructor
  · rintro ⟨c, hc, rfl⟩
    cases e : finV L c.o.key with
    | some _ => rfl
    | none => exact absurd rfl (finK_none.1 (finV_none.1 e) c.o (List.mem_map_of_mem hc))
  · intro h
    cases e : finV L d with
    | none => rw [e] at h; cases h
    | some c =>
      obtain ⟨a, b⟩ := finV_mem e
      exact ⟨c, a, b⟩
theorem keysC_pair {L : List ObV} (h : Rise (oL L)) : (keysC L).Pairwise ltK := by
  have h' : (L.map ObV.o).Pairwise fun a b => ltK a.key b.key := h
  unfold keysC
  rw [List.pairwise_map] at h' ⊢
  exact h'
theorem keysC_nodup {L : List ObV} (h : Rise (oL L)) : (keysC L).Nodup := (keysC_pair h).imp fun q => ltK_ne q
theorem keysC_length (L : List ObV) : (keysC L).length = L.length := by simp [keysC]
theorem keysC_sorted {L : List ObV} (h : Rise (oL L)) {ss : List (List UInt8)} (hp : ss.Perm (keysC L)) : ss.mergeSort (fun x y => decide (x ≤ y)) = keysC L := by
  have tr : ∀ a b c : List UInt8, decide (a ≤ b) = true → decide (b ≤ c) = true → decide (a ≤ c) = true := fun a b c h1 h2 => by
    simp only [decide_eq_true_eq, le_key] at *
    intro q
    rcases ltK_total a b with e | e | e
    · subst e; exact h2 q
    · exact h2 (ltK_trans q e)
    · exact h1 e
  have tO : ∀ a b : List UInt8, (decide (a ≤ b) || decide (b ≤ a)) = true := fun a b => by
    simp only [Bool.or_eq_true, decide_eq_true_eq, le_key]
    by_cases q : ltK b a
    · exact Or.inr (ltK_not q)
    · exact Or.inl q
  refine List.Perm.eq_of_pairwise (le := fun a b => decide (a ≤ b) = true) (fun a b _ _ h1 h2 => ?_) (List.pairwise_mergeSort tr tO ss) ((keysC_pair h).imp (fun q => decide_eq_true ((le_key _ _).2 (ltK_not q)))) ((List.mergeSort_perm ss _).trans hp)
  simp only [decide_eq_true_eq, le_key] at h1 h2
  rcases ltK_total a b with e | e | e
  · exact e
  · exact absurd e h2
  · exact absurd e h1
theorem oL_app (L M : List ObV) : oL (L ++ M) = oL L ++ oL M := by unfold oL; rw [List.map_append]
theorem oL_take (L : List ObV) (n : Nat) : oL (L.take n) = (oL L).take n := by unfold oL; rw [List.map_take]
theorem oL_drop (L : List ObV) (n : Nat) : oL (L.drop n) = (oL L).drop n := by unfold oL; rw [List.map_drop]
theorem neCL_app (g : GeoS) (L M N : List ObS) : neCL g L (M ++ N) = (neCL g L M).bind fun L' => neCL g L' N := by
  induction M generalizing L with
  | nil => rfl
  | cons o M ih =>
    show (if ¬ fitC g L o ∨ finK L o.key ≠ none then none else neCL g (wiC L o) (M ++ N)) = (if ¬ fitC g L o ∨ finK L o.key ≠ none then none else neCL g (wiC L o) M).bind fun L' => neCL g L' N
    by_cases q : ¬ fitC g L o ∨ finK L o.key ≠ none
    · rw [if_pos q, if_pos q]; rfl
    · rw [if_neg q, if_neg q]; exact ih _
theorem ne_step {g : GeoS} {LV : List ObV} {r : Nat} (hr : r < LV.length) {L : List ObS} (h : neCL g [] (oL (LV.take r)) = some L) :
    ((fitC g L (LV.getD r default).o ∧ finK L (LV.getD r default).o.key = none) → neCL g [] (oL (LV.take (r + 1))) = some (wiC L (LV.getD r default).o)) ∧ (¬ (fitC g L (LV.getD r default).o ∧ finK L (LV.getD r default).o.key = none) → neCL g [] (oL LV) = none) := by
  have e1 : oL (LV.take (r + 1)) = oL (LV.take r) ++ [(LV.getD r default).o] := by
    rw [List.take_succ_eq_append_getElem hr, show LV.getD r default = LV[r] by simp [List.getD, hr], oL_app]
    rfl
  have e2 : oL LV = (oL (LV.take r) ++ [(LV.getD r default).o]) ++ oL (LV.drop (r + 1)) := by
    rw [← e1, ← oL_app, List.take_append_drop]
  have e3 : neCL g L [(LV.getD r default).o] = if ¬ fitC g L (LV.getD r default).o ∨ finK L (LV.getD r default).o.key ≠ none then none else some (wiC L (LV.getD r default).o) := by
    unfold neCL
    rfl
  constructor
  · rintro ⟨q1, q2⟩
    rw [e1, neCL_app, h]
    show neCL g L _ = _
    rw [e3, if_neg]
    rintro (k | k)
    · exact k q1
    · exact k q2
  · intro q
    rw [e2, neCL_app, neCL_app, h]
    show (neCL g L _).bind _ = none
    rw [e3, if_pos]
    · rfl
    · by_cases q1 : fitC g L (LV.getD r default).o
      · exact Or.inr fun q2 => q ⟨q1, q2⟩
      · exact Or.inl q1
end Go.Proofs.Ytndlfmofjmieaaa.Gf
