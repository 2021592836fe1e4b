/- TEXTS JOINED: MeRw, MeRl, MeCR. -/
import Derived.Test.YtclieefpnbdbjaaGreatTome32
import Derived.Test.YtclieefpnbdbjaaGreatTome24
import Derived.Test.YtclieefpnbdbjaaGreatTome31
namespace Go.Proofs.YtclieefpnbdbjaaGreat.Gf
set_option linter.unusedVariables false
set_option linter.unusedSimpArgs false
open Go.RowKit
instance : Inhabited RcV := ⟨⟨noR, .slice none 0 0⟩⟩
structure RcAt (w : World) (b off : Nat) (c : RcV) : Prop where
  c0 : w.cell? ⟨b, off, none⟩ = some (.int .i64 c.r.kind)
  c1 : w.cell? ⟨b, off + 1, none⟩ = some (sv c.r.key)
  c2 : w.cell? ⟨b, off + 2, none⟩ = some (.int .i64 c.r.len)
  c3 : w.cell? ⟨b, off + 3, none⟩ = some c.vs
  ok : c.In w
/-- a slice of records, as it is read -/
def RdR (w : World) (v : Value) (L : List RcV) : Prop :=
  (∃ ao cap, L = [] ∧ v = .slice ao 0 cap) ∨ (∃ b off cap, L ≠ [] ∧ v = .slice (some ⟨b, off, none⟩) L.length cap ∧ L.length ≤ maxLen ∧ b < w.heap.size ∧ ∀ i, i < L.length → RcAt w b (off + i * 4) (L.getD i default))
theorem RdR.form {w : World} {v : Value} {L : List RcV} (h : RdR w v L) : ∃ a c, v = .slice a L.length c := by
  rcases h with ⟨a, c, rfl, rfl⟩ | ⟨b, off, c, _, rfl, _⟩
  · exact ⟨a, c, rfl⟩
  · exact ⟨_, c, rfl⟩
/-- a slice in blocks of the call's own, besides v's -/
def NearR (base lim : Nat) (v u : Value) : Prop := ∀ x n c, u = .slice (some x) n c → n = 0 ∨ (base ≤ x.block ∧ x.block < lim ∧ v.ownBlock ≠ some x.block)
theorem NearR.mono {base lim lim' : Nat} {v u : Value} (h : NearR base lim v u) (hl : lim ≤ lim') : NearR base lim' v u := fun x n c e => (h x n c e).imp id fun q => ⟨q.1, by omega, q.2.2⟩
theorem RdI.groR {w w' : World} {base lim : Nat} {v v' x : Value} {zs : List Int} (h : RdI w x zs) (g : Gro w v w' v') (hn : NearR base lim v x) : RdI w' x zs := by
  rcases h with h | ⟨b, off, cap, h1, rfl, h3, h5, h6⟩
  · exact Or.inl h
  · have hp : zs.length ≠ 0 := fun e => h1 (List.length_eq_zero_iff.1 e)
    have ne := ((hn _ _ _ rfl).resolve_left hp).2.2
    exact Or.inr ⟨b, off, cap, h1, rfl, h3, Nat.lt_of_lt_of_le h5 g.gr.size, fun i hi => (g.cell (p := ⟨b, off + i, none⟩) h5 ne).trans (h6 i hi)⟩
/-- stripes in new memory are near -/
theorem near_far {w : World} {base : Nat} {v u : Value} {zs : List Int} {lo : Nat} (hr : RdI w u zs) (hb : base ≤ lo) (hv : ∀ k, v.ownBlock = some k → k < lo) (hf : ∀ k, u.ownBlock = some k → lo ≤ k) : NearR base w.heap.size v u := fun x n c e => by
  rcases hr with ⟨ao, cap, h1, h2⟩ | ⟨b, off, cap, h1, h2, h3, h5, _⟩
  · rw [h2] at e; simp at e; exact Or.inl e.2.1.symm
  · rw [h2] at e
    simp at e
    obtain ⟨rfl, _⟩ := e
    have h6 := hf b (by rw [h2]; rfl)
    exact Or.inr ⟨by show base ≤ b; omega, h5, fun k => by have h7 : b < lo := hv b k; omega⟩
def fourR (c : RcV) : List Value := [.int .i64 c.r.kind, sv c.r.key, .int .i64 c.r.len, c.vs]
def cellsRc : List RcV → List Value
  | [] => []
  | c :: L => fourR c ++ cellsRc L
theorem cellsRc_append (L M : List RcV) : cellsRc (L ++ M) = cellsRc L ++ cellsRc M := by
  induction L with
  | nil => rfl
  | cons c L ih => show fourR c ++ cellsRc (L ++ M) = fourR c ++ cellsRc L ++ cellsRc M; rw [ih, List.append_assoc]
theorem cellsRc_at (L : List RcV) {i j : Nat} (hi : i < L.length) (hj : j < 4) : (cellsRc L)[i * 4 + j]? = (fourR (L.getD i default))[j]? := by
  induction L generalizing i with
  | nil => simp at hi
  | cons c L ih =>
    show (fourR c ++ cellsRc L)[i * 4 + j]? = _
    have h4 : (fourR c).length = 4 := rfl
    rcases i with _ | i
    · rw [List.getElem?_append_left (by rw [h4]; omega), Nat.zero_mul, Nat.zero_add]; rfl
    · rw [List.getElem?_append_right (by rw [h4]; omega), h4, show (i + 1) * 4 + j - 4 = i * 4 + j by omega, ih (by simpa using hi)]
      rfl
structure OwnRc (w : World) (base : Nat) (v : Value) (L : List RcV) : Prop where
  row : w.ownsRow base 38 4 v L.length (cellsRc L)
  ea : ∀ c ∈ L, RcV.In w c
  ap : ∀ c ∈ L, NearR base w.heap.size v c.vs
theorem OwnRc.nil (w : World) (base : Nat) : OwnRc w base (.slice none 0 0) [] := ⟨World.ownsRow_nil _ _ _ _, (fun c hc => by cases hc), (fun c hc => by cases hc)⟩
theorem OwnRc.rd {w : World} {base : Nat} {v : Value} {L : List RcV} (h : OwnRc w base v L) (hl : L.length ≤ 1000000) : RdR w v L := by
  by_cases h0 : L = []
  · subst h0
    obtain ⟨_, ⟨e, _⟩ | ⟨g, cap, cur, e, _⟩⟩ := h.row
    · exact Or.inl ⟨none, 0, rfl, e⟩
    · exact Or.inl ⟨_, cap, rfl, e⟩
  · have hpos : 0 < L.length := List.length_pos_iff.2 h0
    have hr := h.row
    obtain ⟨_, ⟨e, hn⟩ | ⟨g, cap, cur, rfl, hg, hh, hc, hm, hs, ht⟩⟩ := h.row
    · omega
    · refine Or.inr ⟨g, 0, cap, h0, rfl, by unfold maxLen; omega, (World.ownsRow.lt hr g rfl).2, fun i hi => ?_⟩
      have hmem : L.getD i default ∈ L := by rw [List.getD_eq_getElem?_getD, List.getElem?_eq_getElem hi]; exact List.getElem_mem hi
      have k := h.ea _ hmem
      have cc : ∀ j, j < 4 → w.cell? ⟨g, i * 4 + j, none⟩ = (fourR (L.getD i default))[j]? := fun j hj => (World.ownsRow.cellAt hr (i * 4 + j) (by omega)).trans (cellsRc_at L hi hj)
      refine ⟨?_, ?_, ?_, ?_, k⟩
      · rw [Nat.zero_add]; exact cc 0 (by omega)
      · rw [Nat.zero_add]; exact cc 1 (by omega)
      · rw [Nat.zero_add]; exact cc 2 (by omega)
      · rw [Nat.zero_add]; exact cc 3 (by omega)
theorem info_rec18 : (Tryz.prog.info? 38).map (fun i => (i.zero, i.size, i.bytes)) = some (some (.agg #[.int .i64 0, .string ⟨#[]⟩, .int .i64 0, .slice none 0 0]), 4, 56) := by kernel_rfl
theorem info_rec18' : ∃ i, Tryz.prog.info? 38 = some i ∧ i.zero = some (.agg #[.int .i64 0, .string ⟨#[]⟩, .int .i64 0, .slice none 0 0]) ∧ i.size = 4 ∧ i.bytes = 56 := by
  have h := info_rec18
  cases e : Tryz.prog.info? 38 with
  | none => rw [e] at h; cases h
  | some i =>
    rw [e] at h
    simp only [Option.map_some, Option.some.injEq, Prod.mk.injEq] at h
    exact ⟨i, rfl, h.1, h.2.1, h.2.2⟩
/-- 'append(l, o)', as a run -/
theorem run_append_rc {w W : World} {base b : Nat} {v : Value} {L : List RcV} {c : RcV} (ty : TypeId) (h : OwnRc w base v L) (hc : RcV.In w c) (ha : NearR base w.heap.size v c.vs) (hv1 : c.vs.oneCell' = true) (hW : W = w.alloc (.cells #[.int .i64 c.r.kind, sv c.r.key, .int .i64 c.r.len, c.vs] 38)) (hb : b = w.heap.size) (hl : L.length ≤ 100000) (hbase : base ≤ w.heap.size) :
    ∃ v' w', (Builtin.append_ #[51, 51] ty #[v, .slice (some ⟨b, 0, none⟩) 1 1]).run Tryz.prog W = .ok v' w' ∧ OwnRc w' base v' (L ++ [c]) ∧ Gro w v w' v' := by
  subst hW hb
  obtain ⟨i, hi, hz, hs, hy⟩ := info_rec18'
  obtain ⟨v', w', hrun, h2, h3, _, h5⟩ := run_append_own_at (P := Tryz.prog) (w.alloc (.cells #[.int .i64 c.r.kind, sv c.r.key, .int .i64 c.r.len, c.vs] 38)) base 51 ty 38 i (.agg #[.int .i64 0, .string ⟨#[]⟩, .int .i64 0, .slice none 0 0]) 4 56 Tryz.underlying51 hi hz hs hy rfl (by decide) v L.length (cellsRc L) (World.ownsRow.alloc h.row _) ⟨w.heap.size, 0, none⟩ 1 1 (fourR c) rfl
    (by intro j y hj; rw [add_at, Nat.zero_add, World.cell?_alloc_new, ← hj]; unfold fourR; simp) (by
      intro y hy
      simp only [fourR, List.mem_cons, List.not_mem_nil, or_false] at hy
      rcases hy with rfl | rfl | rfl | rfl
      · rfl
      · rfl
      · rfl
      · exact hv1) (by unfold maxLen; omega) (by omega) (by simp; omega)
  have G : Gro w v w' v' := (Gro.bel v (belR w _)).trans (Gro.of h3 h5)
  refine ⟨v', w', hrun, ⟨?_, ?_, ?_⟩, G⟩
  · rw [List.length_append, cellsRc_append]
    have : cellsRc [c] = fourR c := by show fourR c ++ [] = _; rw [List.append_nil]
    rw [this]; exact h2
  · intro d hd
    rcases List.mem_append.1 hd with hd | hd
    · have k := h.ea d hd
      exact ⟨k.wk, k.wl, k.ky, k.rs.groR G (h.ap d hd), k.wi⟩
    · simp only [List.mem_singleton] at hd
      subst hd
      exact ⟨hc.wk, hc.wl, hc.ky, hc.rs.groR G ha, hc.wi⟩
  · have key : ∀ u, NearR base w.heap.size v u → NearR base w'.heap.size v' u := fun u hu x n c e => (hu x n c e).imp id fun q => ⟨q.1, Nat.lt_of_lt_of_le q.2.1 G.gr.size, G.ne q.2.1 q.2.2⟩
    intro d hd
    rcases List.mem_append.1 hd with hd | hd
    · exact key _ (h.ap d hd)
    · simp only [List.mem_singleton] at hd
      subst hd
      exact key _ ha
theorem wpList_append_rc {w W : World} {base b : Nat} {v : Value} {L : List RcV} {c : RcV} {ops : Array Oper} {rest : List Oper} {o : Oper} {a : Act} {Q : Exit → Act → World → Prop} (hgd : o.guard = none) (s x : Operand)
    (ho : o.op = .call { callee := .builtin .append, args := #[s, x], argTypes := #[51, 51] }) (hs : a.eval s = v) (hx : a.eval x = .slice (some ⟨b, 0, none⟩) 1 1)
    (h : OwnRc w base v L) (hc : RcV.In w c) (ha : NearR base w.heap.size v c.vs) (hv1 : c.vs.oneCell' = true) (hW : W = w.alloc (.cells #[.int .i64 c.r.kind, sv c.r.key, .int .i64 c.r.len, c.vs] 38)) (hb : b = w.heap.size) (hl : L.length ≤ 100000) (hbase : base ≤ w.heap.size)
    (k : ∀ v' w', OwnRc w' base v' (L ++ [c]) → Gro w v w' v' → wpList Tryz.prog ops Q rest (a.put o.dst v') w') : wpList Tryz.prog ops Q (o :: rest) a W := by
  refine wpList_plain hgd fun K hK => ?_
  obtain ⟨v', w', hrun, h2, h3⟩ := run_append_rc o.type h hc ha hv1 hW hb hl hbase
  unfold Oper.wp execOp
  simp only [ho, resolve, invoke, builtin, Sem.run_bind, Sem.run_pure, Result.andThen_ok, List.map_toArray, List.map_cons, List.map_nil, hs, hx, hrun]
  exact hK _ _ (k v' w' h2 h3)
theorem row_late18 {w w' : World} {base e s n : Nat} {v : Value} {xs : List Value} (h : w.ownsRow base e s v n xs) (t : Below w.heap.size w w') : w'.ownsRow base e s v n xs := by
  obtain ⟨h0, h | ⟨g2, cap, cur, hv, hgg, hh, r⟩⟩ := h
  · exact ⟨h0, Or.inl h⟩
  · have hlt : g2 < w.heap.size := (Array.getElem?_eq_some_iff.1 hh).1
    exact ⟨h0, Or.inr ⟨g2, cap, cur, hv, hgg, by rw [t.block g2 hlt]; exact hh, r⟩⟩
theorem OwnRc.weak {w : World} {base base' : Nat} {v : Value} {L : List RcV} (h : OwnRc w base v L) (hb : base' ≤ base) : OwnRc w base' v L := by
  refine ⟨?_, h.ea, fun c hc x n cc e => (h.ap c hc x n cc e).imp id fun q => ⟨Nat.le_trans hb q.1, q.2⟩⟩
  obtain ⟨h0, k | ⟨g, cap, cur, e, hg, r⟩⟩ := h.row
  · exact ⟨h0, Or.inl k⟩
  · exact ⟨h0, Or.inr ⟨g, cap, cur, e, Nat.le_trans hb hg, r⟩⟩
theorem OwnRc.later {w w' : World} {base : Nat} {v : Value} {L : List RcV} (h : OwnRc w base v L) (t : Below w.heap.size w w') : OwnRc w' base v L :=
  ⟨row_late18 h.row t, fun c hc => (h.ea c hc).below t, fun c hc => (h.ap c hc).mono t.size⟩
end Go.Proofs.YtclieefpnbdbjaaGreat.Gf

namespace Go.Proofs.YtclieefpnbdbjaaGreat.Gf
set_option linter.unusedVariables false
set_option linter.unusedSimpArgs false
open Go.RowKit
theorem vo_da {a : ArS} {K : List Bool} {ad : Int} : (rvV a K ad).da.length ≤ 4096 ∧ (Lit.int .i64 (rvV a K ad).ep).wf = true := by
  unfold rvV
  split
  · exact ⟨Nat.zero_le _, by decide⟩
  · rcases vo_or (sayL a ad) with h | ⟨e, d, h⟩
    · rw [vo_none h K]; exact ⟨Nat.zero_le _, show (Lit.int .i64 0).wf = true by decide⟩
    · have := top_se h
      rw [vo_top h K]
      exact ⟨this.2.2, show (Lit.int .i64 e).wf = true from WalkArith.wf_i64 (by have := this.2.1; omega)⟩
/-- records, and an error -/
def Recs18 (w : World) (X : Int) (R : List RcS) (e : Ending) (w' : World) : Prop := ∃ v L, e = .returned (.tuple #[v, .int .i64 X]) ∧ OwnRc w' w.heap.size v L ∧ L.map (·.r) = R ∧ Below w.heap.size w w'
theorem recs_nil {w w' : World} {X : Int} {R : List RcS} (hR : R = []) (b : Below w.heap.size w w') : Recs18 w X R (.returned (.tuple #[.slice none 0 0, .int .i64 X])) w' := by
  subst hR
  exact ⟨_, [], rfl, OwnRc.nil _ _, rfl, b⟩
theorem rl_bad {a : ArS} {g : GeoS} {K : List Bool} {base x : Int} (h : rlX a g K base = x) (hx : ¬ x = 0) : rlR a g K base = [] := by
  unfold rlR
  rw [if_neg (by rw [h]; exact hx)]
theorem rlF_iff {a : ArS} {g : GeoS} {K : List Bool} {base : Int} {i : Nat} : rlF a g K base i = true ↔ ((rlV a g K i).has = true ∧ (rlV a g K i).ep = base + (i : Int) + 1 ∧ IsR (rlV a g K i).da) := by
  unfold rlF
  exact @decide_eq_true_iff _ (Classical.propDecidable _)
theorem rl_main {a : ArS} {g : GeoS} {K : List Bool} {base : Int} (h : okG g) (q : 0 ≤ base ∧ base ≤ mo18) (ho : a.off = false) : rlX a g K base = (if rlN a g K base < g.t.toNat ∧ (rlV a g K (rlN a g K base)).wi = false then 150 else 0) := by
  unfold rlX
  rw [if_neg (fun k => k h), if_neg (fun k => k q), if_neg (by rw [ho]; decide)]
theorem rl_stop {a : ArS} {g : GeoS} {K : List Bool} {base : Int} {r : Nat} (h : okG g) (q : 0 ≤ base ∧ base ≤ mo18) (ho : a.off = false) (hall : ∀ i, i < r → rlF a g K base i = true) (hr : r < g.t.toNat) (hn : rlF a g K base r = false) :
    ((rlV a g K r).wi = false → rlX a g K base = 150) ∧ ((rlV a g K r).wi = true → rlX a g K base = 0 ∧ rlR a g K base = (List.range r).map fun i => raR (rlV a g K i).da) := by
  have e : rlN a g K base = r := ru_stop hall hr hn
  have m := rl_main (K := K) h q ho
  rw [e] at m
  refine ⟨fun w => by rw [m, if_pos ⟨hr, w⟩], fun w => ?_⟩
  have x : rlX a g K base = 0 := by rw [m, if_neg (by rw [w]; simp)]
  refine ⟨x, ?_⟩
  unfold rlR
  rw [if_pos x, e]
theorem rl_full {a : ArS} {g : GeoS} {K : List Bool} {base : Int} (h : okG g) (q : 0 ≤ base ∧ base ≤ mo18) (ho : a.off = false) (hall : ∀ i, i < g.t.toNat → rlF a g K base i = true) : rlX a g K base = 0 ∧ rlR a g K base = (List.range g.t.toNat).map fun i => raR (rlV a g K i).da := by
  have e : rlN a g K base = g.t.toNat := ru_full hall
  have m := rl_main (K := K) h q ho
  rw [e] at m
  have x : rlX a g K base = 0 := by rw [m, if_neg (by omega)]
  refine ⟨x, ?_⟩
  unfold rlR
  rw [if_pos x, e]
/-- what Replay answers, where its numbers may be -/
structure RlF18 (a : ArS) (g : GeoS) (K : List Bool) (base : Int) (T : Nat) : Prop where
  off : a.off = true → rlX a g K base = 130 ∧ rlR a g K base = []
  stop0 : ∀ r, a.off = false → (∀ i, i < r → rlF a g K base i = true) → r < T → rlF a g K base r = false → (rlV a g K r).wi = false → rlX a g K base = 150 ∧ rlR a g K base = []
  stop1 : ∀ r, a.off = false → (∀ i, i < r → rlF a g K base i = true) → r < T → rlF a g K base r = false → (rlV a g K r).wi = true → rlX a g K base = 0 ∧ rlR a g K base = (List.range r).map fun i => raR (rlV a g K i).da
  full : a.off = false → (∀ i, i < T → rlF a g K base i = true) → rlX a g K base = 0 ∧ rlR a g K base = (List.range T).map fun i => raR (rlV a g K i).da
theorem rl_facts {a : ArS} {g : GeoS} {K : List Bool} {base : Int} (h : okG g) (q : 0 ≤ base ∧ base ≤ mo18) : RlF18 a g K base g.t.toNat := by
  refine ⟨fun ho => ?_, fun r ho h1 h2 h3 h4 => ?_, fun r ho h1 h2 h3 h4 => (rl_stop h q ho h1 h2 h3).2 h4, fun ho h1 => rl_full h q ho h1⟩
  · have x : rlX a g K base = 130 := by unfold rlX; rw [if_neg (fun k => k h), if_neg (fun k => k q), if_pos ho]
    exact ⟨x, rl_bad x (by decide)⟩
  · have x := (rl_stop h q ho h1 h2 h3).1 h4
    exact ⟨x, rl_bad x (by decide)⟩
end Go.Proofs.YtclieefpnbdbjaaGreat.Gf

namespace Go.Proofs.YtclieefpnbdbjaaGreat.Gf
set_option linter.unusedVariables false
set_option linter.unusedSimpArgs false
open Go.RowKit
theorem lay4r {w : World} {a b c d : Value} {t : Nat} : (w.alloc (.cells #[a, b, c, d] t)).cell? ⟨w.heap.size, 0, none⟩ = some a ∧ (w.alloc (.cells #[a, b, c, d] t)).cell? ⟨w.heap.size, 1, none⟩ = some b ∧ (w.alloc (.cells #[a, b, c, d] t)).cell? ⟨w.heap.size, 2, none⟩ = some c ∧ (w.alloc (.cells #[a, b, c, d] t)).cell? ⟨w.heap.size, 3, none⟩ = some d ∧ Below w.heap.size w (w.alloc (.cells #[a, b, c, d] t)) ∧ (∀ j, (w.alloc (.cells #[a, b, c, d] t)).frozen? ⟨w.heap.size, j, none⟩ = false) ∧ w.heap.size < (w.alloc (.cells #[a, b, c, d] t)).heap.size := by
  have z : ∀ j, (w.alloc (.cells #[a, b, c, d] t)).cell? ⟨w.heap.size, j, none⟩ = #[a, b, c, d][j]? := fun j => World.cell?_alloc_new _ _ _ _
  exact ⟨z 0, z 1, z 2, z 3, belR _ _, fun j => by simp [go_sem], by simp⟩
/-- a record that a vote was asked for, and whether it is one -/
def AppdM (w : World) (V : VoS) (is : Bool) (e : Ending) (w' : World) : Prop := ∃ c : RcV, e = .returned (.tuple #[aggR c, .bool is]) ∧ c.In w' ∧ (∀ k, c.vs.ownBlock = some k → w.heap.size ≤ k) ∧ Below w.heap.size w w' ∧ (is = true → c.r = raR V.da)
theorem appd_nil {w X : World} {V : VoS} (b : Below w.heap.size w X) : AppdM w V false (.returned (.tuple #[.agg #[.int .i64 0, .string ⟨#[]⟩, .int .i64 0, .slice none 0 0], .bool false])) X :=
  ⟨⟨noR, .slice none 0 0⟩, rfl, noR_in _, fun k hk => by simp [Value.ownBlock] at hk, b, fun q => by cases q⟩
theorem app_zero {p : Prop} (h : p := by
  have F : Hid (Below w.heap.size w W) := BW
  clear BW
  go_wp2
  exact bodyPost_ret (v := .tuple #[.agg #[.int .i64 0, .string ⟨#[]⟩, .int .i64 0, .slice none 0 0], .bool false]) (by simp [results, Tryz.results71, go_sem, z0, z1, z2, z3]) rfl (appd_nil F.out)) : p := h
set_option maxRecDepth 100000 in
set_option maxHeartbeats 2000000 in
theorem mapp_any {w : World} {V : VoS} {vd : Value} (hd : Rd w vd V.da) (hl : V.da.length ≤ 100000) {ep : Int} {is : Bool} (his : decide (V.has = true ∧ V.ep = ep ∧ IsR V.da) = is) : Calls Tryz.prog 71 #[aggV V vd, .int .i64 ep] w (AppdM w V is) := by
  obtain ⟨vh, ve, vda, vco, vw⟩ := V
  obtain ⟨va, vc, ev⟩ := hd.form
  simp only at ev hd hl his
  subst ev
  rw [show aggV ⟨vh, ve, vda, vco, vw⟩ (.slice va vda.length vc) = .agg #[.bool vh, .int .i64 ve, .slice va vda.length vc, .int .i64 ((vco : Nat) : Int), .bool vw] from rfl]
  have HIS : Hid (decide (vh = true ∧ ve = ep ∧ IsR vda) = is) := his
  obtain ⟨W0, hW0⟩ : ∃ W0, W0 = w.alloc (.cells #[.bool vh, .int .i64 ve, .slice va vda.length vc, .int .i64 ((vco : Nat) : Int), .bool vw] 130) := ⟨_, rfl⟩
  obtain ⟨v0, v1, v2, v3, v4, b0, -, l0⟩ := @lay5 w (.bool vh) (.int .i64 ve) (.slice va vda.length vc) (.int .i64 ((vco : Nat) : Int)) (.bool vw) 130
  rw [← hW0] at v0 v1 v2 v3 v4 b0 l0
  obtain ⟨W, hW⟩ : ∃ W, W = W0.alloc (.cells #[.int .i64 0, .string ⟨#[]⟩, .int .i64 0, .slice none 0 0] 38) := ⟨_, rfl⟩
  obtain ⟨z0, z1, z2, z3, bW, zf, lW⟩ := @lay4r W0 (.int .i64 0) (.string ⟨#[]⟩) (.int .i64 0) (.slice none 0 0) 38
  rw [← hW] at z0 z1 z2 z3 bW zf lW
  have e1 : w.heap.size + 1 = W0.heap.size := by rw [hW0]; simp
  replace v0 := (bW.cell (p := ⟨w.heap.size, 0, none⟩) l0).trans v0
  replace v1 := (bW.cell (p := ⟨w.heap.size, 1, none⟩) l0).trans v1
  replace v2 := (bW.cell (p := ⟨w.heap.size, 2, none⟩) l0).trans v2
  rw [hW0] at hW
  have BW : Below w.heap.size w W := b0.step16 bW b0.size
  obtain ⟨b1, hb1⟩ : ∃ b1, Hid (b1 = W0.heap.size) := ⟨_, rfl⟩
  rw [← hb1.out] at z0 z1 z2 z3 zf lW e1
  have f0 := zf 0
  have f1 := zf 1
  have f2 := zf 2
  have f3 := zf 3
  have RD := hd.below BW
  have hEb : Hid (w.heap.size + 1 = b1) := e1
  have lwb : w.heap.size < b1 := by omega
  clear his hd e1 v3 v4 b0 bW hW0
  cases vh with
  | false =>
    have E : is = false := by rw [← HIS.out]; simp
    subst E
    clear HIS RD
    go_enter Tryz.func71, Tryz.ntmps71
    go_wp2_with fail
    rw [← hW, hEb.out]
    clear hW
    exact app_zero
  | true =>
    by_cases q : ve = ep
    rotate_left
    · have q' : (ve == ep) = false := beq_eq_false_iff_ne.2 q
      have q2 : (ve != ep) = true := by simp [bne, q']
      have E : is = false := by rw [← HIS.out]; exact decide_eq_false fun k => q k.2.1
      subst E
      clear HIS RD
      go_enter Tryz.func71, Tryz.ntmps71
      go_wp2_with fail
      rw [← hW, hEb.out]
      clear hW
      exact app_zero
    · subst q
      obtain ⟨X, hX⟩ : ∃ X, Hid ((if IsR vda then (0 : Int) else 160) = X) := ⟨_, rfl⟩
      have KD := dec16_any RD hl hX.out rfl
      have HE : Hid (is = decide (X = 0)) := by
        show is = _
        rw [← HIS.out, ← hX.out]
        by_cases k : IsR vda
        · rw [if_pos k]; simp [k]
        · rw [if_neg k]; simp [k]
      have HR : Hid (X = 0 → (if IsR vda then raR vda else noR) = raR vda) := fun e => by
        rw [← hX.out] at e
        by_cases k : IsR vda
        · rw [if_pos k]
        · rw [if_neg k] at e; cases e
      generalize (if IsR vda then raR vda else noR) = rr at KD HR
      clear HIS RD hX
      go_enter Tryz.func71, Tryz.ntmps71
      go_wp2_with fail
      rw [← hW, hEb.out]
      clear hW
      refine KD.mono ?_
      rintro _ w1 ⟨⟨⟨ckd, cky, cln, cst⟩, cvs⟩, rfl, hcr, hcin, B1, hfar⟩
      obtain ⟨ca, cc, ecs⟩ := hcin.rs.form
      simp only at ecs hcr hfar
      subst ecs
      rw [show aggR ⟨⟨ckd, cky, cln, cst⟩, .slice ca cst.length cc⟩ = .agg #[.int .i64 ckd, .string ⟨cky.toArray⟩, .int .i64 cln, .slice ca cst.length cc] from rfl]
      obtain ⟨w2, hw2⟩ : ∃ w2, w2 = w1.alloc (.cells #[.int .i64 ckd, .string ⟨cky.toArray⟩, .int .i64 cln, .slice ca cst.length cc] 38) := ⟨_, rfl⟩
      obtain ⟨r0, r1, r2, r3, b2, -, l2⟩ := @lay4r w1 (.int .i64 ckd) (.string ⟨cky.toArray⟩) (.int .i64 cln) (.slice ca cst.length cc) 38
      rw [← hw2] at r0 r1 r2 r3 b2 l2
      have B12 := B1.step16 b2 B1.size
      replace z0 := (B12.cell (p := ⟨b1, 0, none⟩) lW).trans z0
      replace z1 := (B12.cell (p := ⟨b1, 1, none⟩) lW).trans z1
      replace z2 := (B12.cell (p := ⟨b1, 2, none⟩) lW).trans z2
      replace z3 := (B12.cell (p := ⟨b1, 3, none⟩) lW).trans z3
      have g0 := (B12.frozen (p := ⟨b1, 0, none⟩) lW).trans f0
      have g1 := (B12.frozen (p := ⟨b1, 1, none⟩) lW).trans f1
      have g2 := (B12.frozen (p := ⟨b1, 2, none⟩) lW).trans f2
      have g3 := (B12.frozen (p := ⟨b1, 3, none⟩) lW).trans f3
      obtain ⟨Y, hY⟩ : ∃ Y, Y = (((w2.setCell ⟨b1, 0, none⟩ (.int .i64 ckd)).setCell ⟨b1, 1, none⟩ (.string ⟨cky.toArray⟩)).setCell ⟨b1, 2, none⟩ (.int .i64 cln)).setCell ⟨b1, 3, none⟩ (.slice ca cst.length cc) := ⟨_, rfl⟩
      obtain ⟨oX, s0, s1, s2, s3⟩ := set4 (a := .int .i64 ckd) (b := .string ⟨cky.toArray⟩) (c := .int .i64 cln) (d := .slice ca cst.length cc) z0 z1 z2 z3
      rw [← hY] at oX s0 s1 s2 s3
      have nb : ∀ k, (Value.slice ca cst.length cc).ownBlock = some k → k ≠ b1 := fun k hk e => by have := hfar k hk; omega
      have IN : RcV.In w2 ⟨⟨ckd, cky, cln, cst⟩, .slice ca cst.length cc⟩ := hcin.below b2
      have INY : RcV.In Y ⟨⟨ckd, cky, cln, cst⟩, .slice ca cst.length cc⟩ := ⟨IN.wk, IN.wl, IN.ky, by
        rcases IN.rs with h | ⟨b, off, cap, h1, h2, h3, h5, h6⟩
        · exact Or.inl h
        · have hne : b ≠ b1 := nb b (by simp only at h2; rw [h2]; rfl)
          exact Or.inr ⟨b, off, cap, h1, h2, h3, Nat.lt_of_lt_of_le h5 (Nat.le_of_eq oX.size.symm), fun i hi => (oX.cell (p := ⟨b, off + i, none⟩) hne).trans (h6 i hi)⟩, IN.wi⟩
      have F : Hid (AppdM w ⟨true, ve, vda, vco, vw⟩ is (.returned (.tuple #[.agg #[.int .i64 ckd, .string ⟨cky.toArray⟩, .int .i64 cln, .slice ca cst.length cc], .bool (X == 0)])) Y) := by
        have e0 : (X == 0) = is := by rw [HE.out]; by_cases k : X = 0 <;> simp [k]
        rw [e0]
        refine ⟨⟨⟨ckd, cky, cln, cst⟩, .slice ca cst.length cc⟩, rfl, INY, fun k hk => ?_, (BW.step16 B12 BW.size).trans (oX.below (by omega)), fun k => ?_⟩
        · have := hfar k hk; have := BW.size; omega
        · rw [HE.out] at k
          exact hcr.trans (HR.out (of_decide_eq_true k))
      clear HE HR hcr hcin B1 hfar b2 B12 oX IN INY nb f0 f1 f2 f3 zf BW KD
      subst hw2
      go_wp2
      rw [← hY]
      clear hY
      exact bodyPost_ret (v := .tuple #[.agg #[.int .i64 ckd, .string ⟨cky.toArray⟩, .int .i64 cln, .slice ca cst.length cc], .bool (X == 0)]) (by simp [results, Tryz.results71, go_sem, s0, s1, s2, s3]) rfl F.out
end Go.Proofs.YtclieefpnbdbjaaGreat.Gf
