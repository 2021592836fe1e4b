/- TEXTS JOINED: MeRw, MeEx, MeCl, MeAwM. -/
import Derived.Test.YtclieefpnbdbjaaGreatRome20
import Derived.Test.YtclieefpnbdbjaaGreatRome36
import Derived.Deep.Grids
namespace Go.Proofs.YtclieefpnbdbjaaGreat.Gf
set_option linter.unusedVariables false
set_option linter.unusedSimpArgs false
open Go.RowKit
instance : Inhabited RcV := ⟨⟨noR, .slice none 0 0⟩⟩
structure RcAt (w : World) (b off : Nat) (c : RcV) : Prop where
  c0 : w.cell? ⟨b, off, none⟩ = some (.int .i64 c.r.kind)
  c1 : w.cell? ⟨b, off + 1, none⟩ = some (sv c.r.key)
  c2 : w.cell? ⟨b, off + 2, none⟩ = some (.int .i64 c.r.len)
  c3 : w.cell? ⟨b, off + 3, none⟩ = some c.vs
  ok : c.In w
theorem RcAt.below {w w' : World} {b off : Nat} {c : RcV} (h : RcAt w b off c) (hb : b < w.heap.size) (hw : Below w.heap.size w w') : RcAt w' b off c :=
  ⟨(hw.cell (p := ⟨b, off, none⟩) hb).trans h.c0, (hw.cell (p := ⟨b, off + 1, none⟩) hb).trans h.c1, (hw.cell (p := ⟨b, off + 2, none⟩) hb).trans h.c2, (hw.cell (p := ⟨b, off + 3, none⟩) hb).trans h.c3, h.ok.below hw⟩
/-- a slice of records, as it is read -/
def RdR (w : World) (v : Value) (L : List RcV) : Prop :=
  (∃ ao cap, L = [] ∧ v = .slice ao 0 cap) ∨ (∃ b off cap, L ≠ [] ∧ v = .slice (some ⟨b, off, none⟩) L.length cap ∧ L.length ≤ maxLen ∧ b < w.heap.size ∧ ∀ i, i < L.length → RcAt w b (off + i * 4) (L.getD i default))
theorem RdR.below {w w' : World} {v : Value} {L : List RcV} (h : RdR w v L) (hb : Below w.heap.size w w') : RdR w' v L := by
  rcases h with h | ⟨b, off, cap, h1, h2, h3, h5, h6⟩
  · exact Or.inl h
  · exact Or.inr ⟨b, off, cap, h1, h2, h3, Nat.lt_of_lt_of_le h5 hb.size, fun i hi => (h6 i hi).below h5 hb⟩
theorem RdR.form {w : World} {v : Value} {L : List RcV} (h : RdR w v L) : ∃ a c, v = .slice a L.length c := by
  rcases h with ⟨a, c, rfl, rfl⟩ | ⟨b, off, c, _, rfl, _⟩
  · exact ⟨a, c, rfl⟩
  · exact ⟨_, c, rfl⟩
theorem RdR.at {w : World} {a : Option Addr} {n c : Nat} {L : List RcV} (h : RdR w (.slice a n c) L) {i : Nat} (hi : i < L.length) : ∃ b off, a = some ⟨b, off, none⟩ ∧ b < w.heap.size ∧ RcAt w b (off + i * 4) (L.getD i default) := by
  rcases h with ⟨_, _, h1, _⟩ | ⟨b, off, cp, h1, h2, h3, h5, h6⟩
  · rw [h1] at hi; simp at hi
  · simp at h2
    exact ⟨b, off, h2.1, h5, h6 i hi⟩
/-- a slice in blocks of the call's own, besides v's -/
def NearR (base lim : Nat) (v u : Value) : Prop := ∀ x n c, u = .slice (some x) n c → n = 0 ∨ (base ≤ x.block ∧ x.block < lim ∧ v.ownBlock ≠ some x.block)
theorem NearR.mono {base lim lim' : Nat} {v u : Value} (h : NearR base lim v u) (hl : lim ≤ lim') : NearR base lim' v u := fun x n c e => (h x n c e).imp id fun q => ⟨q.1, by omega, q.2.2⟩
theorem RdI.groR {w w' : World} {base lim : Nat} {v v' x : Value} {zs : List Int} (h : RdI w x zs) (g : Gro w v w' v') (hn : NearR base lim v x) : RdI w' x zs := by
  rcases h with h | ⟨b, off, cap, h1, rfl, h3, h5, h6⟩
  · exact Or.inl h
  · have hp : zs.length ≠ 0 := fun e => h1 (List.length_eq_zero_iff.1 e)
    have ne := ((hn _ _ _ rfl).resolve_left hp).2.2
    exact Or.inr ⟨b, off, cap, h1, rfl, h3, Nat.lt_of_lt_of_le h5 g.gr.size, fun i hi => (g.cell (p := ⟨b, off + i, none⟩) h5 ne).trans (h6 i hi)⟩
/-- stripes in new memory are near -/
theorem near_far {w : World} {base : Nat} {v u : Value} {zs : List Int} {lo : Nat} (hr : RdI w u zs) (hb : base ≤ lo) (hv : ∀ k, v.ownBlock = some k → k < lo) (hf : ∀ k, u.ownBlock = some k → lo ≤ k) : NearR base w.heap.size v u := fun x n c e => by
  rcases hr with ⟨ao, cap, h1, h2⟩ | ⟨b, off, cap, h1, h2, h3, h5, _⟩
  · rw [h2] at e; simp at e; exact Or.inl e.2.1.symm
  · rw [h2] at e
    simp at e
    obtain ⟨rfl, _⟩ := e
    have h6 := hf b (by rw [h2]; rfl)
    exact Or.inr ⟨by show base ≤ b; omega, h5, fun k => by have h7 : b < lo := hv b k; omega⟩
def fourR (c : RcV) : List Value := [.int .i64 c.r.kind, sv c.r.key, .int .i64 c.r.len, c.vs]
def cellsRc : List RcV → List Value
  | [] => []
  | c :: L => fourR c ++ cellsRc L
theorem cellsRc_length (L : List RcV) : (cellsRc L).length = L.length * 4 := by
  induction L with
  | nil => rfl
  | cons c L ih => show (fourR c ++ cellsRc L).length = _; rw [List.length_append, ih, List.length_cons]; show 4 + _ = _; omega
theorem cellsRc_append (L M : List RcV) : cellsRc (L ++ M) = cellsRc L ++ cellsRc M := by
  induction L with
  | nil => rfl
  | cons c L ih => show fourR c ++ cellsRc (L ++ M) = fourR c ++ cellsRc L ++ cellsRc M; rw [ih, List.append_assoc]
theorem cellsRc_at (L : List RcV) {i j : Nat} (hi : i < L.length) (hj : j < 4) : (cellsRc L)[i * 4 + j]? = (fourR (L.getD i default))[j]? := by
  induction L generalizing i with
  | nil => simp at hi
  | cons c L ih =>
    show (fourR c ++ cellsRc L)[i * 4 + j]? = _
    have h4 : (fourR c).length = 4 := rfl
    rcases i with _ | i
    · rw [List.getElem?_append_left (by rw [h4]; omega), Nat.zero_mul, Nat.zero_add]; rfl
    · rw [List.getElem?_append_right (by rw [h4]; omega), h4, show (i + 1) * 4 + j - 4 = i * 4 + j by omega, ih (by simpa using hi)]
      rfl
structure OwnRc (w : World) (base : Nat) (v : Value) (L : List RcV) : Prop where
  row : w.ownsRow base 38 4 v L.length (cellsRc L)
  ea : ∀ c ∈ L, RcV.In w c
  ap : ∀ c ∈ L, NearR base w.heap.size v c.vs
theorem OwnRc.nil (w : World) (base : Nat) : OwnRc w base (.slice none 0 0) [] := ⟨World.ownsRow_nil _ _ _ _, (fun c hc => by cases hc), (fun c hc => by cases hc)⟩
theorem OwnRc.rd {w : World} {base : Nat} {v : Value} {L : List RcV} (h : OwnRc w base v L) (hl : L.length ≤ 1000000) : RdR w v L := by
  by_cases h0 : L = []
  · subst h0
    obtain ⟨_, ⟨e, _⟩ | ⟨g, cap, cur, e, _⟩⟩ := h.row
    · exact Or.inl ⟨none, 0, rfl, e⟩
    · exact Or.inl ⟨_, cap, rfl, e⟩
  · have hpos : 0 < L.length := List.length_pos_iff.2 h0
    have hr := h.row
    obtain ⟨_, ⟨e, hn⟩ | ⟨g, cap, cur, rfl, hg, hh, hc, hm, hs, ht⟩⟩ := h.row
    · omega
    · refine Or.inr ⟨g, 0, cap, h0, rfl, by unfold maxLen; omega, (World.ownsRow.lt hr g rfl).2, fun i hi => ?_⟩
      have hmem : L.getD i default ∈ L := by rw [List.getD_eq_getElem?_getD, List.getElem?_eq_getElem hi]; exact List.getElem_mem hi
      have k := h.ea _ hmem
      have cc : ∀ j, j < 4 → w.cell? ⟨g, i * 4 + j, none⟩ = (fourR (L.getD i default))[j]? := fun j hj => (World.ownsRow.cellAt hr (i * 4 + j) (by omega)).trans (cellsRc_at L hi hj)
      refine ⟨?_, ?_, ?_, ?_, k⟩
      · rw [Nat.zero_add]; exact cc 0 (by omega)
      · rw [Nat.zero_add]; exact cc 1 (by omega)
      · rw [Nat.zero_add]; exact cc 2 (by omega)
      · rw [Nat.zero_add]; exact cc 3 (by omega)
theorem info_rec18 : (Tryz.prog.info? 38).map (fun i => (i.zero, i.size, i.bytes)) = some (some (.agg #[.int .i64 0, .string ⟨#[]⟩, .int .i64 0, .slice none 0 0]), 4, 56) := by kernel_rfl
theorem info_rec18' : ∃ i, Tryz.prog.info? 38 = some i ∧ i.zero = some (.agg #[.int .i64 0, .string ⟨#[]⟩, .int .i64 0, .slice none 0 0]) ∧ i.size = 4 ∧ i.bytes = 56 := by
  have h := info_rec18
  cases e : Tryz.prog.info? 38 with
  | none => rw [e] at h; cases h
  | some i =>
    rw [e] at h
    simp only [Option.map_some, Option.some.injEq, Prod.mk.injEq] at h
    exact ⟨i, rfl, h.1, h.2.1, h.2.2⟩
/-- 'append(l, o)', as a run -/
theorem run_append_rc {w W : World} {base b : Nat} {v : Value} {L : List RcV} {c : RcV} (ty : TypeId) (h : OwnRc w base v L) (hc : RcV.In w c) (ha : NearR base w.heap.size v c.vs) (hv1 : c.vs.oneCell' = true) (hW : W = w.alloc (.cells #[.int .i64 c.r.kind, sv c.r.key, .int .i64 c.r.len, c.vs] 38)) (hb : b = w.heap.size) (hl : L.length ≤ 100000) (hbase : base ≤ w.heap.size) :
    ∃ v' w', (Builtin.append_ #[51, 51] ty #[v, .slice (some ⟨b, 0, none⟩) 1 1]).run Tryz.prog W = .ok v' w' ∧ OwnRc w' base v' (L ++ [c]) ∧ Gro w v w' v' := by
  subst hW hb
  obtain ⟨i, hi, hz, hs, hy⟩ := info_rec18'
  obtain ⟨v', w', hrun, h2, h3, _, h5⟩ := run_append_own_at (P := Tryz.prog) (w.alloc (.cells #[.int .i64 c.r.kind, sv c.r.key, .int .i64 c.r.len, c.vs] 38)) base 51 ty 38 i (.agg #[.int .i64 0, .string ⟨#[]⟩, .int .i64 0, .slice none 0 0]) 4 56 Tryz.underlying51 hi hz hs hy rfl (by decide) v L.length (cellsRc L) (World.ownsRow.alloc h.row _) ⟨w.heap.size, 0, none⟩ 1 1 (fourR c) rfl
    (by intro j y hj; rw [add_at, Nat.zero_add, World.cell?_alloc_new, ← hj]; unfold fourR; simp) (by
      intro y hy
      simp only [fourR, List.mem_cons, List.not_mem_nil, or_false] at hy
      rcases hy with rfl | rfl | rfl | rfl
      · rfl
      · rfl
      · rfl
      · exact hv1) (by unfold maxLen; omega) (by omega) (by simp; omega)
  have G : Gro w v w' v' := (Gro.bel v (belR w _)).trans (Gro.of h3 h5)
  refine ⟨v', w', hrun, ⟨?_, ?_, ?_⟩, G⟩
  · rw [List.length_append, cellsRc_append]
    have : cellsRc [c] = fourR c := by show fourR c ++ [] = _; rw [List.append_nil]
    rw [this]; exact h2
  · intro d hd
    rcases List.mem_append.1 hd with hd | hd
    · have k := h.ea d hd
      exact ⟨k.wk, k.wl, k.ky, k.rs.groR G (h.ap d hd), k.wi⟩
    · simp only [List.mem_singleton] at hd
      subst hd
      exact ⟨hc.wk, hc.wl, hc.ky, hc.rs.groR G ha, hc.wi⟩
  · have key : ∀ u, NearR base w.heap.size v u → NearR base w'.heap.size v' u := fun u hu x n c e => (hu x n c e).imp id fun q => ⟨q.1, Nat.lt_of_lt_of_le q.2.1 G.gr.size, G.ne q.2.1 q.2.2⟩
    intro d hd
    rcases List.mem_append.1 hd with hd | hd
    · exact key _ (h.ap d hd)
    · simp only [List.mem_singleton] at hd
      subst hd
      exact key _ ha
theorem wpList_append_rc {w W : World} {base b : Nat} {v : Value} {L : List RcV} {c : RcV} {ops : Array Oper} {rest : List Oper} {o : Oper} {a : Act} {Q : Exit → Act → World → Prop} (hgd : o.guard = none) (s x : Operand)
    (ho : o.op = .call { callee := .builtin .append, args := #[s, x], argTypes := #[51, 51] }) (hs : a.eval s = v) (hx : a.eval x = .slice (some ⟨b, 0, none⟩) 1 1)
    (h : OwnRc w base v L) (hc : RcV.In w c) (ha : NearR base w.heap.size v c.vs) (hv1 : c.vs.oneCell' = true) (hW : W = w.alloc (.cells #[.int .i64 c.r.kind, sv c.r.key, .int .i64 c.r.len, c.vs] 38)) (hb : b = w.heap.size) (hl : L.length ≤ 100000) (hbase : base ≤ w.heap.size)
    (k : ∀ v' w', OwnRc w' base v' (L ++ [c]) → Gro w v w' v' → wpList Tryz.prog ops Q rest (a.put o.dst v') w') : wpList Tryz.prog ops Q (o :: rest) a W := by
  refine wpList_plain hgd fun K hK => ?_
  obtain ⟨v', w', hrun, h2, h3⟩ := run_append_rc o.type h hc ha hv1 hW hb hl hbase
  unfold Oper.wp execOp
  simp only [ho, resolve, invoke, builtin, Sem.run_bind, Sem.run_pure, Result.andThen_ok, List.map_toArray, List.map_cons, List.map_nil, hs, hx, hrun]
  exact hK _ _ (k v' w' h2 h3)
theorem row_late18 {w w' : World} {base e s n : Nat} {v : Value} {xs : List Value} (h : w.ownsRow base e s v n xs) (t : Below w.heap.size w w') : w'.ownsRow base e s v n xs := by
  obtain ⟨h0, h | ⟨g2, cap, cur, hv, hgg, hh, r⟩⟩ := h
  · exact ⟨h0, Or.inl h⟩
  · have hlt : g2 < w.heap.size := (Array.getElem?_eq_some_iff.1 hh).1
    exact ⟨h0, Or.inr ⟨g2, cap, cur, hv, hgg, by rw [t.block g2 hlt]; exact hh, r⟩⟩
theorem OwnRc.weak {w : World} {base base' : Nat} {v : Value} {L : List RcV} (h : OwnRc w base v L) (hb : base' ≤ base) : OwnRc w base' v L := by
  refine ⟨?_, h.ea, fun c hc x n cc e => (h.ap c hc x n cc e).imp id fun q => ⟨Nat.le_trans hb q.1, q.2⟩⟩
  obtain ⟨h0, k | ⟨g, cap, cur, e, hg, r⟩⟩ := h.row
  · exact ⟨h0, Or.inl k⟩
  · exact ⟨h0, Or.inr ⟨g, cap, cur, e, Nat.le_trans hb hg, r⟩⟩
theorem OwnRc.later {w w' : World} {base : Nat} {v : Value} {L : List RcV} (h : OwnRc w base v L) (t : Below w.heap.size w w') : OwnRc w' base v L :=
  ⟨row_late18 h.row t, fun c hc => (h.ea c hc).below t, fun c hc => (h.ap c hc).mono t.size⟩
end Go.Proofs.YtclieefpnbdbjaaGreat.Gf

namespace Go.Proofs.YtclieefpnbdbjaaGreat.Gf
set_option linter.unusedVariables false
set_option linter.unusedSimpArgs false
theorem sv_zeroP {a : ArS} {g : GeoS} {ar ep : Int} {L : List ObS} (h : svX a g ar ep L = 0) : svP g ar ep L = 0 := by
  by_cases q : svP g ar ep L = 0
  · exact q
  · unfold svX at h
    rw [if_pos q] at h
    exact h
theorem sv_argP {a : ArS} {g : GeoS} {ar ep : Int} {L : List ObS} (hg : okG g) (h : ¬ svX a g ar ep L = 1) : svP g ar ep L = 0 := by
  by_cases q : svP g ar ep L = 0
  · exact q
  · exfalso
    have e1 : svX a g ar ep L = svP g ar ep L := by unfold svX; rw [if_pos q]
    have e2 : svP g ar ep L = 1 := by
      unfold svP at q ⊢
      rw [if_neg (fun k => k hg)] at q ⊢
      split at q
      · exact absurd rfl q
      · rw [if_neg (by assumption)]
    exact h (e1.trans e2)
theorem ap_zeroP {g : GeoS} {base count : Int} {r : RcS} (hg : okG g) (hb : 0 ≤ base ∧ base ≤ mo18) (hc : 0 ≤ count) (hr : OkR r) (ht : count < g.t) : apP g base count r = 0 := by
  unfold apP
  rw [if_neg (fun k => k hg), if_neg (fun k => k ⟨hb.1, hc, hb.2, hr⟩), if_neg (by omega)]
section
variable {g : GeoS} {ar ep : Int} {L : List ObS} {l : List RcS}
/-- the disks of the two laws: labelled, with a checkpoint -/
noncomputable def nwA18 (g : GeoS) (ar ep : Int) (L : List ObS) : ArS := svS (lbS (newA (nT g) (secG g).toNat) ((List.range (nT g)).map fun (i : Nat) => (i : Int))) g ar ep L
theorem laid_uni (hok : okG g) (hP : svP g ar ep L = 0) (q : Nat) : UniW (ldA (nwA18 g ar ep L) g ep l q).1 (nT g) (secG g).toNat (fulF ar ep L (kpL g l q)) noneI ∧ (ldA (nwA18 g ar ep L) g ep l q).2 = (kpL g l q).length ∧ 5 + g.t ≤ ((secG g).toNat : Int) ∧ 1 ≤ nT g := by
  have s := sec_in hok
  obtain ⟨_, m2, m3, m4, m5, _⟩ := sv_may hP
  have n1 := nT_pos hok
  have hs1 : 5 + g.t ≤ ((secG g).toNat : Int) := by
    obtain ⟨_, _, _, _, _, o6, _⟩ := hok
    omega
  have ht : 1 ≤ g.t := by
    obtain ⟨_, _, _, _, _, _, _, q, _⟩ := hok
    exact q
  obtain ⟨_, u⟩ := ld_save (n := nT g) (S := (secG g).toNat) n1 (by omega) hP
  obtain ⟨u1, u2⟩ := ld_at m2 m3 u n1 hok ⟨m4, m5⟩ hs1 (l := l) q
  exact ⟨u1, u2, hs1, n1⟩
theorem lasts_end {kp : Nat} {rep : Bool} (hok : okG g) (hk : kp < nT g) (hP : svP g ar ep L = 0) (q : Nat) {b : ArS} (hb : reAS (hlA kp rep (ldA (nwA18 g ar ep L) g ep l q).1 (nT g)) [] = b) :
    b.off = false ∧ (ldA (nwA18 g ar ep L) g ep l q).2 = (kpL g l q).length ∧ ltX b g (knL b) = 0 ∧ (ltA b g (knL b)).ar = ar ∧ (ltA b g (knL b)).ep = ep ∧ (ltA b g (knL b)).ob = L ∧ rlX b g (knL b) ep = 0 ∧ rlR b g (knL b) ep = kpL g l q := by
  obtain ⟨u1, u2, hs1, n1⟩ := laid_uni (l := l) hok hP q
  have ht : 1 ≤ g.t := by
    obtain ⟨_, _, _, _, _, _, _, q, _⟩ := hok
    exact q
  have sn := seen_hurt u1 (keep := kp) (rep := rep) hk (by omega) (ful_zero _ _ _ _)
  rw [hb] at sn
  obtain ⟨a1, a2, a3, a4, a5, a6⟩ := lasts_all sn hP hs1 (kp_ok g l q) (kp_le g l q).1
  exact ⟨sn.calm.1, u2, a1, a2, a3, a4, a5, a6⟩
theorem cuts_end_s {ar2 ep2 : Int} {L2 : List ObS} {wr : Int} (hok : okG g) (hP : svP g ar ep L = 0) (har : ar2 = 1 - ar) (hlt : ep < ep2) (q : Nat) {aL a2 b : ArS} {K : List (List Int)} (haL : (ldA (nwA18 g ar ep L) g ep l q).1 = aL) (hne : ¬ svX (caA aL wr) g ar2 ep2 L2 = 1) (ha2 : svS (caA aL wr) g ar2 ep2 L2 = a2) (hb : reAS a2 K = b) :
    b.off = false ∧ ltX b g (knL b) = 0 ∧ (((ltA b g (knL b)).ep = ep ∧ (ltA b g (knL b)).ob = L) ∨ ((ltA b g (knL b)).ep = ep2 ∧ (ltA b g (knL b)).ob = L2)) := by
  obtain ⟨u1, u2, hs1, n1⟩ := laid_uni (l := l) hok hP q
  rw [haL] at u1
  subst har
  have ht : 1 ≤ g.t := by
    obtain ⟨_, _, _, _, _, _, _, q, _⟩ := hok
    exact q
  obtain ⟨_, m2, m3, _⟩ := sv_may hP
  have hP2 := sv_argP hok hne
  have mx : MixA a2 (nT g) (secG g).toNat (fulF ar ep L (kpL g l q)) (nwS (1 - ar) ep2 L2) := by
    rw [← ha2]
    exact mix_sv (mix_ca (mix_uni u1) wr) hP2 (nwS_1 _ _ _) (nwS_2 _ _ _)
  have sn := seen_mix mx n1 K (by omega) (ful_zero _ _ _ _) (nwS_no _ _ _ (by omega) (by omega))
  rw [hb] at sn
  obtain ⟨x1, x2⟩ := cuts_save sn hP hP2 hlt (by omega)
  exact ⟨sn.calm.1, x1, x2⟩
theorem cuts_end_a {r : RcS} {wr : Int} (hok : okG g) (hP : svP g ar ep L = 0) (hr : OkR r) (q : Nat) {aL a2 b : ArS} {cn : Nat} {K : List (List Int)} (haL : (ldA (nwA18 g ar ep L) g ep l q).1 = aL) (hcn : (kpL g l q).length = cn) (hct : (cn : Int) < g.t) (ha2 : apS (caA aL wr) g ep (cn : Int) r = a2) (hb : reAS a2 K = b) :
    b.off = false ∧ ltX b g (knL b) = 0 ∧ (ltA b g (knL b)).ep = ep ∧ (ltA b g (knL b)).ob = L ∧ rlX b g (knL b) ep = 0 ∧ (rlR b g (knL b) ep = kpL g l q ∨ rlR b g (knL b) ep = kpL g l q ++ [r]) := by
  obtain ⟨u1, u2, hs1, n1⟩ := laid_uni (l := l) hok hP q
  rw [haL] at u1
  subst hcn
  have ht : 1 ≤ g.t := by
    obtain ⟨_, _, _, _, _, _, _, q, _⟩ := hok
    exact q
  obtain ⟨_, m2, m3, m4, m5, _⟩ := sv_may hP
  have mx : MixA a2 (nT g) (secG g).toNat (fulF ar ep L (kpL g l q)) (nwR ep (kpL g l q).length r) := by
    rw [← ha2]
    exact mix_ap (mix_ca (mix_uni u1) wr) (ap_zeroP hok ⟨m4, m5⟩ (by omega) hr hct) (nwR_at _ _ _)
  have sn := seen_mix mx n1 K (by omega) (ful_zero _ _ _ _) (nwR_no _ _ _ (by omega))
  rw [hb] at sn
  obtain ⟨a1, a2, a3, a4, a5⟩ := cuts_app sn hP hs1 (kp_ok g l q) hr (by omega)
  exact ⟨sn.calm.1, a1, a2, a3, a4, a5⟩
end
/-- objects' stripes are few where the lists are the same -/
theorem oL_st {L M : List ObV} (h : oL L = oL M) (hM : ∀ i, i < M.length → (M.getD i default).o.st.length ≤ 20) : L.length = M.length ∧ ∀ i, i < L.length → (L.getD i default).o.st.length ≤ 1000000 := by
  have hl : L.length = M.length := by have := congrArg List.length h; rwa [oL_length, oL_length] at this
  refine ⟨hl, fun i hi => ?_⟩
  rw [← oL_getD, h, oL_getD]
  exact Nat.le_trans (hM i (by omega)) (by decide)
theorem rL_st {L : List RcV} {R : List RcS} (h : L.map (·.r) = R) (hR : ∀ x ∈ R, OkR x) : ∀ i, i < L.length → (L.getD i default).r.st.length ≤ 1000000 := fun i hi => by
  have m : (L.getD i default).r ∈ R := by
    rw [← h, show L.getD i default = L[i] by simp [List.getD, hi]]
    exact List.mem_map.2 ⟨L[i], List.getElem_mem hi, rfl⟩
  have := (hR _ m).2.2.2.2.2.1
  omega
end Go.Proofs.YtclieefpnbdbjaaGreat.Gf

namespace Go.Proofs.YtclieefpnbdbjaaGreat.Gf
set_option linter.unusedVariables false
set_option linter.unusedSimpArgs false
open Go.RowKit
open Go.ChangeShapes
theorem RdR.lenEq {w : World} {a : Option Addr} {len cap : Nat} {L : List RcV} (h : RdR w (.slice a len cap) L) : len = L.length := by
  obtain ⟨_, _, e⟩ := h.form
  simp at e
  exact e.2.1
section
variable {H : Type} {enc : TypeId × Value → H} {P : Program} {w : World} {base : Nat} {held : Bool}
/-- a record within a struct -/
theorem open_rcell {t si : TypeId} {f0 f1 f2 f3 : Field} {fuel : Nat} {cs : List Value} {x : DataW H × List MemPlace} (he : P.underlying t = some (.struct #[f0, f1, f2, f3])) (ce : P.cellsOf t = 4)
    (o0 : f0.offset = 0) (o1 : f1.offset = 1) (o2 : f2.offset = 2) (o3 : f3.offset = 3)
    (t0 : P.underlying f0.type = some (.int .i64)) (t1 : P.underlying f1.type = some .string) (t2 : P.underlying f2.type = some (.int .i64)) (t3 : P.underlying f3.type = some (.slice si)) (ti : P.underlying si = some (.int .i64)) (ci : P.cellsOf si = 1)
    (n0 : P.cellsOf f0.type = 1) (n1 : P.cellsOf f1.type = 1) (n2 : P.cellsOf f2.type = 1) (n3 : P.cellsOf f3.type = 1)
    (hf : DataW.trod enc P w base (fun _ => true) held fuel t cs = some x) : ∃ c : RcV, cs = [.int .i64 c.r.kind, sv c.r.key, .int .i64 c.r.len, c.vs] ∧ c.In w := by
  obtain ⟨xs, n', _, _, hlen, hxl, hfd⟩ := DataW.trod_struct he hf
  rw [ce] at hlen
  obtain ⟨v0, v1, v2, v3, rfl⟩ := four16 hlen
  have hxl' : xs.length = 4 := hxl
  have g : ∀ k, k < 4 → ∃ y, xs[k]? = some y := fun k hk => ⟨xs[k], List.getElem?_eq_getElem (by omega)⟩
  obtain ⟨y0, e0⟩ := g 0 (by omega)
  obtain ⟨y1, e1⟩ := g 1 (by omega)
  obtain ⟨y2, e2⟩ := g 2 (by omega)
  obtain ⟨y3, e3⟩ := g 3 (by omega)
  have q0 := hfd 0 f0 rfl
  have q1 := hfd 1 f1 rfl
  have q2 := hfd 2 f2 rfl
  have q3 := hfd 3 f3 rfl
  rw [o0, n0, e0] at q0
  rw [o1, n1, e1] at q1
  rw [o2, n2, e2] at q2
  rw [o3, n3, e3] at q3
  obtain ⟨z0, r0, _, w0⟩ := DataW.trod_int t0 q0
  obtain ⟨s, r1, _, ls⟩ := DataW.trod_string t1 q1
  obtain ⟨z2, r2, _, w2⟩ := DataW.trod_int t2 q2
  simp at r0 r1 r2
  subst r0 r1 r2
  obtain ⟨pk, hk, hw⟩ := open_ints16 t3 ti ci q3
  exact ⟨⟨⟨z0, s.data.toList, z2, pk⟩, v3⟩, rfl, w0, w2, by simpa using ls, hk, hw⟩
/-- an argument that is a checkpoint -/
theorem open_saved {r : Reach} {b0 : Nat} {t te si : TypeId} {e0 e1 e2 f0 f1 f2 f3 : Field} {v : Value} {d : DataW H} {p : List MemPlace} (hs : P.underlying t = some (.struct #[e0, e1, e2])) (hone : Go.Deep.oneCellFields P #[e0, e1, e2] = true) (hC : P.cellsOf t = 3)
    (u0 : P.underlying e0.type = some (.int .i64)) (u1 : P.underlying e1.type = some (.int .i64)) (u2 : P.underlying e2.type = some (.slice te))
    (hse : P.underlying te = some (.struct #[f0, f1, f2, f3])) (cte : P.cellsOf te = 4)
    (o0 : f0.offset = 0) (o1 : f1.offset = 1) (o2 : f2.offset = 2) (o3 : f3.offset = 3)
    (t0 : P.underlying f0.type = some .string) (t1 : P.underlying f1.type = some (.int .i64)) (t2 : P.underlying f2.type = some (.int .i64)) (t3 : P.underlying f3.type = some (.slice si)) (ti : P.underlying si = some (.int .i64)) (ci : P.cellsOf si = 1)
    (n0 : P.cellsOf f0.type = 1) (n1 : P.cellsOf f1.type = 1) (n2 : P.cellsOf f2.type = 1) (n3 : P.cellsOf f3.type = 1)
    (hv : Value.okWide P w r b0 t v) (h : DataW.Trod enc P w base (fun _ => true) held t v d p) : ∃ (ar ep : Int) (u : Value) (L : List ObV), v = .agg #[.int .i64 ar, .int .i64 ep, u] ∧ RdO w u L ∧ (Lit.int .i64 ar).wf = true ∧ (Lit.int .i64 ep).wf = true := by
  obtain ⟨v0, v1, v2, y0, y1, y2, n, rfl, _, _, h0, h1, h2⟩ := Go.Joins.open_agg3 hs hone hC hv h
  obtain ⟨z0, r0, _, w0⟩ := DataW.trod_int u0 h0
  obtain ⟨z1, r1, _, w1⟩ := DataW.trod_int u1 h1
  simp at r0 r1
  subst r0 r1
  obtain ⟨a9, l9, c9, L9, hcs, _, hR⟩ := open_objs u2 hse cte o0 o1 o2 o3 t0 t1 t2 t3 ti ci n0 n1 n2 n3 h2
  simp at hcs
  subst hcs
  exact ⟨z0, z1, _, L9, rfl, hR, w0, w1⟩
/-- an argument that is a slice of records -/
theorem open_recs {t e si : TypeId} {f0 f1 f2 f3 : Field} {fuel : Nat} {cs : List Value} {x : DataW H × List MemPlace} (ht : P.underlying t = some (.slice e)) (he : P.underlying e = some (.struct #[f0, f1, f2, f3])) (ce : P.cellsOf e = 4)
    (o0 : f0.offset = 0) (o1 : f1.offset = 1) (o2 : f2.offset = 2) (o3 : f3.offset = 3)
    (t0 : P.underlying f0.type = some (.int .i64)) (t1 : P.underlying f1.type = some .string) (t2 : P.underlying f2.type = some (.int .i64)) (t3 : P.underlying f3.type = some (.slice si)) (ti : P.underlying si = some (.int .i64)) (ci : P.cellsOf si = 1)
    (n0 : P.cellsOf f0.type = 1) (n1 : P.cellsOf f1.type = 1) (n2 : P.cellsOf f2.type = 1) (n3 : P.cellsOf f3.type = 1)
    (h : DataW.trod enc P w base (fun _ => true) held fuel t cs = some x) : ∃ a len cap L, cs = [.slice a len cap] ∧ len = L.length ∧ RdR w (.slice a len cap) L := by
  rcases Go.Deep.open_slice ht h with ⟨rfl, _⟩ | ⟨a, len, cap, m, n, D, Pl, rfl, hb, hl, hm, hmm, rfl, hx⟩
  · exact ⟨none, 0, 0, [], rfl, rfl, Or.inl ⟨none, 0, rfl, rfl⟩⟩
  simp only [if_true] at hmm
  by_cases hl0 : len = 0
  · subst hl0
    exact ⟨some a, 0, cap, [], rfl, rfl, Or.inl ⟨_, _, rfl, rfl⟩⟩
  obtain ⟨bb, off, spot⟩ := a
  have hspot : spot = none := by
    obtain ⟨cs', h1, _⟩ := hx 0 (by omega)
    rw [ce] at h1
    have hc := World.cells?_some h1
    have h2 := hc.2.2 0 (by omega)
    obtain ⟨v, hv⟩ : ∃ v, cs'[0]? = some v := ⟨cs'[0]'(by omega), List.getElem?_eq_getElem (by omega)⟩
    rw [hv] at h2
    have := World.cell?_spot h2
    simpa [Addr.add] using this
  subst hspot
  have each : ∀ i, i < len → ∃ c : RcV, RcAt w bb (off + i * 4) c := by
    intro i hi
    obtain ⟨cs', h1, h2⟩ := hx i (by omega)
    rw [ce] at h1
    obtain ⟨c, rfl, hin⟩ := open_rcell he ce o0 o1 o2 o3 t0 t1 t2 t3 ti ci n0 n1 n2 n3 h2
    obtain ⟨hbase, _, hc⟩ := World.cells?_some h1
    have kk : ∀ k, k < 4 → w.cell? ⟨bb, off + i * 4 + k, none⟩ = [Value.int .i64 c.r.kind, sv c.r.key, .int .i64 c.r.len, c.vs][k]? := by
      intro k hk
      have := hc k hk
      rw [Go.Deep.add_add, add_at, ← Nat.add_assoc] at this
      exact this
    exact ⟨c, kk 0 (by omega), kk 1 (by omega), kk 2 (by omega), kk 3 (by omega), hin⟩
  obtain ⟨F, hF⟩ := Go.Deep.choose_lt each
  have hlen : ((List.range len).map F).length = len := by simp
  refine ⟨some ⟨bb, off, none⟩, len, cap, (List.range len).map F, rfl, hlen.symm, ?_⟩
  have hc0 := (hF 0 (by omega)).c0
  have hbw : bb < w.heap.size := by
    unfold World.cell? at hc0
    by_cases hb : bb < w.heap.size
    · exact hb
    · rw [Array.getElem?_eq_none (by show w.heap.size ≤ bb; omega)] at hc0; cases hc0
  refine Or.inr ⟨bb, off, cap, fun e => by rw [e] at hlen; simp at hlen; omega, by rw [hlen], by rw [hlen]; omega, hbw, fun i hi => ?_⟩
  rw [hlen] at hi
  have e1 : ((List.range len).map F).getD i default = F i := by simp [List.getD, hi]
  rw [e1]
  exact hF i hi
end
end Go.Proofs.YtclieefpnbdbjaaGreat.Gf

namespace Go.Proofs.YtclieefpnbdbjaaGreat.Gf
set_option linter.unusedVariables false
set_option linter.unusedSimpArgs false
theorem seen_uni {a : ArS} {n S : Nat} {F : Int → Option (List UInt8)} {K : List Bool} {k : Nat} (h : UniW a n S F noneI) (hk : k < n) (hK : hb K k = true) : Seen a K k S F noneI := by
  have rk : ∀ i : Nat, i < n → ∀ q, 0 ≤ q → q < (S : Int) → faX (diA a (i : Int)) q = 0 ∧ rdB (diA a (i : Int)) q = (F q).getD [] := fun i hi q q0 q1 => by
    rw [h.di i hi]
    have f : faX (⟨S, F, noneI, false⟩ : DkS) q = 0 := faX_ok (d := ⟨S, F, noneI, false⟩) rfl ⟨q0, q1⟩
    refine ⟨f, ?_⟩
    unfold rdB
    rw [if_pos f]
    rfl
  refine ⟨h.calm, by rw [h.len]; exact hk, hK, fun i hi q => ?_, fun q q0 q1 => ⟨(rk k hk q q0 q1).1, fun _ => (rk k hk q q0 q1).2⟩⟩
  rw [h.len] at hi
  by_cases q0 : 0 ≤ q ∧ q < (S : Int)
  · rw [(rk i hi q q0.1 q0.2).2]
    cases F q with
    | none => exact Or.inl rfl
    | some b => exact Or.inr (Or.inl rfl)
  · left
    rw [h.di i hi]
    unfold rdB
    rw [if_neg]
    intro k
    exact q0 (faX_zero k).2
theorem knows_uni {a : ArS} {n S : Nat} {F : Int → Option (List UInt8)} (h : UniW a n S F noneI) {k : Nat} (hk : k < n) (hS : 1 ≤ S) (hF : F 0 = some lbB) : hb (knL a) k = true ∧ (knL a).length = n ∧ knX a = 0 := by
  have ho := h.calm.1
  refine ⟨?_, ?_, ?_⟩
  · rw [kn_hb ho (by rw [h.len]; exact hk), kn_iff h.calm (by rw [h.len]; exact hk), h.di k hk]
    have f : faX (⟨S, F, noneI, false⟩ : DkS) 0 = 0 := faX_ok (d := ⟨S, F, noneI, false⟩) rfl ⟨by omega, by show (0 : Int) < (S : Int); omega⟩
    refine decide_eq_true ?_
    unfold rdB
    rw [if_pos f]
    show (F 0).getD [] = _
    rw [hF]; rfl
  · unfold knL
    rw [ho, if_neg (by simp), List.length_map, List.length_range, h.len]
  · unfold knX
    rw [ho]; rfl
/-- what 'awake' asks -/
def tyG : GeoS := ⟨1, 1, 1, 2, 2, 2⟩
def awR : RcS := ⟨1, [97], 0, []⟩
def aw1 : ArS := lbS (newA 2 9) [0, 1]
noncomputable def aw2 : ArS := svS aw1 tyG 0 0 []
noncomputable def aw3 : ArS := apS aw2 tyG 0 0 awR
theorem ty_ok : okG tyG := by decide
theorem ty_may : MayL [] := ⟨by decide, fun i hi => absurd hi (Nat.not_lt_zero i), by decide⟩
theorem ty_sv : svP tyG 0 0 [] = 0 := by
  unfold svP
  rw [if_neg (fun k => k ty_ok), if_pos (@decide_eq_true _ (Classical.propDecidable _) ⟨by decide, by decide, by decide, by decide, ty_may⟩)]
theorem aw_u1 : UniW aw1 2 9 (putB noneI 0 lbB) noneI := uni_label (n := 2) (S := 9) (by decide)
theorem aw_l : lbX (newA 2 9) [0, 1] = 0 := (lb_end (calm_new 2 9)).1
theorem aw_k : hb (knL aw1) 0 = true ∧ (knL aw1).length = 2 ∧ knX aw1 = 0 := knows_uni aw_u1 (by decide) (by decide) rfl
theorem aw_s : svX aw1 tyG 0 0 [] = 0 ∧ UniW aw2 2 9 (fulF 0 0 [] []) noneI := by
  obtain ⟨h1, h2⟩ := uni_save aw_u1 (by decide) ty_sv (by decide)
  rw [ful_label (by decide)] at h2
  exact ⟨h1, h2⟩
theorem aw_t : ltX aw2 tyG (knL aw1) = 0 ∧ (ltA aw2 tyG (knL aw1)).ep = 0 ∧ (ltA aw2 tyG (knL aw1)).ob = [] := by
  have sn := seen_uni aw_s.2 (by decide) aw_k.1
  obtain ⟨e1, e2, e3⟩ := seen_area sn ty_sv (by decide) rfl rfl
  have b := seen_bare (g := tyG) (ar := 1) sn ty_ok (by decide) (by decide) (by decide) rfl rfl rfl rfl
  obtain ⟨x1, x2⟩ := latest_old (ar := 0) ty_ok sn.calm.1 (Or.inl rfl) e3 b
  rw [x2]
  exact ⟨x1, e1, e2⟩
theorem aw_a : apX aw2 tyG 0 0 awR = 0 ∧ UniW aw3 2 9 (fulF 0 0 [] [awR]) noneI :=
  (uni_next (K := []) (by decide) (by decide) aw_s.2 (by decide) ty_ok (by decide) (by decide) awR).1 (by decide)
theorem aw_r : rlX aw3 tyG (knL aw1) 0 = 0 ∧ rlR aw3 tyG (knL aw1) 0 = [awR] := by
  have sn := seen_uni aw_a.2 (by decide) aw_k.1
  have ss := fun (i : Nat) (hi : i < tyG.t.toNat) => seen_slot (g := tyG) sn ty_ok (by decide) (by decide) (by decide) (by decide) (by decide) hi rfl
  exact replay_is ty_ok (by decide) sn.calm.1 (by decide) (fun i hi => (ss i (by have : i < 1 := hi; show i < 2; omega)).1 hi) (fun _ => (ss 1 (by decide)).2 (by decide))
theorem aw_f : apX aw3 tyG 0 2 awR = 180 := by
  have e : apP tyG 0 2 awR = 180 := by decide
  unfold apX
  rw [e]; rfl
end Go.Proofs.YtclieefpnbdbjaaGreat.Gf
