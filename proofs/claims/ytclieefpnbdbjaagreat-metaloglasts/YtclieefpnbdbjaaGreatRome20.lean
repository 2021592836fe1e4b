/- TEXTS JOINED: ReAgO, ReOw, ReEn, ReCA, ReConv, ReCB. -/
import Derived.Test.YtclieefpnbdbjaaGreatRome19
import Derived.Test.YtclieefpnbdbjaaGreatRome8
import Derived.Laws.IdiomStrings
import Derived.Laws.AppendOwn
import Derived.Test.YtclieefpnbdbjaaGreatRome4
namespace Go.Proofs.YtclieefpnbdbjaaGreat.Gf
set_option linter.unusedVariables false
set_option linter.unusedSimpArgs false
open Go.RowKit
def aggO (c : ObV) : Value := .agg #[sv c.o.key, .int .i64 c.o.len, .int .i64 c.o.ep, c.vs]
theorem RdO.at {w : World} {a : Option Addr} {n c : Nat} {L : List ObV} (h : RdO w (.slice a n c) L) {i : Nat} (hi : i < L.length) : ∃ b off, a = some ⟨b, off, none⟩ ∧ b < w.heap.size ∧ ObAt w b (off + i * 4) (L.getD i default) := by
  rcases h with ⟨_, _, e, _⟩ | ⟨b, off, cap, _, e, _, hb, hc⟩
  · subst e; simp at hi
  · simp at e
    obtain ⟨rfl, rfl, rfl⟩ := e
    exact ⟨b, off, rfl, hb, hc i hi⟩
end Go.Proofs.YtclieefpnbdbjaaGreat.Gf

namespace Go.Proofs.YtclieefpnbdbjaaGreat.Gf
set_option linter.unusedVariables false
set_option linter.unusedSimpArgs false
open Go.RowKit
theorem RdI.gro {w w' : World} {v v' x : Value} {zs : List Int} (h : RdI w x zs) (g : Gro w v w' v') (hne : ∀ k, x.ownBlock = some k → v.ownBlock ≠ some k) : RdI w' x zs := by
  rcases h with h | ⟨b, off, cap, h1, rfl, h3, h5, h6⟩
  · exact Or.inl h
  · exact Or.inr ⟨b, off, cap, h1, rfl, h3, Nat.lt_of_lt_of_le h5 g.gr.size, fun i hi => (g.cell (p := ⟨b, off + i, none⟩) h5 (hne b rfl)).trans (h6 i hi)⟩
theorem RdI.turn {w w' : World} {g : Nat} {x : Value} {zs : List Int} (h : RdI w x zs) (t : Turn g w w') (hne : ∀ k, x.ownBlock = some k → k ≠ g) : RdI w' x zs := by
  rcases h with h | ⟨b, off, cap, h1, rfl, h3, h5, h6⟩
  · exact Or.inl h
  · exact Or.inr ⟨b, off, cap, h1, rfl, h3, Nat.lt_of_lt_of_le h5 t.size, fun i hi => (t.cell (p := ⟨b, off + i, none⟩) h5 (hne b rfl)).trans (h6 i hi)⟩
/-- an object's limbs -/
structure ObOk (w : World) (c : ObV) : Prop where
  wl : (Lit.int .i64 c.o.len).wf = true
  we : (Lit.int .i64 c.o.ep).wf = true
  ky : c.o.key.length ≤ maxLen
  rs : RdI w c.vs c.o.st
  wi : ∀ z ∈ c.o.st, (Lit.int .i64 z).wf = true
def four (c : ObV) : List Value := [sv c.o.key, .int .i64 c.o.len, .int .i64 c.o.ep, c.vs]
def cellsO : List ObV → List Value
  | [] => []
  | c :: L => four c ++ cellsO L
theorem cellsO_append (L M : List ObV) : cellsO (L ++ M) = cellsO L ++ cellsO M := by
  induction L with
  | nil => rfl
  | cons c L ih => show four c ++ cellsO (L ++ M) = four c ++ cellsO L ++ cellsO M; rw [ih, List.append_assoc]
theorem cellsO_at (L : List ObV) {i j : Nat} (hi : i < L.length) (hj : j < 4) : (cellsO L)[i * 4 + j]? = (four (L.getD i default))[j]? := by
  induction L generalizing i with
  | nil => simp at hi
  | cons c L ih =>
    show (four c ++ cellsO L)[i * 4 + j]? = _
    have h4 : (four c).length = 4 := rfl
    rcases i with _ | i
    · rw [List.getElem?_append_left (by rw [h4]; omega), Nat.zero_mul, Nat.zero_add]; rfl
    · rw [List.getElem?_append_right (by rw [h4]; omega), h4, show (i + 1) * 4 + j - 4 = i * 4 + j by omega, ih (by simpa using hi)]
      rfl
structure OwnO (w : World) (base : Nat) (v : Value) (L : List ObV) : Prop where
  row : w.ownsRow base 92 4 v L.length (cellsO L)
  ea : ∀ c ∈ L, ObOk w c
  ap : ∀ c ∈ L, ∀ k, c.vs.ownBlock = some k → base ≤ k ∧ k < w.heap.size ∧ v.ownBlock ≠ some k
theorem OwnO.nil (w : World) (base : Nat) : OwnO w base (.slice none 0 0) [] := ⟨World.ownsRow_nil _ _ _ _, (fun c hc => by cases hc), (fun c hc => by cases hc)⟩
theorem OwnO.rd {w : World} {base : Nat} {v : Value} {L : List ObV} (h : OwnO w base v L) (hl : L.length ≤ 1000000) : RdO w v L := by
  by_cases h0 : L = []
  · subst h0
    obtain ⟨_, ⟨e, _⟩ | ⟨g, cap, cur, e, _⟩⟩ := h.row
    · exact Or.inl ⟨none, 0, rfl, e⟩
    · exact Or.inl ⟨_, cap, rfl, e⟩
  · have hpos : 0 < L.length := List.length_pos_iff.2 h0
    have hr := h.row
    obtain ⟨_, ⟨e, hn⟩ | ⟨g, cap, cur, rfl, hg, hh, hc, hm, hs, ht⟩⟩ := h.row
    · omega
    · refine Or.inr ⟨g, 0, cap, h0, rfl, by unfold maxLen; omega, (World.ownsRow.lt hr g rfl).2, fun i hi => ?_⟩
      have hmem : L.getD i default ∈ L := by rw [List.getD_eq_getElem?_getD, List.getElem?_eq_getElem hi]; exact List.getElem_mem hi
      have k := h.ea _ hmem
      have cc : ∀ j, j < 4 → w.cell? ⟨g, i * 4 + j, none⟩ = (four (L.getD i default))[j]? := fun j hj => (World.ownsRow.cellAt hr (i * 4 + j) (by omega)).trans (cellsO_at L hi hj)
      refine ⟨?_, ?_, ?_, ?_, k.wl, k.we, k.ky, k.rs, k.wi⟩
      · rw [Nat.zero_add]; exact cc 0 (by omega)
      · rw [Nat.zero_add]; exact cc 1 (by omega)
      · rw [Nat.zero_add]; exact cc 2 (by omega)
      · rw [Nat.zero_add]; exact cc 3 (by omega)
theorem row_turn {w w' : World} {g base e s n : Nat} {v : Value} {xs : List Value} (h : w.ownsRow base e s v n xs) (t : Turn g w w') (hg : g < base) : w'.ownsRow base e s v n xs := by
  obtain ⟨h0, h | ⟨g2, cap, cur, hv, hgg, hh, r⟩⟩ := h
  · exact ⟨h0, Or.inl h⟩
  · have hlt : g2 < w.heap.size := (Array.getElem?_eq_some_iff.1 hh).1
    exact ⟨h0, Or.inr ⟨g2, cap, cur, hv, hgg, by rw [t.block g2 hlt (by omega)]; exact hh, r⟩⟩
theorem OwnO.turn {w w' : World} {g base : Nat} {v : Value} {L : List ObV} (h : OwnO w base v L) (t : Turn g w w') (hg : g < base) : OwnO w' base v L :=
  ⟨row_turn h.row t hg, fun c hc => ⟨(h.ea c hc).wl, (h.ea c hc).we, (h.ea c hc).ky, (h.ea c hc).rs.turn t (fun k hk => by have := (h.ap c hc k hk).1; omega), (h.ea c hc).wi⟩, fun c hc k hk => ⟨(h.ap c hc k hk).1, Nat.lt_of_lt_of_le (h.ap c hc k hk).2.1 t.size, (h.ap c hc k hk).2.2⟩⟩
theorem info_obj16 : (Tryz.prog.info? 92).map (fun i => (i.zero, i.size, i.bytes)) = some (some (.agg #[.string ⟨#[]⟩, .int .i64 0, .int .i64 0, .slice none 0 0]), 4, 56) := by kernel_rfl
theorem info_obj16' : ∃ i, Tryz.prog.info? 92 = some i ∧ i.zero = some (.agg #[.string ⟨#[]⟩, .int .i64 0, .int .i64 0, .slice none 0 0]) ∧ i.size = 4 ∧ i.bytes = 56 := by
  have h := info_obj16
  cases e : Tryz.prog.info? 92 with
  | none => rw [e] at h; cases h
  | some i =>
    rw [e] at h
    simp only [Option.map_some, Option.some.injEq, Prod.mk.injEq] at h
    exact ⟨i, rfl, h.1, h.2.1, h.2.2⟩
/-- 'append(l, o)', as a run -/
theorem run_append_o {w W : World} {base b : Nat} {v : Value} {L : List ObV} {c : ObV} (ty : TypeId) (h : OwnO w base v L) (hc : ObOk w c) (ha : ∀ k, c.vs.ownBlock = some k → base ≤ k ∧ k < w.heap.size ∧ v.ownBlock ≠ some k) (hv1 : c.vs.oneCell' = true) (hW : W = w.alloc (.cells #[sv c.o.key, .int .i64 c.o.len, .int .i64 c.o.ep, c.vs] 92)) (hb : b = w.heap.size) (hl : L.length ≤ 100000) (hbase : base ≤ w.heap.size) :
    ∃ v' w', (Builtin.append_ #[39, 39] ty #[v, .slice (some ⟨b, 0, none⟩) 1 1]).run Tryz.prog W = .ok v' w' ∧ OwnO w' base v' (L ++ [c]) ∧ Gro w v w' v' := by
  subst hW hb
  obtain ⟨i, hi, hz, hs, hy⟩ := info_obj16'
  obtain ⟨v', w', hrun, h2, h3, _, h5⟩ := run_append_own_at (P := Tryz.prog) (w.alloc (.cells #[sv c.o.key, .int .i64 c.o.len, .int .i64 c.o.ep, c.vs] 92)) base 39 ty 92 i (.agg #[.string ⟨#[]⟩, .int .i64 0, .int .i64 0, .slice none 0 0]) 4 56 Tryz.underlying39 hi hz hs hy rfl (by decide) v L.length (cellsO L) (World.ownsRow.alloc h.row _) ⟨w.heap.size, 0, none⟩ 1 1 (four c) rfl
    (by intro j y hj; rw [add_at, Nat.zero_add, World.cell?_alloc_new, ← hj]; unfold four; simp) (by
      intro y hy
      simp only [four, List.mem_cons, List.not_mem_nil, or_false] at hy
      rcases hy with rfl | rfl | rfl | rfl
      · rfl
      · rfl
      · rfl
      · exact hv1) (by unfold maxLen; omega) (by omega) (by simp; omega)
  have G : Gro w v w' v' := (Gro.bel v (belR w _)).trans (Gro.of h3 h5)
  refine ⟨v', w', hrun, ⟨?_, ?_, ?_⟩, G⟩
  · rw [List.length_append, cellsO_append]
    have : cellsO [c] = four c := by show four c ++ [] = _; rw [List.append_nil]
    rw [this]; exact h2
  · intro d hd
    rcases List.mem_append.1 hd with hd | hd
    · have k := h.ea d hd
      exact ⟨k.wl, k.we, k.ky, k.rs.gro G (fun q hq => (h.ap d hd q hq).2.2), k.wi⟩
    · simp only [List.mem_singleton] at hd
      subst hd
      exact ⟨hc.wl, hc.we, hc.ky, hc.rs.gro G (fun q hq => (ha q hq).2.2), hc.wi⟩
  · intro d hd q hq
    have key : base ≤ q ∧ q < w.heap.size ∧ v.ownBlock ≠ some q := by
      rcases List.mem_append.1 hd with hd | hd
      · exact h.ap d hd q hq
      · simp only [List.mem_singleton] at hd
        subst hd
        exact ha q hq
    exact ⟨key.1, Nat.lt_of_lt_of_le key.2.1 G.gr.size, G.ne key.2.1 key.2.2⟩
theorem wpList_append_o {w W : World} {base b : Nat} {v : Value} {L : List ObV} {c : ObV} {ops : Array Oper} {rest : List Oper} {o : Oper} {a : Act} {Q : Exit → Act → World → Prop} (hgd : o.guard = none) (s x : Operand)
    (ho : o.op = .call { callee := .builtin .append, args := #[s, x], argTypes := #[39, 39] }) (hs : a.eval s = v) (hx : a.eval x = .slice (some ⟨b, 0, none⟩) 1 1)
    (h : OwnO w base v L) (hc : ObOk w c) (ha : ∀ k, c.vs.ownBlock = some k → base ≤ k ∧ k < w.heap.size ∧ v.ownBlock ≠ some k) (hv1 : c.vs.oneCell' = true) (hW : W = w.alloc (.cells #[sv c.o.key, .int .i64 c.o.len, .int .i64 c.o.ep, c.vs] 92)) (hb : b = w.heap.size) (hl : L.length ≤ 100000) (hbase : base ≤ w.heap.size)
    (k : ∀ v' w', OwnO w' base v' (L ++ [c]) → Gro w v w' v' → wpList Tryz.prog ops Q rest (a.put o.dst v') w') : wpList Tryz.prog ops Q (o :: rest) a W := by
  refine wpList_plain hgd fun K hK => ?_
  obtain ⟨v', w', hrun, h2, h3⟩ := run_append_o o.type h hc ha hv1 hW hb hl hbase
  unfold Oper.wp execOp
  simp only [ho, resolve, invoke, builtin, Sem.run_bind, Sem.run_pure, Result.andThen_ok, List.map_toArray, List.map_cons, List.map_nil, hs, hx, hrun]
  exact hK _ _ (k v' w' h2 h3)
end Go.Proofs.YtclieefpnbdbjaaGreat.Gf

namespace Go.Proofs.YtclieefpnbdbjaaGreat.Gf
set_option linter.unusedVariables false
set_option linter.unusedSimpArgs false
open Go.RowKit
/-- .. in new memory -/
def MakesG16 (w : World) (X : Int) (p : List UInt8) (e : Ending) (w' : World) : Prop := ∃ v, e = .returned (.tuple #[v, .int .i64 X]) ∧ Rd w' v p ∧ FarV w v ∧ Below w.heap.size w w'
theorem nilG16 {w w' : World} {X : Int} (b : Below w.heap.size w w') {p : List UInt8} (h : p = []) : MakesG16 w X p (.returned (.tuple #[.slice none 0 0, .int .i64 X])) w' := by
  subst h
  exact ⟨_, rfl, Or.inl ⟨none, 0, rfl, rfl, Nat.zero_le _, fun _ => rfl⟩, FarV.nil _ _ _, b⟩
/-- a record and an error -/
def MakesD16 (w : World) (X : Int) (r : RcS) (e : Ending) (w' : World) : Prop := ∃ c : RcV, e = .returned (.tuple #[aggR c, .int .i64 X]) ∧ c.r = r ∧ c.In w' ∧ Below w.heap.size w w' ∧ ∀ k, c.vs.ownBlock = some k → w.heap.size ≤ k
def noR : RcS := ⟨0, [], 0, []⟩
theorem noR_in (w : World) : RcV.In w ⟨noR, .slice none 0 0⟩ := ⟨by decide, by decide, Nat.zero_le _, Or.inl ⟨none, 0, rfl, rfl⟩, fun z hz => by cases hz⟩
end Go.Proofs.YtclieefpnbdbjaaGreat.Gf

namespace Go.Proofs.YtclieefpnbdbjaaGreat.Gf
set_option linter.unusedVariables false
set_option linter.unusedSimpArgs false
open Go.RowKit
def OkN (n : Int) : Prop := 0 ≤ n ∧ n ≤ 2147483647
instance (n : Int) : Decidable (OkN n) := inferInstanceAs (Decidable (_ ∧ _))
def OkT16 (st : List Int) : Prop := st.length ≤ 256 ∧ ∀ s ∈ st, 0 ≤ s ∧ s < 256
instance (st : List Int) : Decidable (OkT16 st) := inferInstanceAs (Decidable (_ ∧ _))
set_option maxRecDepth 100000 in
theorem may16_any {n : Int} {w : World} {x : Bool} (hx : decide (OkN n) = x) : Calls Tryz.prog 75 #[.int .i64 n] w fun e w' => e = .returned (.bool x) ∧ w' = w := by
  by_cases h0 : 0 ≤ n
  · by_cases h1 : n ≤ 2147483647
    · obtain rfl : x = true := hx.symm.trans (decide_eq_true ⟨h0, h1⟩)
      clear hx
      have h0' : n ≥ 0 := h0
      go_enter Tryz.func75, Tryz.ntmps75
      go_wp2
      go_ret
      exact ⟨rfl, rfl⟩
    · obtain rfl : x = false := hx.symm.trans (decide_eq_false fun q => h1 q.2)
      clear hx
      have h0' : n ≥ 0 := h0
      go_enter Tryz.func75, Tryz.ntmps75
      go_wp2
      go_ret
      exact ⟨rfl, rfl⟩
  · obtain rfl : x = false := hx.symm.trans (decide_eq_false fun q => h0 q.1)
    clear hx
    have h0' : ¬ n ≥ 0 := h0
    go_enter Tryz.func75, Tryz.ntmps75
    go_wp2
    go_ret
    exact ⟨rfl, rfl⟩
set_option maxRecDepth 100000 in
set_option maxHeartbeats 1000000 in
theorem are16_any {st : List Int} {v : Value} {w : World} (h : RdI w v st) {x : Bool} (hx : decide (OkT16 st) = x) : Calls Tryz.prog 76 #[v] w fun e w' => e = .returned (.bool x) ∧ w' = w := by
  obtain ⟨a, cp, rfl⟩ := h.form
  have HX : Hid (decide (OkT16 st) = x) := hx
  clear hx
  by_cases h6 : (st.length : Int) > 256
  · obtain rfl : x = false := HX.out.symm.trans (decide_eq_false fun q => by have := q.1; omega)
    clear HX h
    go_enter Tryz.func76, Tryz.ntmps76
    go_wp2
    go_ret
    exact ⟨rfl, rfl⟩
  go_enter Tryz.func76, Tryz.ntmps76
  go_wp2
  go_loopw [10] (fun i wr => ∃ r : Nat, r ≤ st.length ∧ i = .int .i64 (r : Int) ∧ wr = w ∧ Hid (∀ j, j < r → 0 ≤ st.getD j 0 ∧ st.getD j 0 < 256)) (fun i _ => st.length - (intOf i).toNat)
  case atStart => exact ⟨0, Nat.zero_le _, rfl, rfl, fun j hj => absurd hj (Nat.not_lt_zero _)⟩
  case round =>
    obtain ⟨r, hr, rfl, rfl, hall⟩ := hrel
    by_cases hlt : r < st.length
    · have hlt' : (r : Int) < (st.length : Int) := by omega
      have hrl : (r : Int) ≤ (st.length : Int) := by omega
      obtain ⟨b, off, e, cz⟩ := h.at16 hlt
      subst e
      have N1 : Hid (st.getD r 0 < 0 ∨ st.getD r 0 ≥ 256 → decide (OkT16 st) = false) := fun q => decide_eq_false fun k => by
        have e : st.getD r 0 = st[r] := by rw [List.getD_eq_getElem?_getD, List.getElem?_eq_getElem hlt]; rfl
        have := k.2 st[r] (List.getElem_mem hlt)
        omega
      have hall2 : Hid (0 ≤ st.getD r 0 → st.getD r 0 < 256 → ∀ j, j < r + 1 → 0 ≤ st.getD j 0 ∧ st.getD j 0 < 256) := fun h0 h1 j hj => by
        by_cases e : j = r
        · rw [e]; exact ⟨h0, h1⟩
        · exact hall.out j (by omega)
      generalize st.getD r 0 = z at cz N1 hall2
      by_cases z0 : z < 0
      · obtain rfl : x = false := HX.out.symm.trans (N1.out (Or.inl z0))
        clear N1 hall2 hall HX
        go_wp2
        go_ret
        exact ⟨rfl, rfl⟩
      by_cases z1 : z ≥ 256
      · obtain rfl : x = false := HX.out.symm.trans (N1.out (Or.inr z1))
        clear N1 hall2 hall HX
        go_wp2
        go_ret
        exact ⟨rfl, rfl⟩
      · have H3 : Hid _ := hall2.out (by omega) (by omega)
        clear N1 hall2 hall
        go_wp2
        go_roundw
        case rel => exact ⟨r + 1, by omega, by go_num, by first | rfl | trivial, H3.out⟩
        case measure => simp [intOf]; omega
    · obtain rfl : r = st.length := by omega
      have hge : ¬ (st.length : Int) < (st.length : Int) := by omega
      obtain rfl : x = true := HX.out.symm.trans (decide_eq_true ⟨by omega, ch_all hall.out⟩)
      clear hall hlt HX
      go_wp2
      go_ret
      exact ⟨rfl, rfl⟩
theorem chR_parts {kd ln : Int} {ky : List UInt8} {st : List Int} (h1 : 1 ≤ ky.length) (h2 : ky.length ≤ 64) (h3 : OkN ln) (h4 : OkT16 st) : chR ⟨kd, ky, ln, st⟩ = if kd = 1 ∨ kd = 2 ∧ ln = 0 ∧ st.length = 0 then 0 else 1 := by
  unfold chR
  by_cases q : kd = 1 ∨ kd = 2 ∧ ln = 0 ∧ st.length = 0
  · rw [if_pos q, if_pos]
    refine ⟨by simp only; omega, h1, h2, h3.1, h3.2, h4.1, h4.2, fun e => ?_⟩
    simp only at e
    simp only
    omega
  · rw [if_neg q, if_neg]
    rintro ⟨k1, -, -, -, -, -, -, k8⟩
    simp only at k1 k8
    apply q
    rcases k1 with k1 | k1
    · exact Or.inl k1
    · exact Or.inr ⟨k1, k8 k1⟩
set_option maxRecDepth 100000 in
set_option maxHeartbeats 2000000 in
theorem chk16_any {w : World} {c : RcV} (h : c.In w) {x : Int} (hx : chR c.r = x) : Calls Tryz.prog 25 #[aggR c] w fun e w' => e = .returned (.int .i64 x) ∧ Below w.heap.size w w' := by
  obtain ⟨⟨kd, ky, ln, st⟩, vs⟩ := c
  have HR := h.rs
  obtain ⟨a, cp, e⟩ := HR.form
  simp only at e HR hx
  subst e
  clear h
  have HX : Hid (chR ⟨kd, ky, ln, st⟩ = x) := hx
  clear hx
  show Calls Tryz.prog 25 #[.agg #[.int .i64 kd, .string ⟨ky.toArray⟩, .int .i64 ln, .slice a st.length cp]] w _
  obtain ⟨w1, hw1⟩ : ∃ w1, w1 = w.alloc (.cells #[.int .i64 kd, .string ⟨ky.toArray⟩, .int .i64 ln, .slice a st.length cp] 38) := ⟨_, rfl⟩
  have B1 : Below w.heap.size w w1 := by rw [hw1]; exact belR _ _
  have c0 : w1.cell? ⟨w.heap.size, 0, none⟩ = some (.int .i64 kd) := by rw [hw1, World.cell?_alloc_new]; rfl
  have c1 : w1.cell? ⟨w.heap.size, 1, none⟩ = some (.string ⟨ky.toArray⟩) := by rw [hw1, World.cell?_alloc_new]; rfl
  have c2 : w1.cell? ⟨w.heap.size, 2, none⟩ = some (.int .i64 ln) := by rw [hw1, World.cell?_alloc_new]; rfl
  have c3 : w1.cell? ⟨w.heap.size, 3, none⟩ = some (.slice a st.length cp) := by rw [hw1, World.cell?_alloc_new]; rfl
  have HR1 := HR.below B1
  clear HR
  by_cases h1 : (ky.length : Int) ≥ 1
  rotate_left
  · obtain rfl : x = 1 := HX.out.symm.trans (if_neg fun q => by have := q.2.1; simp only at this; omega)
    clear HX HR1
    go_enter Tryz.func25, Tryz.ntmps25
    go_wp2_with fail
    rw [← hw1]
    clear hw1
    go_ret
    exact ⟨rfl, B1⟩
  by_cases h2 : (ky.length : Int) ≤ 64
  rotate_left
  · obtain rfl : x = 1 := HX.out.symm.trans (if_neg fun q => by have := q.2.2.1; simp only at this; omega)
    clear HX HR1
    go_enter Tryz.func25, Tryz.ntmps25
    go_wp2_with fail
    rw [← hw1]
    clear hw1
    go_ret
    exact ⟨rfl, B1⟩
  by_cases h3 : OkN ln
  rotate_left
  · obtain rfl : x = 1 := HX.out.symm.trans (if_neg fun q => h3 ⟨q.2.2.2.1, q.2.2.2.2.1⟩)
    clear HX HR1
    go_enter Tryz.func25, Tryz.ntmps25
    go_wp2_with fail
    rw [← hw1]
    clear hw1
    refine (may16_any (decide_eq_false h3)).mono ?_
    rintro _ _ ⟨rfl, rfl⟩
    go_wp2
    go_ret
    exact ⟨rfl, B1⟩
  by_cases h4 : OkT16 st
  rotate_left
  · obtain rfl : x = 1 := HX.out.symm.trans (if_neg fun q => h4 ⟨q.2.2.2.2.2.1, q.2.2.2.2.2.2.1⟩)
    clear HX
    have K4 := are16_any HR1 (decide_eq_false h4)
    go_enter Tryz.func25, Tryz.ntmps25
    go_wp2_with fail
    rw [← hw1]
    clear hw1
    refine (may16_any (decide_eq_true h3)).mono ?_
    rintro _ _ ⟨rfl, rfl⟩
    go_wp2_with fail
    refine K4.mono ?_
    rintro _ _ ⟨rfl, rfl⟩
    clear K4
    go_wp2
    go_ret
    exact ⟨rfl, B1⟩
  have HY : Hid _ := (chR_parts (kd := kd) (by omega) (by omega) h3 h4).symm.trans HX.out
  have K4 := are16_any HR1 (decide_eq_true h4)
  clear HX HR1
  go_enter Tryz.func25, Tryz.ntmps25
  go_wp2_with fail
  rw [← hw1]
  clear hw1
  refine (may16_any (decide_eq_true h3)).mono ?_
  rintro _ _ ⟨rfl, rfl⟩
  go_wp2_with fail
  refine K4.mono ?_
  rintro _ _ ⟨rfl, rfl⟩
  clear K4 h3 h4 h1 h2
  by_cases k1 : kd = 1
  · obtain rfl : x = 0 := HY.out.symm.trans (if_pos (Or.inl k1))
    clear HY
    subst k1
    go_wp2
    go_ret
    exact ⟨rfl, B1⟩
  by_cases k2 : kd = 2
  rotate_left
  · obtain rfl : x = 1 := HY.out.symm.trans (if_neg (by omega))
    clear HY
    go_wp2
    go_ret
    exact ⟨rfl, B1⟩
  by_cases k3 : ln = 0
  rotate_left
  · obtain rfl : x = 1 := HY.out.symm.trans (if_neg (by omega))
    clear HY
    subst k2
    go_wp2
    go_ret
    exact ⟨rfl, B1⟩
  by_cases k4 : (st.length : Int) = 0
  · obtain rfl : x = 0 := HY.out.symm.trans (if_pos (by omega))
    clear HY
    subst k2 k3
    go_wp2
    go_ret
    exact ⟨rfl, B1⟩
  · obtain rfl : x = 1 := HY.out.symm.trans (if_neg (by omega))
    clear HY
    subst k2 k3
    go_wp2
    go_ret
    exact ⟨rfl, B1⟩
end Go.Proofs.YtclieefpnbdbjaaGreat.Gf

namespace Go.Proofs.YtclieefpnbdbjaaGreat.Gf
set_option linter.unusedVariables false
set_option linter.unusedSimpArgs false
open Go.RowKit
theorem conv_key (W : World) (y : List UInt8) (h : y.length ≤ maxLen) : ∃ c U, (convert 9 42 (.string ⟨y.toArray⟩)).run Tryz.prog W = .ok (.slice (some ⟨W.heap.size, 0, none⟩) y.length c) U ∧ Rd U (.slice (some ⟨W.heap.size, 0, none⟩) y.length c) y ∧ Below W.heap.size W U ∧ W.heap.size < U.heap.size := by
  obtain ⟨c, hc⟩ : ∃ c, c = grownCap W y.length 0 5 := ⟨_, rfl⟩
  have r := run_bytes_of_string (P := Tryz.prog) W 9 42 5 ⟨y.toArray⟩ Tryz.underlying9 Tryz.underlying42 Tryz.underlying5
  have e : (⟨y.toArray⟩ : ByteArray).size = y.length := by show y.toArray.size = _; simp
  rw [e, ← hc] at r
  have c1 : y.length ≤ c := by rw [hc]; exact grownCap_ge _ _ _ _
  have c2 : c ≤ maxLen := by rw [hc]; exact grownCap_le_maxLen _ _ _ _ h
  have B : Below W.heap.size W (W.drew.alloc (.cells (bytesRow ⟨y.toArray⟩ c) 5 ((bytesRow ⟨y.toArray⟩ c).size, (bytesRow ⟨y.toArray⟩ c).size + 1))) := ((Below.refl _ W).drew).alloc (Nat.le_refl _) _
  have s : W.heap.size < (W.drew.alloc (.cells (bytesRow ⟨y.toArray⟩ c) 5 ((bytesRow ⟨y.toArray⟩ c).size, (bytesRow ⟨y.toArray⟩ c).size + 1))).heap.size := by
    show W.heap.size < (W.heap.push _).size
    rw [Array.size_push]; exact Nat.lt_succ_self _
  refine ⟨c, _, r, ?_, B, s⟩
  by_cases h0 : y = []
  · subst h0
    exact Or.inl ⟨_, c, rfl, rfl, c2, fun q => by cases q⟩
  · refine Or.inr ⟨W.heap.size, 0, c, h0, rfl, c1, c2, s, fun i hi => ?_⟩
    rw [Nat.zero_add]
    refine (World.cell?_alloc_mark W.drew _ _ _ i).trans ?_
    have hi' : i < y.toArray.size := by simpa using hi
    rw [bytesRow_at ⟨y.toArray⟩ c i hi']
    have : (⟨y.toArray⟩ : ByteArray).data[i] = co y i := by
      show y.toArray[i] = co y i
      unfold co
      simp [List.getD_eq_getElem?_getD, List.getElem?_eq_getElem hi]
    rw [this]
theorem conv_str16 {w : World} {v : Value} {p : List UInt8} (h : Rd w v p) : (convert 42 9 v).run Tryz.prog w = .ok (.string ⟨p.toArray⟩) w := by
  rcases h with ⟨ao, cap, rfl, rfl, _, _⟩ | ⟨b, off, cap, h0, rfl, h1, h2, h3, h4⟩
  · rw [run_convert_bytes_string w 42 9 5 ao 0 cap Tryz.underlying42 Tryz.underlying5 Tryz.underlying9]
    cases ao with
    | none => simp [Conv.bytesToString]; rfl
    | some a => 
      have hl := run_loadCells_list (P := Tryz.prog) w a [] (fun j v hj => by simp at hj)
      rw [run_bytesToString w a 0 cap [] hl]
      rfl
  · refine run_convert_bytes_back w 42 9 5 ⟨b, off, none⟩ cap p Tryz.underlying42 Tryz.underlying5 Tryz.underlying9 (fun j hj => ?_)
    rw [add_at, h4 j hj]
    have : co p j = p[j] := by
      unfold co
      simp [List.getD_eq_getElem?_getD, List.getElem?_eq_getElem hj]
    rw [this]
end Go.Proofs.YtclieefpnbdbjaaGreat.Gf

namespace Go.Proofs.YtclieefpnbdbjaaGreat.Gf
set_option linter.unusedVariables false
set_option linter.unusedSimpArgs false
open Go.RowKit
/-- a number's last bytes, the highest first -/
def nb : Nat → Nat → List UInt8
  | 0, _ => []
  | k + 1, n => UInt8.ofNat (n / 2 ^ (8 * k)) :: nb k n
theorem nb_one (n : Nat) : nb 1 n = [UInt8.ofNat n] := by
  show [UInt8.ofNat (n / 1)] = _
  rw [Nat.div_one]
theorem nb_two (n : Nat) : nb 2 n = tw n := by
  show [UInt8.ofNat (n / 256), UInt8.ofNat (n / 1)] = _
  rw [Nat.div_one]; rfl
theorem nb_four (n : Nat) : nb 4 n = fo n := by
  show [UInt8.ofNat (n / 16777216), UInt8.ofNat (n / 65536), UInt8.ofNat (n / 256), UInt8.ofNat (n / 1)] = _
  rw [Nat.div_one]; rfl
theorem cat1_16 {w : World} {base e : Nat} {v : Value} {p : List UInt8} {x : UInt8} (h : w.ownsRow base e 1 v (p.length + 1) (p.map vb ++ [vb x])) : OwnP w base e v (p ++ [x]) := by
  unfold OwnP
  rw [List.length_append, List.map_append]; exact h
theorem num_step {p : Prop} (h : p := by
  clear hx2 e1
  go_wp2_with (at_builtin; (refine wpList_append_rd2 _ rfl (.tmp 14) (.tmp 20) 42 rfl B 5 i0 Tryz.underlying42 hi hz0 hz1 hz2 _ _ _ rfl o1 _ [x] rfl R1 (by simp only [List.length_cons, List.length_nil]; omega) (Nat.le_trans hb C1.gr.size) ?_); intro v3 w3 h3 g3 e3; have o3 := cat1_16 h3; have C3 := C1.trans (Gro.of g3 e3); clear h3 g3 e3 o1 R1 C1)
  go_roundw
  case rel => exact ⟨_, _, by omega, by first | rfl | (go_num), o3, C3, hq2, by show _ ≤ _; rw [List.length_append]; simp only [List.length_cons, List.length_nil]; omega⟩
  case measure => simp [intOf]) : p := h
set_option maxRecDepth 100000 in
set_option maxHeartbeats 2000000 in
theorem num16_any {w : World} {B : Nat} {v : Value} {p : List UInt8} (h : OwnP w B 5 v p) (hb : B ≤ w.heap.size) {n k : Nat} (hk : k ≤ 4) (hl : p.length ≤ 900000) {u z : Int} (hu : u = (n : Int)) (hz : z = (k : Int)) :
    Calls Tryz.prog 120 #[v, .int .i64 u, .int .i64 z] w fun e w' => ∃ v', e = .returned v' ∧ OwnP w' B 5 v' (p ++ nb k n) ∧ Gro w v w' v' := by
  subst hu hz
  obtain ⟨a, c, rfl⟩ := owns_form h
  obtain ⟨i0, hi, hz0, hz1, hz2⟩ := info_parts info_u8
  have e1 : IntKind.i64.wrap ((k : Int) - 1) = (k : Int) - 1 := by rw [IntKind.wrap_i64]; omega
  go_enter Tryz.func120, Tryz.ntmps120
  go_wp2
  go_loopw [0, 7] (fun b i wr => ∃ (r : Nat) (q : List UInt8), r ≤ 4 ∧ i = .int .i64 ((r : Int) - 1) ∧ OwnP wr B 5 b q ∧ Hid (Gro w (.slice a p.length c) wr b) ∧ Hid (q ++ nb r n = p ++ nb k n) ∧ Hid (q.length + r ≤ 900004)) (fun _ i _ => ((intOf i) + 1).toNat)
  case atStart => exact ⟨k, p, hk, rfl, h, Gro.refl _ _, rfl, by show _ ≤ _; omega⟩
  case round =>
    obtain ⟨r, q, hr, rfl, hO, hB, hq, hql⟩ := hrel
    obtain ⟨oa, oc, rfl⟩ := owns_form hO
    rcases r with _ | s
    · have HF : Hid (OwnP wr B 5 (.slice oa q.length oc) (p ++ nb k n) ∧ Gro w (.slice a p.length c) wr (.slice oa q.length oc)) := by
        have e := hq.out
        rw [show nb 0 n = [] from rfl, List.append_nil] at e
        exact ⟨by rw [← e]; exact hO, hB.out⟩
      clear hO hq hB
      go_wp2
      go_ret
      exact ⟨_, rfl, HF.out.1, HF.out.2⟩
    · have hs : s = 0 ∨ s = 1 ∨ s = 2 ∨ s = 3 := by omega
      obtain ⟨x, hx⟩ : ∃ x, Hid (x = UInt8.ofNat (n / 2 ^ (8 * s))) := ⟨_, rfl⟩
      have hx2 : Hid (((n / 2 ^ (8 * s) : Nat) : Int) % 256 = ((x.toNat : Nat) : Int)) := by show _ = _; rw [hx.out, UInt8.toNat_ofNat']; omega
      have hq2 : Hid ((q ++ [x]) ++ nb s n = p ++ nb k n) := by
        rw [← hq.out, hx.out]
        show _ = _
        rw [List.append_assoc]; rfl
      have hl2 := hql.out
      have e2 : IntKind.i64.wrap ((s : Int) - 1) = (s : Int) - 1 := by rw [IntKind.wrap_i64]; omega
      have o1 : OwnP (wr.alloc (.cells #[.int .u8 ((x.toNat : Nat) : Int)] 5)) B 5 (.slice oa q.length oc) q := OwnP.alloc hO _
      have R1 : Rd (wr.alloc (.cells #[.int .u8 ((x.toNat : Nat) : Int)] 5)) (.slice (some ⟨wr.heap.size, 0, none⟩) 1 1) [x] := rd_lit [x] rfl rfl (by decide)
      have C1 : Gro w (.slice a p.length c) (wr.alloc (.cells #[.int .u8 ((x.toNat : Nat) : Int)] 5)) (.slice oa q.length oc) := hB.out.trans (Gro.bel _ (belR _ _))
      clear hO hB hq hx
      rcases hs with rfl | rfl | rfl | rfl
      · have qx : (n : Int) % 256 = ((x.toNat : Nat) : Int) := by have := hx2.out; simp at this; omega
        exact num_step
      · have qx : (n : Int) / 256 % 256 = ((x.toNat : Nat) : Int) := by have := hx2.out; simp at this; omega
        exact num_step
      · have qx : (n : Int) / 65536 % 256 = ((x.toNat : Nat) : Int) := by have := hx2.out; simp at this; omega
        exact num_step
      · have qx : (n : Int) / 16777216 % 256 = ((x.toNat : Nat) : Int) := by have := hx2.out; simp at this; omega
        exact num_step
end Go.Proofs.YtclieefpnbdbjaaGreat.Gf
