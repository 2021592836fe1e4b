/- TEXTS JOINED: WdOwn, OuS, ErOut, WdCA, KeMath, KeAns, KeLoc. -/
import Derived.Test.YtchfonofjbpmaaaTome4
import Derived.Test.YtchfonofjbpmaaaTome5
import Derived.Test.YtchfonofjbpmaaaTome3
import Derived.Test.YtchfonofjbpmaaaTome2
import Derived.WalkMore
import Derived.Test.YtchfonofjbpmaaaTome1
/-
  ROWS OF BOOLS AND OF PLACES OF THE CALL's OWN: append, store, copy. No program's function is named here.
-/

namespace Go.Proofs.Ytchfonofjbpmaaa.Gf
set_option linter.unusedVariables false
set_option linter.unusedSimpArgs false
open Go.RowKit

def OwnB (w : World) (base e : Nat) (v : Value) (bs : List Bool) : Prop := w.ownsRow base e 1 v bs.length (bs.map Value.bool)
theorem OwnB.form {w : World} {base e : Nat} {v : Value} {bs : List Bool} (h : OwnB w base e v bs) : ∃ a c, v = .slice a bs.length c := owns_form h
theorem OwnB.nil (w : World) (base e : Nat) : OwnB w base e (.slice none 0 0) [] := World.ownsRow_nil _ _ _ _
theorem OwnB.drewN {w : World} {base e : Nat} {v : Value} {bs : List Bool} (h : OwnB w base e v bs) (n : Nat) : OwnB (w.drewN n) base e v bs := h
theorem OwnB.somewhere {w : World} {base e : Nat} {v : Value} {bs : List Bool} (h : OwnB w base e v bs) (h0 : bs ≠ []) : ∃ g c, v = .slice (some ⟨g, 0, none⟩) bs.length c ∧ bs.length ≤ c ∧ c ≤ maxLen ∧ base ≤ g ∧ g < w.heap.size := by
  have h' := h
  obtain ⟨_, ⟨e, hn⟩ | ⟨g, cap, cur, e, hg, hh, hc, hm, hs, ht⟩⟩ := h
  · exact absurd (List.length_eq_zero_iff.1 hn) h0
  · subst e
    have := World.ownsRow.lt h' g rfl
    exact ⟨g, cap, rfl, hc, hm, this.1, this.2⟩
theorem OwnB.get {w : World} {base e g n c : Nat} {bs : List Bool} (h : OwnB w base e (.slice (some ⟨g, 0, none⟩) n c) bs) {i : Nat} (hi : i < bs.length) : w.cell? ⟨g, i, none⟩ = some (.bool (hb bs i)) := by
  obtain ⟨a, c', e⟩ := h.form
  simp at e
  obtain ⟨_, rfl, _⟩ := e
  rw [World.ownsRow.cellAt h i (by omega), List.getElem?_map, List.getElem?_eq_getElem hi]
  simp [hb, List.getD, hi]
theorem OwnB.free {w : World} {base e g n c : Nat} {bs : List Bool} (h : OwnB w base e (.slice (some ⟨g, 0, none⟩) n c) bs) (i : Nat) : w.frozen? ⟨g, i, none⟩ = false := by
  obtain ⟨a, c', e⟩ := h.form
  simp at e
  obtain ⟨_, rfl, _⟩ := e
  exact World.ownsRow.frozenAt h i
theorem OwnB.store {w : World} {base e g n c : Nat} {bs : List Bool} (h : OwnB w base e (.slice (some ⟨g, 0, none⟩) n c) bs) (i : Nat) (x : Bool) : OwnB (w.setCell ⟨g, i, none⟩ (.bool x)) base e (.slice (some ⟨g, 0, none⟩) n c) (bs.set i x) := by
  obtain ⟨a, c', e⟩ := h.form
  simp at e
  obtain ⟨_, rfl, _⟩ := e
  have := (World.ownsRow.stored h i (.bool x)).1
  unfold OwnB
  rw [List.length_set, List.map_set]
  exact this
theorem OwnB.rdB {w : World} {base e : Nat} {v : Value} {bs : List Bool} (h : OwnB w base e v bs) : RdB w v bs := by
  by_cases h0 : bs = []
  · subst h0
    obtain ⟨_, ⟨e, hn⟩ | ⟨g, cap, cur, e, hg, hh, hc, hm, hs, ht⟩⟩ := h
    · subst e; exact rdB_none
    · subst e
      exact ⟨_, cap, rfl, hc, hm, nofun, fun i hi => by simp at hi⟩
  · obtain ⟨g, c, rfl, h1, h2, h3, h4⟩ := h.somewhere h0
    exact ⟨_, c, rfl, h1, h2, nofun, fun i hi => ⟨g, 0, rfl, h4, by rw [Nat.zero_add]; exact h.get hi⟩⟩
/-- 'append(s, x)' on bools of the call's own, x laid as a list of one -/
theorem wpList_append_bool {P : Program} {wr : World} {ops : Array Oper} {rest : List Oper} {o : Oper} {a : Act} {Q : Exit → Act → World → Prop} (hgd : o.guard = none) (s xo : Operand) (t : TypeId)
    (ho : o.op = .call { callee := .builtin .append, args := #[s, xo], argTypes := #[t, t] })
    (base e : Nat) (i : TypeInfo) (ht : P.underlying t = some (.slice e)) (hi : P.info? e = some i) (hz : i.zero = some (.bool false)) (hsize : i.size = 1) (hby : i.bytes = 1)
    (v : Value) (bs : List Bool) (hs : a.eval s = v) (hO : OwnB wr base e v bs) (z : Bool) (et c : Nat) (hxo : a.eval xo = .slice (some ⟨wr.heap.size, 0, none⟩) 1 c) (hl : bs.length ≤ 100000) (hbase : base ≤ wr.heap.size)
    (h : ∀ v' w2, OwnB w2 base e v' (bs ++ [z]) → Below base wr w2 → wpList P ops Q rest (a.put o.dst v') w2) : wpList P ops Q (o :: rest) a (wr.alloc (.cells #[.bool z] et)) := by
  refine wpList_plain hgd fun K hK => ?_
  obtain ⟨v', w', hrun, h2, h3, _, h5⟩ := run_append_own_at (P := P) (wr.alloc (.cells #[.bool z] et)) base t o.type e i (.bool false) 1 1 ht hi hz hsize hby rfl (by decide) v bs.length (bs.map Value.bool) (World.ownsRow.alloc hO _) ⟨wr.heap.size, 0, none⟩ 1 c [.bool z] rfl (by intro j y hj; rw [add_at, Nat.zero_add]; rcases j with _ | j <;> simp at hj; subst hj; simp) (by intro y hy; simp at hy; rw [hy]; rfl) (by unfold maxLen; omega) (by omega) (by simp; omega)
  unfold Oper.wp execOp
  simp only [ho, resolve, invoke, builtin, Sem.run_bind, Sem.run_pure, Result.andThen_ok, List.map_toArray, List.map_cons, List.map_nil, hs, hxo, hrun]
  refine hK _ _ (h v' w' ?_ ?_)
  · unfold OwnB
    rw [List.length_append, List.map_append]
    exact h2
  · exact ((Below.refl base wr).alloc hbase _).grown h3 (by simp; omega) (fun q hq => (World.ownsRow.lt hO q hq).1)
/-! Places. -/
theorem OwnI.free {w : World} {base e g n c : Nat} {zs : List Nat} (h : OwnI w base e (.slice (some ⟨g, 0, none⟩) n c) zs) (i : Nat) : w.frozen? ⟨g, i, none⟩ = false := by
  obtain ⟨a, c', e⟩ := h.form
  simp at e
  obtain ⟨_, rfl, _⟩ := e
  exact World.ownsRow.frozenAt h i
theorem OwnI.store {w : World} {base e g n c : Nat} {zs : List Nat} (h : OwnI w base e (.slice (some ⟨g, 0, none⟩) n c) zs) (i x : Nat) : OwnI (w.setCell ⟨g, i, none⟩ (.int .i64 (x : Int))) base e (.slice (some ⟨g, 0, none⟩) n c) (zs.set i x) := by
  obtain ⟨a, c', e⟩ := h.form
  simp at e
  obtain ⟨_, rfl, _⟩ := e
  have := (World.ownsRow.stored h i (.int .i64 (x : Int))).1
  unfold OwnI
  rw [List.length_set, List.map_set]
  exact this
theorem OwnI.later {w w' : World} {base e : Nat} {v : Value} {zs : List Nat} (h : OwnI w base e v zs) (hb : Below w.heap.size w w') : OwnI w' base e v zs := owns_later h hb
theorem OwnB.later {w w' : World} {base e : Nat} {v : Value} {bs : List Bool} (h : OwnB w base e v bs) (hb : Below w.heap.size w w') : OwnB w' base e v bs := owns_later h hb
/-- a set of places as its function -/
theorem stL_getD {g : Nat → Nat} {t i : Nat} (hi : i < t) : (stL g t).getD i 0 = g i := by simp [stL, List.getD, hi]
theorem stL_self (zs : List Nat) : stL (fun i => zs.getD i 0) zs.length = zs := by
  refine List.ext_getElem (by rw [stL_length]) fun i h1 h2 => ?_
  simp [stL, List.getD, h2]
theorem stL_succ (g : Nat → Nat) (t : Nat) : stL g (t + 1) = stL g t ++ [g t] := by simp [stL, List.range_succ]
theorem stL_set {g g' : Nat → Nat} {t j x : Nat} (hj : j < t) (h : ∀ i, i < t → g' i = if i = j then x else g i) : (stL g t).set j x = stL g' t := by
  refine List.ext_getElem (by simp [stL]) fun i h1 h2 => ?_
  rw [stL_length] at h2
  rw [List.getElem_set]
  simp only [stL, List.getElem_map, List.getElem_range]
  rw [h i h2]
  by_cases e : j = i
  · rw [if_pos e, if_pos e.symm]
  · rw [if_neg e, if_neg fun q => e q.symm]

end Go.Proofs.Ytchfonofjbpmaaa.Gf

/-
  A ROW OF SLICES OF THE CALL's OWN WHOSE SLICES MAY LIE ANYWHERE. No program's function is named here.
-/

namespace Go.Proofs.Ytchfonofjbpmaaa.Gf
set_option linter.unusedVariables false
set_option linter.unusedSimpArgs false
open Go.RowKit

/-- the block G is the call's own; its slices read as L and lie elsewhere -/
structure OutS (w : World) (G : Nat) (L : List (List UInt8)) : Prop where
  lt : G < w.heap.size
  cell : ∀ i, i < L.length → ∃ x, w.cell? ⟨G, i, none⟩ = some x ∧ Rd w x (ro L i) ∧ Apart G x
  free : ∀ i, w.frozen? ⟨G, i, none⟩ = false
theorem Os.outS {w : World} {base T u G n C : Nat} {L : List (List UInt8)} (h : Os w base T u (.slice (some ⟨G, 0, none⟩) n C) L) : OutS w G L := by
  obtain ⟨vals, hv, hr⟩ := h
  have hl : vals.length = L.length := by have := hv.1; omega
  have hn : n = L.length := by
    obtain ⟨_, ⟨e, _⟩ | ⟨g, cap, cur, e, _⟩⟩ := hv <;> simp at e
    exact e.2.1
  subst hn
  refine ⟨(World.ownsRow.lt hv G rfl).2, fun i hi => ?_, fun i => World.ownsRow.frozenAt hv i⟩
  have hx : vals[i]? = some vals[i] := List.getElem?_eq_getElem (by omega)
  refine ⟨vals[i], by rw [World.ownsRow.cellAt hv i (by omega), hx], Rd.owned (hr.own i _ hx), ?_⟩
  intro a m c e
  have ho := hr.out i _ hx
  by_cases hm : m = 0
  · exact Or.inl hm
  · right
    have hown := hr.own i _ hx
    rw [e] at ho hown
    obtain ⟨_, ⟨e2, _⟩ | ⟨g, cap, cur, e2, _⟩⟩ := hown
    · simp at e2
    · simp at e2
      obtain ⟨rfl, _, _⟩ := e2
      rcases ho with e3 | e3
      · simp [Value.ownBlock] at e3
      · simpa [Value.ownBlock] using e3
theorem OutS.rs {w : World} {G C : Nat} {L : List (List UInt8)} (h : OutS w G L) (hc : L.length ≤ C) (hm : C ≤ maxLen) : Rs w (.slice (some ⟨G, 0, none⟩) L.length C) L :=
  ⟨_, C, rfl, hc, hm, nofun, fun i hi => by
    obtain ⟨x, h1, h2, _⟩ := h.cell i hi
    exact ⟨G, 0, x, rfl, h.lt, by rw [Nat.zero_add]; exact h1, h2⟩⟩
theorem OutS.put {w : World} {G i : Nat} {L : List (List UInt8)} {x : Value} {p : List UInt8} (h : OutS w G L) (hi : i < L.length) (hx : Rd w x p) (ha : Apart G x) : OutS (w.setCell ⟨G, i, none⟩ x) G (L.set i p) := by
  have O := (Only.refl G w).setCell i x
  refine ⟨by rw [O.size]; exact h.lt, fun j hj => ?_, fun j => by rw [World.frozen?_setCell]; exact h.free j⟩
  rw [List.length_set] at hj
  rw [ro_set hi]
  obtain ⟨y, k1, k2, k3⟩ := h.cell j hj
  by_cases e : j = i
  · subst e
    rw [if_pos rfl]
    exact ⟨x, World.cell?_setCell_same w ⟨G, j, none⟩ x k1, hx.only ha O, ha⟩
  · rw [if_neg e]
    exact ⟨y, by rw [World.cell?_setCell_other w ⟨G, i, none⟩ ⟨G, j, none⟩ x (by simp <;> omega)]; exact k1, k2.only k3 O, k3⟩
theorem Os.drw {w : World} {base T u : Nat} {v : Value} {L : List (List UInt8)} (h : Os w base T u v L) : Os w.drew base T u v L := by
  obtain ⟨vals, hv, hr⟩ := h
  exact ⟨vals, hv, ⟨fun i x hx => hr.own i x hx, hr.diff, hr.out⟩⟩
theorem Os.drwN {w : World} {base T u : Nat} {v : Value} {L : List (List UInt8)} (h : Os w base T u v L) (n : Nat) : Os (w.drewN n) base T u v L := by
  obtain ⟨vals, hv, hr⟩ := h
  exact ⟨vals, hv, ⟨fun i x hx => hr.own i x hx, hr.diff, hr.out⟩⟩

end Go.Proofs.Ytchfonofjbpmaaa.Gf

/-
  One shard of shards; bools of the call's own. No program's function is named here.
-/


namespace Go.Proofs.Ytchfonofjbpmaaa.Gf
set_option linter.unusedVariables false
set_option linter.unusedSimpArgs false
open Go.RowKit

/-- one shard -/
theorem Rs.one {w : World} {b off n c : Nat} {L : List (List UInt8)} (h : Rs w (.slice (some ⟨b, off, none⟩) n c) L) {i : Nat} (hi : i < L.length) : Rs w (.slice (some ⟨b, off + i, none⟩) 1 (c - i)) [ro L i] := by
  have h1 := h.rest (k := i) (by omega) (L.length - i) rfl
  have h2 := h1.first (k := 1) (by rw [List.length_drop]; omega)
  refine h2.as ?_
  refine ro_ext (by rw [List.length_take, List.length_drop]; simp; omega) fun j hj => ?_
  rw [List.length_take, List.length_drop] at hj
  have e : j = 0 := by omega
  subst e
  rw [ro_take (by omega), ro_drop, Nat.add_zero]
  rfl
/-- bools of the call's own: the first n of f -/
def BoolF (w : World) (base e g n : Nat) (f : Nat → Bool) : Prop := w.ownsRow base e 1 (.slice (some ⟨g, 0, none⟩) n n) n ((List.range n).map fun i => Value.bool (f i))
theorem BoolF.made {w : World} {base e g n : Nat} (h : w.ownsRow base e 1 (.slice (some ⟨g, 0, none⟩) n n) n (madeCells (Value.cells (.bool false)) (n * 1)).toList) : BoolF w base e g n (fun _ => false) := by
  unfold BoolF
  have e1 : (madeCells (Value.cells (.bool false)) (n * 1)).toList = List.replicate n (.bool false) := by
    rw [Nat.mul_one]; exact toList_madeCells_one _ _
  rw [e1] at h
  have e2 : (List.range n).map (fun _ => Value.bool false) = List.replicate n (.bool false) := by
    rw [List.map_const']; simp
  rw [e2]; exact h
theorem BoolF.cell {w : World} {base e g n : Nat} {f : Nat → Bool} (h : BoolF w base e g n f) {j : Nat} (hj : j < n) : w.cell? ⟨g, j, none⟩ = some (.bool (f j)) := by
  rw [World.ownsRow.cellAt h j (by omega), List.getElem?_map, List.getElem?_range hj]; rfl
theorem BoolF.free {w : World} {base e g n : Nat} {f : Nat → Bool} (h : BoolF w base e g n f) (j : Nat) : w.frozen? ⟨g, j, none⟩ = false := World.ownsRow.frozenAt h j
theorem BoolF.lt {w : World} {base e g n : Nat} {f : Nat → Bool} (h : BoolF w base e g n f) : base ≤ g ∧ g < w.heap.size := World.ownsRow.lt h g rfl
theorem BoolF.store {w : World} {base e g n : Nat} {f f' : Nat → Bool} (h : BoolF w base e g n f) {j : Nat} (hj : j < n) (x : Bool) (hf : ∀ t, t < n → f' t = if t = j then x else f t) : BoolF (w.setCell ⟨g, j, none⟩ (.bool x)) base e g n f' := by
  have e1 := (World.ownsRow.stored h j (.bool x)).1
  unfold BoolF
  have e2 : ((List.range n).map fun i => Value.bool (f i)).set j (.bool x) = (List.range n).map fun i => Value.bool (f' i) := by
    refine List.ext_getElem (by simp) fun t h1 h2 => ?_
    simp at h2
    rw [List.getElem_set]
    by_cases e : t = j
    · subst e; simp [hf t h2]
    · rw [if_neg fun h : j = t => e h.symm]; simp [hf t h2, e]
  rw [← e2]; exact e1
theorem BoolF.rdB {w : World} {base e g n : Nat} {f : Nat → Bool} (h : BoolF w base e g n f) (hn : n ≤ 1000000) : RdB w (.slice (some ⟨g, 0, none⟩) n n) ((List.range n).map f) := by
  have hl : ((List.range n).map f).length = n := by simp
  refine ⟨some ⟨g, 0, none⟩, n, by rw [hl], by rw [hl]; exact Nat.le_refl _, by unfold maxLen; omega, nofun, fun i hi => ?_⟩
  rw [hl] at hi
  refine ⟨g, 0, rfl, h.lt.2, ?_⟩
  rw [Nat.zero_add, h.cell hi]
  simp [hb, List.getD, hi]

end Go.Proofs.Ytchfonofjbpmaaa.Gf

/-
  THE PROGRAM's 'placesOf', 'pointsOf', 'opposites', 'mark' (package errdec) BY CONTRACT.
-/


namespace Go.Proofs.Ytchfonofjbpmaaa.Gf
set_option linter.unusedVariables false
set_option linter.unusedSimpArgs false
open Go.RowKit

theorem info_int10 : (Try.prog.info? 3).map (fun i => (i.zero, i.size, i.bytes)) = some (some (.int .i64 0), 1, 8) := by kernel_rfl
theorem info_bool10 : (Try.prog.info? 4).map (fun i => (i.zero, i.size, i.bytes)) = some (some (.bool false), 1, 1) := by kernel_rfl

set_option maxRecDepth 100000 in
set_option maxHeartbeats 2000000 in
theorem epl_any {va : Value} {h : List Bool} {w : World} (hH : RdB w va h) (hl : h.length ≤ 300) : Calls Try.prog 40 #[va] w fun e w' => ∃ v, e = .returned v ∧ OwnI w' w.heap.size 3 v (plc (hb h) h.length) ∧ Below w.heap.size w w' := by
  obtain ⟨i0, hi, hz0, hz1, hz2⟩ := info_parts info_int10
  obtain ⟨a, c, rfl⟩ := hH.form
  go_enter Try.func40, Try.ntmps40
  go_wp2
  go_loopw [3, 8] (fun o i wr => ∃ r : Nat, r ≤ h.length ∧ i = .int .i64 r ∧ OwnI wr w.heap.size 3 o (plc (hb h) r) ∧ Below w.heap.size w wr) (fun _ i _ => h.length - (intOf i).toNat)
  case atStart => exact ⟨0, by omega, rfl, OwnI.nil _ _ _, Below.refl _ _⟩
  case round =>
    obtain ⟨r, hr, rfl, hO, hB⟩ := hrel
    have hsz := hB.size
    have hn : Hid ((plc (hb h) r).length ≤ 300) := by show _ ≤ _; rw [plc_length]; have := cnt_le (hb h) r; omega
    by_cases hlt : r < h.length
    · obtain ⟨b, off, rfl, _, c1⟩ := (hH.below hB).at hlt
      have hlt' : (r : Int) < (h.length : Int) := by omega
      obtain ⟨av, cv, rfl⟩ := hO.form
      have E := plc_succ (hb h) r
      cases e : hb h r with
      | false =>
        rw [e] at c1 E
        have E' : Hid (plc (hb h) (r + 1) = plc (hb h) r) := by show _ = _; rw [E]; simp
        clear hH e E
        go_wp2
        go_roundw
        case rel => exact ⟨r + 1, by omega, by go_num, by rw [E'.out]; exact hO, hB⟩
        case measure => simp [intOf]; omega
      | true =>
        rw [e] at c1 E
        have E' : Hid (plc (hb h) (r + 1) = plc (hb h) r ++ [r]) := E
        clear hH e E
        go_wp2_with (at_builtin; go_loud (refine wpList_append_int rfl (.tmp 14) (.tmp 16) 28 rfl w.heap.size 3 i0 Try.underlying28 hi hz0 hz1 hz2 (.slice av (plc (hb h) r).length cv) (plc (hb h) r) rfl hO r _ 1 rfl (by have := hn.out; omega) hsz ?_); intro v' w2 hv2 hb2)
        have HO : Hid (OwnI w2 w.heap.size 3 v' (plc (hb h) (r + 1))) := by show OwnI _ _ _ _ _; rw [E'.out]; exact hv2
        have HB : Hid (Below w.heap.size w w2) := hB.trans hb2
        clear hO hv2 hb2 hB c1
        go_wp2
        go_roundw
        case rel => exact ⟨r + 1, by omega, by go_num, HO.out, HB.out⟩
        case measure => simp [intOf]; omega
    · have e : r = h.length := by omega
      subst e
      have hge : ¬ (h.length : Int) < (h.length : Int) := by omega
      clear hH
      go_wp2
      try rw [Exit.noGoto_ret]
      go_ret
      exact ⟨_, rfl, hO, hB⟩

/-- the points of places -/
def ptsL (zs : List Nat) : List UInt8 := zs.map pt
theorem ptsL_length (zs : List Nat) : (ptsL zs).length = zs.length := List.length_map ..
def ptsF (zs : List Nat) (r i : Nat) : UInt8 := if i < r then pt (zs.getD i 0) else 0
theorem ptsF_step (zs : List Nat) (r i : Nat) : ptsF zs (r + 1) i = if i = r then pt (zs.getD r 0) else ptsF zs r i := by
  unfold ptsF
  by_cases e : i = r
  · subst e; rw [if_pos (by omega), if_pos rfl]
  · rw [if_neg e]
    by_cases h : i < r
    · rw [if_pos h, if_pos (by omega)]
    · rw [if_neg h, if_neg (by omega)]
theorem ptsF_all (zs : List Nat) : upto (ptsF zs zs.length) zs.length = ptsL zs := by
  refine co_ext (by rw [upto_length, ptsL_length]) fun i hi => ?_
  rw [upto_length] at hi
  rw [co_upto_in hi]
  unfold ptsF ptsL
  rw [if_pos hi, co_lt (by rw [List.length_map]; exact hi)]
  simp [List.getD, hi]

set_option maxRecDepth 100000 in
set_option maxHeartbeats 2000000 in
theorem ept_any {va : Value} {zs : List Nat} {w : World} (hH : RdI w va (toI zs)) (hl : zs.length ≤ 300) (hz : ∀ i, i < zs.length → zs.getD i 0 < 256) : Calls Try.prog 53 #[va] w fun e w' => ∃ v, e = .returned v ∧ Rd w' v (ptsL zs) ∧ Below w.heap.size w w' := by
  obtain ⟨a, c, e⟩ := hH.form
  rw [toI_length] at e
  subst e
  have hz' : Hid _ := hz
  clear hz
  obtain ⟨n, hn⟩ : ∃ n, Hid (n = zs.length) := ⟨_, rfl⟩
  rw [← hn.out] at hl ⊢
  obtain ⟨i0, hi, hz0, hz1, hz2⟩ := info_parts info_u8
  go_enter Try.func53, Try.ntmps53
  go_wp2_with (at_make; go_loud (refine wpList_make_full _ rfl (.tmp 7) (.tmp 7) 22 rfl w.heap.size 5 i0 (.int .u8 0) 1 Try.underlying22 hi hz0 hz1 _ _ _ _ n rfl rfl (by omega) (by omega) (by rw [hz2]; omega) (by unfold maxLen; omega) (Nat.le_refl _) ?_); intro w1 hown1 hgrow1)
  have R1 : Hid (RowF w1 w.heap.size 5 w.heap.size n n (fun _ => 0)) := RowF.made hown1
  have B1 : Hid (Below w.heap.size w w1) := (Below.refl _ _).grown hgrow1 (Nat.le_refl _) (fun k h => by cases h)
  clear hown1 hgrow1
  go_wp2
  go_loopw [11] (fun v wr => ∃ i : Nat, i ≤ n ∧ v = .int .i64 i ∧ RowF wr w.heap.size 5 w.heap.size n n (ptsF zs i) ∧ Below w.heap.size w wr) (fun v _ => n - (intOf v).toNat)
  case atStart => exact ⟨0, by omega, rfl, R1.out.congr fun j hj => (if_neg (Nat.not_lt_zero _)).symm, B1.out⟩
  case round =>
    obtain ⟨i, hi9, rfl, hR, hB⟩ := hrel
    clear R1 B1
    by_cases hlt : i < n
    · have hlt' : (i : Int) < (n : Int) := by omega
      obtain ⟨sb, so, es, _, cs⟩ := (hH.below hB).at (i := i) (by rw [toI_length, ← hn.out]; exact hlt)
      subst es
      rw [toI_getD] at cs
      have hx := hz'.out i (by rw [← hn.out]; exact hlt)
      obtain ⟨x, hxx⟩ : ∃ x, Hid (x = zs.getD i 0) := ⟨_, rfl⟩
      rw [← hxx.out] at cs hx
      have m1 : (x : Int) % 256 = (x : Int) := by omega
      have c1 := hR.cell hlt
      have f1 := hR.unfrozen i
      have HN : Hid (RowF (World.setCell wr ⟨w.heap.size, i, none⟩ (.int .u8 (x : Int))) w.heap.size 5 w.heap.size n n (ptsF zs (i + 1))) := by
        have := hR.store hlt (pt x) (f' := ptsF zs (i + 1)) (fun j => by rw [ptsF_step, hxx.out])
        rw [pt_toNat hx] at this
        exact this
      have HB : Hid (Below w.heap.size w (World.setCell wr ⟨w.heap.size, i, none⟩ (.int .u8 (x : Int)))) := hB.setCell (p := ⟨w.heap.size, i, none⟩) (Nat.le_refl _) _
      clear hR hB hH
      go_wp2
      go_roundw
      case rel => exact ⟨i + 1, by omega, by go_num, HN.out, HB.out⟩
      case measure => simp [intOf]; omega
    · have hge : ¬ (i : Int) < (n : Int) := by omega
      have ei : i = n := by omega
      have Rt : Hid (Rd wr (.slice (some ⟨w.heap.size, 0, none⟩) n n) (ptsL zs)) := by
        show Rd _ _ _
        rw [← ptsF_all, ← hn.out, ← ei]
        have := hR.rd
        rw [ei] at this ⊢
        exact this
      clear ei hR hH
      go_wp2
      go_ret
      exact ⟨_, rfl, Rt.out, hB⟩

/-- true just where others are not -/
def notM (h : List Bool) : List Bool := (List.range h.length).map fun i => !hb h i
theorem notM_length (h : List Bool) : (notM h).length = h.length := by simp [notM]
theorem notM_at {h : List Bool} {i : Nat} (hi : i < h.length) : hb (notM h) i = !hb h i := by simp [notM, hb, List.getD, hi]
def oppF (h : List Bool) (r i : Nat) : Bool := if i < r then !hb h i else false
theorem oppF_zero (h : List Bool) : oppF h 0 = fun _ => false := by funext i; exact if_neg (Nat.not_lt_zero _)
theorem oppF_step (h : List Bool) (r i : Nat) : oppF h (r + 1) i = if i = r then !hb h r else oppF h r i := by
  unfold oppF
  by_cases e : i = r
  · subst e; rw [if_pos (by omega), if_pos rfl]
  · rw [if_neg e]
    by_cases h : i < r
    · rw [if_pos h, if_pos (by omega)]
    · rw [if_neg h, if_neg (by omega)]
theorem oppF_all (h : List Bool) : (List.range h.length).map (oppF h h.length) = notM h := List.map_congr_left fun i hi => if_pos (List.mem_range.1 hi)

set_option maxRecDepth 100000 in
set_option maxHeartbeats 2000000 in
theorem eopp_any {va : Value} {h : List Bool} {w : World} (hH : RdB w va h) (hl : h.length ≤ 300) : Calls Try.prog 36 #[va] w fun e w' => ∃ v, e = .returned v ∧ RdB w' v (notM h) ∧ Below w.heap.size w w' := by
  obtain ⟨i0, hi, hz0, hz1, hz2⟩ := info_parts info_bool10
  obtain ⟨a, c, rfl⟩ := hH.form
  obtain ⟨n, hn⟩ : ∃ n, Hid (n = h.length) := ⟨_, rfl⟩
  rw [← hn.out] at hl ⊢
  go_enter Try.func36, Try.ntmps36
  go_wp2_with (at_make; go_loud (refine wpList_make_full _ rfl (.tmp 7) (.tmp 7) 23 rfl w.heap.size 4 i0 (.bool false) 1 Try.underlying23 hi hz0 hz1 _ _ _ _ n rfl rfl (by omega) (by omega) (by rw [hz2]; omega) (by unfold maxLen; omega) (Nat.le_refl _) ?_); intro w1 hown1 hgrow1)
  have R1 : Hid (BoolF w1 w.heap.size 4 w.heap.size n (fun _ => false)) := BoolF.made hown1
  have B1 : Hid (Below w.heap.size w w1) := (Below.refl _ _).grown hgrow1 (Nat.le_refl _) (fun k h => by cases h)
  clear hown1 hgrow1
  go_wp2
  go_loopw [11] (fun v wr => ∃ i : Nat, i ≤ n ∧ v = .int .i64 i ∧ BoolF wr w.heap.size 4 w.heap.size n (oppF h i) ∧ Below w.heap.size w wr) (fun v _ => n - (intOf v).toNat)
  case atStart => exact ⟨0, by omega, rfl, by rw [oppF_zero]; exact R1.out, B1.out⟩
  case round =>
    obtain ⟨i, hi9, rfl, hR, hB⟩ := hrel
    clear R1 B1
    by_cases hlt : i < n
    · have hlt' : (i : Int) < (n : Int) := by omega
      obtain ⟨sb, so, es, _, cs⟩ := (hH.below hB).at (i := i) (by rw [← hn.out]; exact hlt)
      subst es
      have c1 := hR.cell hlt
      have f1 := hR.free i
      have HN : Hid (BoolF (World.setCell wr ⟨w.heap.size, i, none⟩ (.bool (!hb h i))) w.heap.size 4 w.heap.size n (oppF h (i + 1))) := hR.store hlt (!hb h i) fun j _ => oppF_step h i j
      have HB : Hid (Below w.heap.size w (World.setCell wr ⟨w.heap.size, i, none⟩ (.bool (!hb h i)))) := hB.setCell (p := ⟨w.heap.size, i, none⟩) (Nat.le_refl _) _
      clear hR hB hH
      go_wp2
      go_roundw
      case rel => exact ⟨i + 1, by omega, by go_num, HN.out, HB.out⟩
      case measure => simp [intOf]; omega
    · have hge : ¬ (i : Int) < (n : Int) := by omega
      have ei : i = n := by omega
      have Rt : Hid (RdB wr (.slice (some ⟨w.heap.size, 0, none⟩) n n) (notM h)) := by
        show RdB _ _ _
        rw [ei] at hR
        have := hR.rdB (by omega)
        rw [hn.out, oppF_all] at this
        rw [hn.out]
        exact this
      clear ei hR hH
      go_wp2
      go_ret
      exact ⟨_, rfl, Rt.out, hB⟩

/-- .. those at the first r places are true, too -/
def mrkF (f : Nat → Bool) (zs : List Nat) (i : Nat) : Bool := f i || decide (i ∈ zs)
theorem mrkF_step {f : Nat → Bool} {zs : List Nat} {r : Nat} (hr : r < zs.length) (i : Nat) : mrkF f (zs.take (r + 1)) i = if i = zs.getD r 0 then true else mrkF f (zs.take r) i := by
  have e : zs.take (r + 1) = zs.take r ++ [zs.getD r 0] := by
    rw [List.take_add_one, List.getElem?_eq_getElem hr]
    simp [List.getD, hr]
  unfold mrkF
  rw [e]
  by_cases q : i = zs.getD r 0
  · rw [if_pos q, q]; simp
  · rw [if_neg q]
    simp only [List.mem_append, List.mem_singleton, q, or_false]

set_option maxRecDepth 100000 in
set_option maxHeartbeats 2000000 in
theorem emark_any {va : Value} {zs : List Nat} {w : World} {base e g n : Nat} {f : Nat → Bool} (hH : RdI w va (toI zs)) (hl : zs.length ≤ 300) (hz : ∀ i, i < zs.length → zs.getD i 0 < n) (hB : BoolF w base e g n f) (hap : ∀ b off m c, va = .slice (some ⟨b, off, none⟩) m c → b ≠ g) : Calls Try.prog 39 #[.slice (some ⟨g, 0, none⟩) n n, va] w fun e' w' => e' = .returned (.tuple #[]) ∧ Only g w w' ∧ BoolF w' base e g n (mrkF f zs) := by
  obtain ⟨a, c, ea⟩ := hH.form
  rw [toI_length] at ea
  subst ea
  have hz' : Hid _ := hz
  clear hz
  obtain ⟨s, hs⟩ : ∃ s, Hid (s = zs.length) := ⟨_, rfl⟩
  rw [← hs.out] at hH hl hap ⊢
  have HC : Hid (∀ wr, Only g w wr → ∀ i, i < s → ∃ b off, a = some ⟨b, off, none⟩ ∧ wr.cell? ⟨b, off + i, none⟩ = some (.int .i64 ((zs.getD i 0 : Nat) : Int))) := fun wr o i hi => by
    obtain ⟨b, off, e1, _, e2⟩ := hH.at (i := i) (by rw [toI_length, ← hs.out]; exact hi)
    rw [toI_getD] at e2
    exact ⟨b, off, e1, (o.cell (p := ⟨b, off + i, none⟩) (hap b off s c (by rw [e1]))).trans e2⟩
  clear hH hap
  go_enter Try.func39, Try.ntmps39
  go_wp2_with fail
  go_loopw [8] (fun v wr => ∃ i : Nat, i ≤ s ∧ v = .int .i64 i ∧ BoolF wr base e g n (mrkF f (zs.take i)) ∧ Only g w wr) (fun v _ => s - (intOf v).toNat)
  case atStart => exact ⟨0, by omega, rfl, by have e0 : mrkF f (zs.take 0) = f := by { funext i; simp [mrkF] }; rw [e0]; exact hB, Only.refl _ _⟩
  case round =>
    obtain ⟨i, hi9, rfl, hR, hO⟩ := hrel
    clear hB
    by_cases hlt : i < s
    · have hlt' : (i : Int) < (s : Int) := by omega
      obtain ⟨b, off, rfl, cs⟩ := HC.out wr hO i hlt
      have hx := hz'.out i (by rw [← hs.out]; exact hlt)
      have E : Hid _ := mrkF_step (f := f) (zs := zs) (r := i) (by rw [← hs.out]; exact hlt)
      obtain ⟨x, hxx⟩ : ∃ x, Hid (x = zs.getD i 0) := ⟨_, rfl⟩
      rw [← hxx.out] at cs hx E
      have hx' : (x : Int) < (n : Int) := by omega
      have c1 := hR.cell hx
      have f1 := hR.free x
      have HN : Hid (BoolF (World.setCell wr ⟨g, x, none⟩ (.bool true)) base e g n (mrkF f (zs.take (i + 1)))) := hR.store hx true fun j _ => E.out j
      have HO : Hid (Only g w (World.setCell wr ⟨g, x, none⟩ (.bool true))) := hO.setCell x _
      clear hR hO
      go_wp2
      go_roundw
      case rel => exact ⟨i + 1, by omega, by go_num, HN.out, HO.out⟩
      case measure => simp [intOf]; omega
    · have hge : ¬ (i : Int) < (s : Int) := by omega
      have ei : i = s := by omega
      have e2 : zs.take i = zs := by rw [ei, hs.out]; exact List.take_length
      rw [e2] at hR
      clear ei e2
      go_wp2
      go_end0
      exact ⟨rfl, hO, hR⟩

end Go.Proofs.Ytchfonofjbpmaaa.Gf

/-
  PLAIN MATHEMATICS: the key equation: locators, the least of them by Euclid's steps; there is one alone. No program is named here.
-/

namespace Go.Proofs.Ytchfonofjbpmaaa.Gf
set_option linter.unusedVariables false
set_option linter.unusedSimpArgs false

theorem conv_low {L A B : Nat → UInt8} {m j : Nat} (h : ∀ i, i < m → A i = B i) (hj : j < m) : conv L A j = conv L B j :=
  S_congr fun i hi => by rw [h (j - i) (by omega)]
theorem conv_left (a b c : Nat → UInt8) : conv a (conv b c) = conv b (conv a c) := by rw [← conv_assoc, conv_comm a b, conv_assoc]
theorem addF_at (a b : Nat → UInt8) (j : Nat) : addF a b j = a j ^^^ b j := rfl
theorem smul_conv (c : UInt8) (a b : Nat → UInt8) : conv (fun i => mu c (a i)) b = fun j => mu c (conv a b j) := by
  funext j
  unfold conv
  rw [mu_S]
  exact S_congr fun i _ => mu_assoc _ _ _
theorem conv_smul (c : UInt8) (a b : Nat → UInt8) : conv a (fun i => mu c (b i)) = fun j => mu c (conv a b j) := by rw [conv_comm, smul_conv, conv_comm]
/-- m places higher -/
def shF (m : Nat) (f : Nat → UInt8) (j : Nat) : UInt8 := if m ≤ j then f (j - m) else 0
theorem shF_low {m : Nat} {f : Nat → UInt8} {j : Nat} (h : j < m) : shF m f j = 0 := if_neg (by omega)
theorem shF_ge {m : Nat} {f : Nat → UInt8} {j : Nat} (h : m ≤ j) : shF m f j = f (j - m) := if_pos h
theorem shF_high (m : Nat) (f : Nat → UInt8) (j : Nat) : shF m f (j + m) = f j := by unfold shF; rw [if_pos (by omega), Nat.add_sub_cancel]
theorem conv_shF (m : Nat) (f g : Nat → UInt8) : conv f (shF m g) = shF m (conv f g) := by
  funext j
  by_cases h : m ≤ j
  · rw [shF_ge h]
    unfold conv
    rw [S_more (n := j - m + 1) (m := j + 1) (by omega) (fun i h1 h2 => by rw [shF_low (by omega), mu_zero])]
    exact S_congr fun i hi => by rw [shF_ge (by omega), show j - i - m = j - m - i by omega]
  · unfold conv
    rw [shF_low (by omega)]
    exact S_zero fun i hi => by rw [shF_low (by omega), mu_zero]
theorem shF_inj {m : Nat} {f g : Nat → UInt8} (h : shF m f = shF m g) : f = g := by
  funext j
  have := congrFun h (j + m)
  rwa [shF_high, shF_high] at this
theorem shF_of {m : Nat} {f : Nat → UInt8} (h : ∀ j, j < m → f j = 0) : f = shF m (fun j => f (j + m)) := by
  funext j
  by_cases e : m ≤ j
  · rw [shF_ge e]; show f j = f (j - m + m); rw [Nat.sub_add_cancel e]
  · rw [shF_low (by omega)]; exact h j (by omega)

/-- L is a locator of degree t: m syndromes, known of degree e, P known times the turned one -/
structure IsLoc (P : Nat → UInt8) (m e t : Nat) (L : Nat → UInt8) : Prop where
  fin : Fin0 L (t + 1)
  top : L t = 1
  zero : ∀ j, e + t ≤ j → j < m → conv L P j = 0
/-- .. and the least one -/
structure LeastLoc (P : Nat → UInt8) (m e t : Nat) (L : Nat → UInt8) : Prop where
  loc : IsLoc P m e t L
  few : 2 * t + e ≤ m
  least : ∀ t' L', 2 * t' + e ≤ m → IsLoc P m e t' L' → t ≤ t'
  one : ∀ L', IsLoc P m e t L' → L' = L
theorem LeastLoc.unique {P : Nat → UInt8} {m e t t' : Nat} {L L' : Nat → UInt8} (h : LeastLoc P m e t L) (h' : LeastLoc P m e t' L') : t' = t ∧ L' = L := by
  have e1 := h.least _ _ h'.few h'.loc
  have e2 := h'.least _ _ h.few h.loc
  obtain rfl : t = t' := by omega
  exact ⟨rfl, h.one _ h'.loc⟩

/-- a number alone -/
def cst (c : UInt8) (i : Nat) : UInt8 := if i = 0 then c else 0
theorem cst_zero (c : UInt8) : cst c 0 = c := if_pos rfl
theorem cst_ne {c : UInt8} {i : Nat} (h : i ≠ 0) : cst c i = 0 := if_neg h
/-- where Euclid's steps stand: both rests and both factors -/
structure Eu (P : Nat → UInt8) (m : Nat) (r0 r1 v0 v1 : Nat → UInt8) (a b : Nat) : Prop where
  c0 : ∀ j, j < m → conv v0 P j = r0 j
  c1 : ∀ j, j < m → conv v1 P j = r1 j
  det : ∃ c : UInt8, c ≠ 0 ∧ addF (conv v1 r0) (conv v0 r1) = shF m (cst c)
  sum : a + b = m
  f1 : Fin0 v1 (a + 1)
  t1 : v1 a ≠ 0
  g0 : Fin0 r0 (b + 1)
  s0 : r0 b ≠ 0
  f0 : Fin0 v0 a
  g1 : Fin0 r1 b
theorem one_conv (f : Nat → UInt8) (c : UInt8) : conv (cst c) f = fun j => mu c (f j) := by
  funext j
  unfold conv
  rw [S_one (k := 0) (by omega) (fun i _ hi => by rw [cst_ne hi, zero_mu]), cst_zero, Nat.sub_zero]
/-- where they begin -/
theorem Eu.start {P r1 : Nat → UInt8} {m : Nat} (h : ∀ j, j < m → P j = r1 j) (hr : Fin0 r1 m) : Eu P m (fun i => if i = m then 1 else 0) r1 (fun _ => 0) (cst 1) 0 m := by
  have z : ∀ f : Nat → UInt8, conv (fun _ => 0) f = fun _ => 0 := fun f => by
    funext j; rw [conv_comm]; exact conv_zero (fun _ => rfl) j
  refine ⟨fun j hj => ?_, fun j hj => ?_, ⟨1, by decide, ?_⟩, by omega, fun i hi => cst_ne (by omega), ?_, fun i hi => if_neg (by omega), ?_, fun i _ => rfl, hr⟩
  · rw [z]; exact (if_neg (by omega)).symm
  · rw [one_conv]; show mu 1 (P j) = _; rw [one_mu]; exact h j hj
  · rw [one_conv, z]
    funext j
    show mu 1 (if j = m then 1 else 0) ^^^ 0 = shF m (cst 1) j
    rw [one_mu, x_zero]
    by_cases e : m ≤ j
    · rw [shF_ge e]
      by_cases e2 : j = m
      · rw [if_pos e2, e2, Nat.sub_self, cst_zero]
      · rw [if_neg e2, cst_ne (by omega)]
    · rw [shF_low (by omega), if_neg (by omega)]
  · rw [cst_zero]; decide
  · rw [if_pos rfl]; decide
/-- a step: r1 is there, of degree d; q its quotient -/
theorem Eu.step {P r0 r1 v0 v1 q r2 : Nat → UInt8} {m a b d : Nat} (h : Eu P m r0 r1 v0 v1 a b) (hd : Fin0 r1 (d + 1)) (hn : r1 d ≠ 0) (hq : ∀ i, r0 i = conv q r1 i ^^^ r2 i) (hf : Fin0 q (b - d + 1)) (hr : Fin0 r2 d) :
    Eu P m r1 r2 v1 (addF v0 (conv q v1)) (a + (b - d)) d := by
  have hdb : d < b := by
    rcases Nat.lt_or_ge d b with e | e
    · exact e
    · exact absurd (h.g1 d e) hn
  have er : r0 = addF (conv q r1) r2 := funext hq
  have hqt : q (b - d) ≠ 0 := fun e => h.s0 (by
    have := conv_top hf hd
    rw [show b - d + d = b by omega, e, zero_mu] at this
    rw [er, addF_at, this, hr b (by omega)]; rfl)
  obtain ⟨c, hc, hdet⟩ := h.det
  refine ⟨h.c1, fun j hj => ?_, ⟨c, hc, ?_⟩, by have := h.sum; omega, ?_, ?_, hd, hn, h.f1.mono (by omega), hr⟩
  · rw [add_conv, addF_at, h.c0 j hj, conv_assoc, conv_low h.c1 hj, er, addF_at, x_comm (conv q r1 j), x_assoc, x_self, x_zero]
  · rw [← hdet, er, add_conv, conv_add]
    funext j
    show (conv v0 r1 j ^^^ conv (conv q v1) r1 j) ^^^ conv v1 r2 j = (conv v1 (conv q r1) j ^^^ conv v1 r2 j) ^^^ conv v0 r1 j
    rw [conv_assoc, conv_left q v1, x_comm _ (conv v0 r1 j), x_assoc]
  · have e := (hf.conv h.f1).mono (show b - d + 1 + (a + 1) - 1 ≤ a + (b - d) + 1 by omega)
    exact (h.f0.mono (by omega)).add e
  · rw [addF_at, h.f0 _ (by omega), zero_x, show a + (b - d) = (b - d) + a by omega, conv_top hf h.f1]
    exact mu_ne hqt h.t1

/-- each locator is a multiple of the factor at which Euclid's steps end -/
theorem Eu.all {P r0 r1 v0 v1 : Nat → UInt8} {m a b n1 e t : Nat} {L : Nat → UInt8} (h : Eu P m r0 r1 v0 v1 a b) (hb : m + e ≤ 2 * b) (hn : Fin0 r1 n1) (h1 : 2 * n1 ≤ m + e + 1) (ht : 2 * t + e ≤ m) (hL : IsLoc P m e t L) :
    a ≤ t ∧ Fin0 r1 (e + a) ∧ (t = a → L = fun j => mu (iv (v1 a)) (v1 j)) := by
  have hs := h.sum
  have ha : 2 * a + e ≤ m := by omega
  obtain ⟨c, hc, hdet⟩ := h.det
  obtain ⟨R, hR⟩ : ∃ R : Nat → UInt8, R = fun j => if j < e + t then conv L P j else 0 := ⟨_, rfl⟩
  have hRf : Fin0 R (e + t) := fun i hi => by rw [hR]; exact if_neg (by omega)
  have hRl : ∀ j, j < m → conv L P j = R j := fun j hj => by
    rw [hR]
    by_cases e1 : j < e + t
    · exact (if_pos e1).symm
    · show _ = if j < e + t then _ else _
      rw [if_neg e1]; exact hL.zero j (by omega) hj
  have hA : conv L r1 = conv R v1 := by
    funext j
    by_cases hj : j < m
    · rw [← conv_low h.c1 hj, conv_left, conv_low hRl hj, conv_comm]
    · rw [(hL.fin.conv hn) j (by omega), (hRf.conv h.f1) j (by omega)]
  obtain ⟨B, hB⟩ : ∃ B, B = addF (conv L r0) (conv R v0) := ⟨_, rfl⟩
  have hB0 : ∀ j, j < m → B j = 0 := fun j hj => by
    rw [hB, addF_at, ← conv_low h.c0 hj, conv_left, conv_low hRl hj, conv_comm v0, x_self]
  obtain ⟨y, hy⟩ : ∃ y : Nat → UInt8, y = fun j => B (j + m) := ⟨_, rfl⟩
  have hBy : B = shF m y := by rw [hy]; exact shF_of hB0
  have k1 : conv v1 y = fun j => mu c (L j) := by
    refine shF_inj (m := m) ?_
    rw [← conv_shF, ← hBy, hB, conv_add, conv_left v1 L, conv_left v1 R]
    have e1 : conv v1 r0 = addF (shF m (cst c)) (conv v0 r1) := by
      rw [← hdet]; funext j; rw [addF_at, addF_at, x_assoc, x_self, x_zero]
    rw [e1, conv_add, conv_shF, conv_comm L (cst c), one_conv]
    funext j
    show (shF m (fun j => mu c (L j)) j ^^^ conv L (conv v0 r1) j) ^^^ conv R (conv v1 v0) j = _
    rw [conv_left L v0, hA, conv_comm v1 v0, conv_left R v0, conv_comm R v1, x_assoc, x_self, x_zero]
  have k2 : conv r1 y = fun j => mu c (R j) := by
    refine shF_inj (m := m) ?_
    rw [← conv_shF, ← hBy, hB, conv_add, conv_left r1 L, conv_comm r1 r0, conv_left L r0, hA, conv_left r1 R, conv_comm r1 v0]
    have e1 : conv v0 r1 = addF (shF m (cst c)) (conv v1 r0) := by
      rw [← hdet]; funext j; rw [addF_at, addF_at, x_comm (conv v1 r0 j), x_assoc, x_self, x_zero]
    rw [e1, conv_add, conv_shF, conv_comm R (cst c), one_conv]
    funext j
    show conv r0 (conv R v1) j ^^^ (shF m (fun j => mu c (R j)) j ^^^ conv R (conv v1 r0) j) = _
    rw [conv_comm v1 r0, conv_left R r0, x_left, x_self, x_zero]
  -- the degrees
  obtain ⟨N, hN⟩ : ∃ N, Fin0 y N := ⟨(t + 1 + (b + 1) - 1) + (e + t + a - 1), fun i hi => by
    rw [hy]
    show B (i + m) = 0
    rw [hB, addF_at, (hL.fin.conv h.g0) _ (by omega), (hRf.conv h.f0) _ (by omega)]; rfl⟩
  have hcL : Fin0 (fun j => mu c (L j)) (t + 1) := fun i hi => by show mu c (L i) = 0; rw [hL.fin i hi, mu_zero]
  have dL : deg (fun j => mu c (L j)) (t + 1) = t + 1 := deg_unique hcL hcL (fun _ => by show mu c (L (t + 1 - 1)) ≠ 0; rw [Nat.add_sub_cancel, hL.top, mu_one]; exact hc)
  have dv : deg v1 (a + 1) = a + 1 := deg_unique h.f1 h.f1 (fun _ => by rw [Nat.add_sub_cancel]; exact h.t1)
  have dc := deg_conv h.f1 hN (k := t + 1) (by rw [k1]; exact hcL)
  rw [k1, dL, dv] at dc
  have hy0 : deg y N ≠ 0 := fun e => by rw [if_pos (Or.inr e)] at dc; omega
  rw [if_neg (by omega)] at dc
  refine ⟨by omega, ?_, fun et => ?_⟩
  · have hcR : Fin0 (fun j => mu c (R j)) (e + t) := fun i hi => by show mu c (R i) = 0; rw [hRf i hi, mu_zero]
    have dr := deg_conv hn hN (k := e + t) (by rw [k2]; exact hcR)
    rw [k2] at dr
    have hle := deg_le (fun j => mu c (R j)) (e + t)
    by_cases e0 : deg r1 n1 = 0
    · exact (deg_fin hn).mono (by omega)
    · rw [if_neg (by omega)] at dr
      exact (deg_fin hn).mono (by omega)
  · subst et
    have hy1 : Fin0 y 1 := (deg_fin hN).mono (by omega)
    have ey : y = cst (y 0) := by
      funext i
      by_cases e0 : i = 0
      · rw [e0, cst_zero]
      · rw [cst_ne e0]; exact hy1 i (by omega)
    rw [conv_comm, ey, one_conv] at k1
    have key : ∀ j, L j = mu (iv c) (mu (y 0) (v1 j)) := fun j => by
      have := congrFun k1 j
      show L j = _
      have e2 : mu (y 0) (v1 j) = mu c (L j) := this
      rw [e2, ← mu_assoc, mu_comm (iv c), mu_iv hc, one_mu]
    have k0 := key t
    rw [hL.top] at k0
    funext j
    rw [key j]
    -- iv c · y0 is the inverse of v1's top
    have e3 : mu (mu (iv c) (y 0)) (v1 t) = 1 := by rw [mu_assoc]; exact k0.symm
    have e4 : mu (iv c) (y 0) = iv (v1 t) := by
      have : mu (mu (mu (iv c) (y 0)) (v1 t)) (iv (v1 t)) = mu 1 (iv (v1 t)) := by rw [e3]
      rw [mu_assoc, mu_iv h.t1, mu_one, one_mu] at this
      exact this
    rw [← mu_assoc, e4]
/-- what is told at the end of Euclid's steps -/
theorem Eu.least {P r0 r1 v0 v1 : Nat → UInt8} {m a b n1 e : Nat} (h : Eu P m r0 r1 v0 v1 a b) (hb : m + e ≤ 2 * b) (hn : Fin0 r1 n1) (h1 : 2 * n1 ≤ m + e + 1) (hr : Fin0 r1 (e + a)) : LeastLoc P m e a (fun j => mu (iv (v1 a)) (v1 j)) := by
  have hs := h.sum
  refine ⟨⟨fun i hi => ?_, ?_, fun j h2 h3 => ?_⟩, by omega, fun t' L' h2 h3 => (h.all hb hn h1 h2 h3).1, fun L' h3 => (h.all hb hn h1 (by omega) h3).2.2 rfl⟩
  · show mu _ (v1 i) = 0; rw [h.f1 i hi, mu_zero]
  · show mu _ (v1 a) = 1; rw [mu_comm, mu_iv h.t1]
  · rw [smul_conv]; show mu _ (conv v1 P j) = 0; rw [h.c1 j h3, hr j h2, mu_zero]
theorem Eu.none {P r0 r1 v0 v1 : Nat → UInt8} {m a b n1 e : Nat} (h : Eu P m r0 r1 v0 v1 a b) (hb : m + e ≤ 2 * b) (hn : Fin0 r1 n1) (h1 : 2 * n1 ≤ m + e + 1) (hr : ¬ Fin0 r1 (e + a)) : ∀ t L, 2 * t + e ≤ m → ¬ IsLoc P m e t L :=
  fun t L h2 h3 => hr (h.all hb hn h1 h2 h3).2.1

end Go.Proofs.Ytchfonofjbpmaaa.Gf

/-
  PLAIN MATHEMATICS: what is told of syndromes and what is known: one answer alone; what the statements ask of it. No program's function is named here.
-/

namespace Go.Proofs.Ytchfonofjbpmaaa.Gf
set_option linter.unusedVariables false
set_option linter.unusedSimpArgs false

theorem co_rev {s : List UInt8} {i : Nat} (h : i < s.length) : co s.reverse i = co s (s.length - 1 - i) := by
  rw [co_lt (by simpa using h), co_lt (by omega), List.getElem_reverse]
/-- known times the turned one -/
def keP (s known : List UInt8) : Nat → UInt8 := conv (co known) (co s.reverse)
theorem keP_fin (s known : List UInt8) : Fin0 (keP s known) (known.length + s.length) := by
  have := (co_fin known).conv (co_fin s.reverse)
  rw [List.length_reverse] at this
  exact this.mono (by omega)
/-- known has no top, or a degree above the syndromes' number -/
def BadK (s known : List UInt8) : Prop := (norm known).length = 0 ∨ s.length + 1 < (norm known).length
/-- the evaluator -/
def evaL (s known : List UInt8) (t : Nat) (L : Nat → UInt8) : List UInt8 := mk (fun i => conv L (keP s known) (s.length + i)) (t + 1 + (known.length + s.length))
theorem eva_fin {s known : List UInt8} {t : Nat} {L : Nat → UInt8} (h : Fin0 L (t + 1)) : Fin0 (fun i => conv L (keP s known) (s.length + i)) (t + 1 + (known.length + s.length)) := fun i hi =>
  (h.conv (keP_fin s known)) _ (by omega)
/-- what is told: the error, the locator, the evaluator -/
def KeyAns (s known : List UInt8) (X : Int) (A O : List UInt8) : Prop :=
  (BadK s known ∧ X = 1 ∧ A = [] ∧ O = []) ∨
  (¬ BadK s known ∧ ∃ t L, LeastLoc (keP s known) s.length ((norm known).length - 1) t L ∧ X = 0 ∧ A = upto L (t + 1) ∧ O = evaL s known t L) ∨
  (¬ BadK s known ∧ (∀ t L, 2 * t + ((norm known).length - 1) ≤ s.length → ¬ IsLoc (keP s known) s.length ((norm known).length - 1) t L) ∧ X = 100 ∧ A = [] ∧ O = [])
theorem KeyAns.unique {s known : List UInt8} {X X' : Int} {A A' O O' : List UInt8} (h : KeyAns s known X A O) (h' : KeyAns s known X' A' O') : X' = X ∧ A' = A ∧ O' = O := by
  rcases h with ⟨b, rfl, rfl, rfl⟩ | ⟨b, t, L, hl, rfl, rfl, rfl⟩ | ⟨b, hn, rfl, rfl, rfl⟩
  · rcases h' with ⟨b', rfl, rfl, rfl⟩ | ⟨b', _⟩ | ⟨b', _⟩
    · exact ⟨rfl, rfl, rfl⟩
    · exact absurd b b'
    · exact absurd b b'
  · rcases h' with ⟨b', _⟩ | ⟨b', t', L', hl', rfl, rfl, rfl⟩ | ⟨b', hn', _⟩
    · exact absurd b' b
    · obtain ⟨rfl, rfl⟩ := hl.unique hl'
      exact ⟨rfl, rfl, rfl⟩
    · exact absurd hl.loc (hn' t L hl.few)
  · rcases h' with ⟨b', _⟩ | ⟨b', t', L', hl', _⟩ | ⟨b', _, rfl, rfl, rfl⟩
    · exact absurd b' b
    · exact absurd hl'.loc (hn t' L' hl'.few)
    · exact ⟨rfl, rfl, rfl⟩
/-- some answer there is -/
theorem KeyAns.of_loc {s known : List UInt8} {t : Nat} {L : Nat → UInt8} (b : ¬ BadK s known) (h : LeastLoc (keP s known) s.length ((norm known).length - 1) t L) : KeyAns s known 0 (upto L (t + 1)) (evaL s known t L) := Or.inr (Or.inl ⟨b, t, L, h, rfl, rfl, rfl⟩)

theorem drop_mk {f : Nat → UInt8} {n n' m : Nat} (hf : Fin0 f n) (hn : Fin0 (fun i => f (m + i)) n') : (mk f n).drop m = mk (fun i => f (m + i)) n' := by
  have hd : deg (fun i => f (m + i)) n' = deg f n - m := by
    refine deg_unique hn (fun i hi => deg_fin hf _ (by omega)) (fun h => ?_)
    show f (m + (deg f n - m - 1)) ≠ 0
    rw [show m + (deg f n - m - 1) = deg f n - 1 by omega]
    exact deg_top f n (by omega)
  refine co_ext (by rw [List.length_drop, mk_length, mk_length, hd]) fun i hi => ?_
  rw [List.length_drop, mk_length] at hi
  have e1 : co ((mk f n).drop m) i = co (mk f n) (m + i) := by unfold co; rw [List.getElem?_drop]
  rw [e1, co_mk hf, co_mk hn]

/-- what 'KeyeqFits' asks, where a locator is told -/
theorem fits_co {s known : List UInt8} {t : Nat} {L : Nat → UInt8} (h : Fin0 L (t + 1)) : co (mulP (mulP (upto L (t + 1)) (norm known)) s.reverse) = conv L (keP s known) := by
  have e : co (upto L (t + 1)) = L := funext fun i => co_upto h i
  rw [co_mulP, co_mulP, e, co_norm, conv_assoc]; rfl
theorem fits_high {s known : List UInt8} {t : Nat} {L : Nat → UInt8} (h : Fin0 L (t + 1)) : (mulP (mulP (upto L (t + 1)) (norm known)) s.reverse).drop s.length = evaL s known t L := by
  have e := fits_co (s := s) (known := known) h
  have hn : norm (mulP (mulP (upto L (t + 1)) (norm known)) s.reverse) = mulP (mulP (upto L (t + 1)) (norm known)) s.reverse := norm_mk (fin_conv _ _)
  rw [← hn]
  generalize mulP (mulP (upto L (t + 1)) (norm known)) s.reverse = M at e
  unfold evaL norm
  refine (drop_mk (co_fin _) (n' := t + 1 + (known.length + s.length)) (fun i hi => ?_)).trans ?_
  · show co _ (s.length + i) = 0
    rw [e]; exact (h.conv (keP_fin s known)) _ (by omega)
  · rw [e]

/-- syndromes times a number -/
def scP (s : List UInt8) (c : UInt8) : List UInt8 := upto (fun i => mu (co s i) c) s.length
theorem scP_length (s : List UInt8) (c : UInt8) : (scP s c).length = s.length := upto_length _ _
theorem co_scP (s : List UInt8) (c : UInt8) (i : Nat) : co (scP s c) i = mu (co s i) c := co_upto (fun i hi => by rw [co_ge hi, zero_mu]) i
theorem keP_sc (s known : List UInt8) (c : UInt8) : keP (scP s c) known = fun j => mu c (keP s known j) := by
  have e : co (scP s c).reverse = fun i => mu c (co s.reverse i) := by
    funext i
    by_cases h : i < s.length
    · rw [co_rev (by rw [scP_length]; exact h), co_rev h, scP_length, co_scP, mu_comm]
    · rw [co_ge (by rw [List.length_reverse, scP_length]; omega), co_ge (by rw [List.length_reverse]; omega), mu_zero]
  unfold keP
  rw [e, conv_smul]
theorem BadK_sc {s known : List UInt8} {c : UInt8} : BadK (scP s c) known ↔ BadK s known := by unfold BadK; rw [scP_length]
theorem IsLoc.sc {P : Nat → UInt8} {m e t : Nat} {L : Nat → UInt8} {c : UInt8} (h : IsLoc P m e t L) : IsLoc (fun j => mu c (P j)) m e t L :=
  ⟨h.fin, h.top, fun j h1 h2 => by rw [conv_smul]; show mu c (conv L P j) = 0; rw [h.zero j h1 h2, mu_zero]⟩
theorem IsLoc.unsc {P : Nat → UInt8} {m e t : Nat} {L : Nat → UInt8} {c : UInt8} (hc : c ≠ 0) (h : IsLoc (fun j => mu c (P j)) m e t L) : IsLoc P m e t L :=
  ⟨h.fin, h.top, fun j h1 h2 => by
    have := h.zero j h1 h2
    rw [conv_smul] at this
    rcases mu_eq_zero.1 this with e | e
    · exact absurd e hc
    · exact e⟩
theorem LeastLoc.sc {P : Nat → UInt8} {m e t : Nat} {L : Nat → UInt8} {c : UInt8} (hc : c ≠ 0) (h : LeastLoc P m e t L) : LeastLoc (fun j => mu c (P j)) m e t L :=
  ⟨h.loc.sc, h.few, fun t' L' h1 h2 => h.least t' L' h1 (h2.unsc hc), fun L' h1 => h.one L' (h1.unsc hc)⟩
theorem eva_sc {s known : List UInt8} {t : Nat} {L : Nat → UInt8} {c : UInt8} (h : Fin0 L (t + 1)) : evaL (scP s c) known t L = mulP (evaL s known t L) [c] := by
  unfold evaL mulP
  refine mk_same (fun i hi => ?_) ((co_fin _).conv (co_fin _) |>.mono (by omega)) fun i => ?_
  · exact (h.conv (keP_fin (scP s c) known)) _ (by rw [scP_length] at *; omega)
  · have e1 : co [c] = cst c := by
      funext j
      cases j with
      | zero => rfl
      | succ j => rw [cst_ne (by omega)]; rfl
    rw [e1, conv_comm (co _) (cst c), one_conv, co_mk (eva_fin h), keP_sc, conv_smul, scP_length]
/-- what 'KeyeqScales' asks -/
theorem KeyAns.sc {s known : List UInt8} {X : Int} {A O : List UInt8} {c : UInt8} (hc : c ≠ 0) (h : KeyAns s known X A O) : KeyAns (scP s c) known X A (mulP O [c]) := by
  have z : mulP [] [c] = [] := by
    unfold mulP
    have := mk_same (f := conv (co []) (co [c])) (g := co []) (n := [].length + [c].length) (m := 0) (fin_conv _ _) (co_fin []) (fun i => by rw [conv_comm, conv_zero co_nil, co_nil])
    rw [this]; rfl
  rcases h with ⟨b, rfl, rfl, rfl⟩ | ⟨b, t, L, hl, rfl, rfl, rfl⟩ | ⟨b, hn, rfl, rfl, rfl⟩
  · rw [z]; exact Or.inl ⟨BadK_sc.2 b, rfl, rfl, rfl⟩
  · rw [← eva_sc hl.loc.fin]
    refine Or.inr (Or.inl ⟨fun e => b (BadK_sc.1 e), t, L, ?_, rfl, rfl, rfl⟩)
    rw [keP_sc, scP_length]; exact hl.sc hc
  · rw [z]
    refine Or.inr (Or.inr ⟨fun e => b (BadK_sc.1 e), fun t L h1 h2 => ?_, rfl, rfl, rfl⟩)
    rw [scP_length] at h1
    rw [keP_sc, scP_length] at h2
    exact hn t L h1 (h2.unsc hc)
/-- noughts tell 1 and nothing -/
theorem KeyAns.nought {s known : List UInt8} (b : ¬ BadK s known) : KeyAns (scP s 0) known 0 [1] [] := by
  have eP : keP (scP s 0) known = fun _ => 0 := by rw [keP_sc]; funext j; exact zero_mu _
  have hz : ∀ L : Nat → UInt8, ∀ j, conv L (fun _ => 0) j = 0 := fun L j => conv_zero (fun _ => rfl) j
  have b' : ¬ BadK (scP s 0) known := fun e => b (BadK_sc.1 e)
  have hl : LeastLoc (keP (scP s 0) known) (scP s 0).length ((norm known).length - 1) 0 (cst 1) := by
    rw [eP]
    refine ⟨⟨fun i hi => cst_ne (by omega), cst_zero 1, fun j _ _ => hz _ j⟩, ?_, fun t' L' _ _ => Nat.zero_le _, fun L' h => ?_⟩
    · unfold BadK at b'; omega
    · funext j
      cases j with
      | zero => rw [h.top, cst_zero]
      | succ j => rw [h.fin _ (by omega), cst_ne (by omega)]
  have h := KeyAns.of_loc b' hl
  have e1 : upto (cst 1) (0 + 1) = [1] := by rfl
  have e2 : evaL (scP s 0) known 0 (cst 1) = [] := by
    unfold evaL
    rw [eP]
    have := mk_same (f := fun i => conv (cst 1) (fun _ => (0 : UInt8)) ((scP s 0).length + i)) (g := co []) (n := 0 + 1 + (known.length + (scP s 0).length)) (m := 0) (fun i _ => hz _ _) (co_fin []) (fun i => by rw [hz, co_nil])
    rw [this]; rfl
  rw [e1, e2] at h
  exact h

end Go.Proofs.Ytchfonofjbpmaaa.Gf

/-
  PLAIN MATHEMATICS: locators of points: their roots; of syndromes that points make the least locator is that of the points, and the evaluator tells by what (Forney). No program's function is named here.
-/

namespace Go.Proofs.Ytchfonofjbpmaaa.Gf
set_option linter.unusedVariables false
set_option linter.unusedSimpArgs false

/-- x and a number -/
def linF (x : UInt8) (i : Nat) : UInt8 := if i = 0 then x else if i = 1 then 1 else 0
theorem co_lin (x : UInt8) : co [x, 1] = linF x := by
  funext i
  rcases i with _ | _ | i
  · rfl
  · rfl
  · rw [co_ge (by simp)]; unfold linF; rw [if_neg (by omega), if_neg (by omega)]
theorem linF_fin (x : UInt8) : Fin0 (linF x) 2 := fun i hi => by unfold linF; rw [if_neg (by omega), if_neg (by omega)]
theorem lin_conv_zero (x : UInt8) (g : Nat → UInt8) : conv (linF x) g 0 = mu x (g 0) := by
  show S 1 _ = _
  rw [S, S, zero_x]; rfl
theorem lin_conv_succ (x : UInt8) (g : Nat → UInt8) (j : Nat) : conv (linF x) g (j + 1) = mu x (g (j + 1)) ^^^ g j := by
  unfold conv
  rw [S_head]
  congr 1
  rw [S_one (k := 0) (by omega) (fun i _ hi => by unfold linF; rw [if_neg (by omega), if_neg (by omega), zero_mu])]
  show mu 1 (g (j + 1 - (0 + 1))) = g j
  rw [one_mu]; rfl
theorem ev_lin (y x : UInt8) : ev 2 (linF y) x = x ^^^ y := by
  unfold ev
  rw [S, S, S, zero_x]
  show mu y (pwr x 0) ^^^ mu 1 (pwr x 1) = _
  show mu y 1 ^^^ mu 1 (mu 1 x) = _
  rw [mu_one, one_mu, one_mu, x_comm]
theorem ev_one (x : UInt8) : ev 1 (cst 1) x = 1 := by
  unfold ev
  rw [S, S, zero_x]
  show mu 1 1 = 1
  rw [one_mu]
/-- the product of x and each of the first n points -/
def locF (a : Nat → UInt8) : Nat → Nat → UInt8
  | 0 => cst 1
  | n + 1 => conv (locF a n) (linF (a n))
theorem locF_fin (a : Nat → UInt8) (n : Nat) : Fin0 (locF a n) (n + 1) := by
  induction n with
  | zero => exact fun i hi => cst_ne (by omega)
  | succ n ih => exact (ih.conv (linF_fin (a n))).mono (by omega)
theorem locF_top (a : Nat → UInt8) (n : Nat) : locF a n n = 1 := by
  induction n with
  | zero => rfl
  | succ n ih => rw [locF, conv_top (locF_fin a n) (linF_fin (a n)), ih, one_mu]; rfl
theorem locF_congr {a b : Nat → UInt8} {n : Nat} (h : ∀ i, i < n → a i = b i) : locF a n = locF b n := by
  induction n with
  | zero => rfl
  | succ n ih => rw [locF, locF, ih (fun i hi => h i (by omega)), h n (by omega)]
theorem locF_append (a : Nat → UInt8) (t n : Nat) : locF a (t + n) = conv (locF a t) (locF (fun i => a (t + i)) n) := by
  induction n with
  | zero => rw [Nat.add_zero, locF, conv_comm, one_conv]; funext j; rw [one_mu]
  | succ n ih => rw [← Nat.add_assoc, locF, ih, locF, conv_assoc]
theorem ev_loc (a : Nat → UInt8) (n : Nat) (x : UInt8) : ev (n + 1) (locF a n) x = PD a n x := by
  induction n with
  | zero => exact ev_one x
  | succ n ih =>
    have := ev_conv x (locF_fin a n) (linF_fin (a n))
    rw [ev_more x (f := conv (locF a n) (linF (a n))) (n := n + 1 + 1) (m := n + 1 + 2) ((locF_fin a n).conv (linF_fin (a n)) |>.mono (by omega)) (by omega)] at this
    rw [locF, this, ih, ev_lin, mu_comm, PD]
theorem PD_zero {a : Nat → UInt8} {n : Nat} {x : UInt8} : PD a n x = 0 ↔ ∃ i, i < n ∧ a i = x := by
  induction n with
  | zero => exact ⟨fun h => absurd (show (1 : UInt8) = 0 from h) (by decide), fun ⟨i, h, _⟩ => by omega⟩
  | succ n ih =>
    rw [PD, mu_eq_zero, ih]
    constructor
    · rintro (h | ⟨i, h1, h2⟩)
      · exact ⟨n, by omega, (x_eq_zero.1 h).symm⟩
      · exact ⟨i, by omega, h2⟩
    · rintro ⟨i, h1, h2⟩
      by_cases e : i = n
      · subst e; exact Or.inl (x_eq_zero.2 h2.symm)
      · exact Or.inr ⟨i, by omega, h2⟩
/-- the locator as a list -/
def locN (a : Nat → UInt8) (n : Nat) : List UInt8 := upto (locF a n) (n + 1)
def locL (ps : List UInt8) : List UInt8 := locN (co ps) ps.length
theorem co_locN (a : Nat → UInt8) (n : Nat) : co (locN a n) = locF a n := funext fun i => co_upto (locF_fin a n) i
theorem locN_length (a : Nat → UInt8) (n : Nat) : (locN a n).length = n + 1 := upto_length _ _
theorem locN_zero (a : Nat → UInt8) : locN a 0 = [1] := rfl
theorem locN_succ (a : Nat → UInt8) (n : Nat) : mulP (locN a n) [a n, 1] = locN a (n + 1) := by
  have e : conv (co (locN a n)) (co [a n, 1]) = locF a (n + 1) := by rw [co_locN, co_lin]; rfl
  have hl : (mulP (locN a n) [a n, 1]).length = n + 2 := by
    unfold mulP
    rw [mk_length, e]
    exact deg_unique ((locF_fin a (n + 1)).mono (by rw [locN_length]; simp)) (locF_fin a (n + 1)) (fun _ => by show locF a (n + 1) (n + 1) ≠ 0; rw [locF_top]; decide)
  refine co_ext (by rw [hl, locN_length]) fun i _ => ?_
  rw [co_mulP, e, co_locN]
theorem norm_locN (a : Nat → UInt8) (n : Nat) : norm (locN a n) = locN a n := by
  have hd : deg (co (locN a n)) (locN a n).length = n + 1 := by
    rw [co_locN]
    exact deg_unique ((locF_fin a n).mono (by rw [locN_length]; omega)) (locF_fin a n) (fun _ => by show locF a n n ≠ 0; rw [locF_top]; decide)
  refine co_ext (by unfold norm; rw [mk_length, hd, locN_length]) fun i _ => ?_
  rw [co_norm]
theorem evP_loc (ps : List UInt8) (x : UInt8) : evP (locL ps) x = PD (co ps) ps.length x := by
  unfold evP locL
  rw [locN_length, co_locN, ev_loc]

/-! Roots: a polynomial with as many roots as numbers is nought. -/
theorem root_div {f : Nat → UInt8} {n : Nat} (h : Fin0 f (n + 1)) (r : UInt8) (hr : ev (n + 1) f r = 0) : ∃ g, Fin0 g n ∧ f = conv (linF r) g := by
  refine ⟨fun i => S (n + 1) (fun k => if i < k then mu (f k) (pwr r (k - 1 - i)) else 0), fun i hi => S_zero fun k hk => if_neg (by omega), ?_⟩
  funext i
  cases i with
  | zero =>
    rw [lin_conv_zero, mu_S]
    have e : S (n + 1) (fun k => mu r (if 0 < k then mu (f k) (pwr r (k - 1 - 0)) else 0)) = S (n + 1) (fun k => mu (f k) (pwr r k) ^^^ (if k = 0 then f 0 else 0)) := S_congr fun k hk => by
      cases k with
      | zero => rw [if_neg (by omega), if_pos rfl, mu_zero]; show 0 = mu (f 0) 1 ^^^ f 0; rw [mu_one, x_self]
      | succ k => rw [if_pos (by omega), if_neg (by omega), x_zero, Nat.add_sub_cancel, Nat.sub_zero, pwr, mu_left, mu_comm r]
    rw [e, S_xor, S_one (k := 0) (by omega) (fun k _ hk => if_neg hk), if_pos rfl]
    have : S (n + 1) (fun k => mu (f k) (pwr r k)) = 0 := hr
    rw [this, zero_x]
  | succ i =>
    rw [lin_conv_succ, mu_S, ← S_xor]
    have e : S (n + 1) (fun k => mu r (if i + 1 < k then mu (f k) (pwr r (k - 1 - (i + 1))) else 0) ^^^ (if i < k then mu (f k) (pwr r (k - 1 - i)) else 0)) = S (n + 1) (fun k => if k = i + 1 then f (i + 1) else 0) := S_congr fun k hk => by
      by_cases h1 : i + 1 < k
      · rw [if_pos h1, if_pos (by omega), if_neg (by omega), show k - 1 - i = (k - 1 - (i + 1)) + 1 by omega, pwr, mu_left, mu_comm r, x_self]
      · rw [if_neg h1, mu_zero, zero_x]
        by_cases h2 : k = i + 1
        · subst h2; rw [if_pos (by omega), if_pos rfl, show i + 1 - 1 - i = 0 by omega]; exact mu_one _
        · rw [if_neg (by omega), if_neg h2]
    rw [e]
    by_cases hi : i + 1 < n + 1
    · rw [S_one (k := i + 1) hi (fun k _ hk => if_neg hk), if_pos rfl]
    · rw [h (i + 1) (by omega)]
      exact (S_zero fun k hk => if_neg (by omega)).symm
theorem roots_all {n : Nat} {f : Nat → UInt8} (h : Fin0 f n) (rs : Nat → UInt8) (hd : ∀ i j, i < n → j < n → i ≠ j → rs i ≠ rs j) (hr : ∀ i, i < n → ev n f (rs i) = 0) : ∀ i, f i = 0 := by
  induction n generalizing f with
  | zero => exact fun i => h i (Nat.zero_le _)
  | succ n ih =>
    obtain ⟨g, hg, e⟩ := root_div h (rs n) (hr n (by omega))
    have h0 := ih hg (fun i j hi hj => hd i j (by omega) (by omega)) (fun i hi => by
      have h1 := hr i (by omega)
      have h2 := ev_conv (rs i) (linF_fin (rs n)) hg
      rw [← e, ev_more (rs i) h (show n + 1 ≤ 2 + n by omega), h1, ev_lin] at h2
      rcases mu_eq_zero.1 h2.symm with h3 | h3
      · exact absurd (x_eq_zero.1 h3) (hd i n (by omega) (by omega) (by omega))
      · exact h3)
    intro i
    rw [e]; exact conv_zero h0 i

/-! All points but one. -/
def peF (a : Nat → UInt8) (j : Nat) : Nat → Nat → UInt8
  | 0 => cst 1
  | n + 1 => if n = j then peF a j n else conv (peF a j n) (linF (a n))
theorem peF_fin (a : Nat → UInt8) (j n : Nat) : (n ≤ j → Fin0 (peF a j n) (n + 1)) ∧ (j < n → Fin0 (peF a j n) n) := by
  induction n with
  | zero => exact ⟨fun _ i hi => cst_ne (by omega), fun h => by omega⟩
  | succ n ih =>
    refine ⟨fun h => ?_, fun h => ?_⟩
    · rw [peF, if_neg (by omega)]; exact ((ih.1 (by omega)).conv (linF_fin (a n))).mono (by omega)
    · rw [peF]
      by_cases e : n = j
      · rw [if_pos e]; exact ih.1 (by omega)
      · rw [if_neg e]; exact ((ih.2 (by omega)).conv (linF_fin (a n))).mono (by omega)
theorem peF_far (a : Nat → UInt8) (j n : Nat) (h : n ≤ j) : peF a j n = locF a n := by
  induction n with
  | zero => rfl
  | succ n ih => rw [peF, if_neg (by omega), ih (by omega), locF]
theorem peF_mul (a : Nat → UInt8) {j n : Nat} (h : j < n) : locF a n = conv (peF a j n) (linF (a j)) := by
  induction n with
  | zero => omega
  | succ n ih =>
    by_cases e : n = j
    · subst e; rw [peF, if_pos rfl, peF_far a n n (Nat.le_refl _), locF]
    · rw [peF, if_neg e, locF, ih (by omega), conv_assoc, conv_assoc, conv_comm (linF (a j))]
theorem ev_pe (a : Nat → UInt8) (j n : Nat) (x : UInt8) : ev (n + 1) (peF a j n) x = PE a j n x := by
  induction n with
  | zero => exact ev_one x
  | succ n ih =>
    have hf : Fin0 (peF a j n) (n + 1) := by
      rcases Nat.lt_or_ge j n with h | h
      · exact ((peF_fin a j n).2 h).mono (by omega)
      · exact (peF_fin a j n).1 h
    rw [peF, PE]
    by_cases e : n = j
    · rw [if_pos e, if_pos e, ev_more x hf (by omega), ih]
    · rw [if_neg e, if_neg e]
      have := ev_conv x hf (linF_fin (a n))
      rw [ev_more x (f := conv (peF a j n) (linF (a n))) (n := n + 1 + 1) (m := n + 1 + 2) ((hf.conv (linF_fin (a n))).mono (by omega)) (by omega)] at this
      rw [this, ih, ev_lin, mu_comm]
theorem ev_pe' {a : Nat → UInt8} {j n : Nat} (h : j < n) (x : UInt8) : ev n (peF a j n) x = PE a j n x := by
  rw [← ev_pe]; exact (ev_more x ((peF_fin a j n).2 h) (by omega)).symm
theorem der_lin (x : UInt8) : der (linF x) = cst 1 := by
  funext i
  cases i with
  | zero => rfl
  | succ i =>
    unfold der
    rw [linF_fin x (i + 1 + 1) (by omega), cst_ne (by omega)]
    unfold od; split <;> rfl
/-- a locator's derivative at a point of its own -/
theorem ev_der {a : Nat → UInt8} {j n : Nat} (h : j < n) : ev (n + 2) (der (locF a n)) (a j) = PE a j n (a j) := by
  have hf := (peF_fin a j n).2 h
  rw [peF_mul a h, der_conv, der_lin, conv_comm (peF a j n) (cst 1), one_conv, ev_add]
  have e1 : ev (n + 2) (conv (der (peF a j n)) (linF (a j))) (a j) = 0 := by
    rw [ev_conv (a j) (hf.der.mono (by omega)) (linF_fin (a j)), ev_lin, x_self, mu_zero]
  have e2 : ev (n + 2) (fun i => mu 1 (peF a j n i)) (a j) = ev (n + 2) (peF a j n) (a j) := S_congr fun i _ => by show mu (mu 1 _) _ = _; rw [one_mu]
  rw [e1, e2, zero_x, ev_more (a j) hf (by omega), ev_pe' h]

/-! Syndromes that points make. -/
def syP (a bv : Nat → UInt8) (N l : Nat) : UInt8 := S N (fun i => mu (bv i) (pwr (a i) l))
def geoF (x : UInt8) (m j : Nat) : UInt8 := if j < m then pwr x (m - 1 - j) else 0
theorem lin_geo (x : UInt8) (m j : Nat) : conv (linF x) (geoF x m) j = (if j = m then 1 else 0) ^^^ (if j = 0 then pwr x m else 0) := by
  cases j with
  | zero =>
    rw [lin_conv_zero, if_pos rfl]
    unfold geoF
    cases m with
    | zero => rw [if_neg (by omega), if_pos rfl, mu_zero]; exact (x_self 1).symm
    | succ m => rw [if_pos (by omega), if_neg (by omega), zero_x, Nat.add_sub_cancel, Nat.sub_zero, pwr, mu_comm]
  | succ j =>
    rw [lin_conv_succ, if_neg (show ¬ j + 1 = 0 by omega), x_zero]
    unfold geoF
    by_cases h1 : j + 1 < m
    · rw [if_pos h1, if_pos (by omega), if_neg (by omega), show m - 1 - j = (m - 1 - (j + 1)) + 1 by omega, pwr, mu_comm, x_self]
    · rw [if_neg h1, mu_zero, zero_x]
      by_cases h2 : j + 1 = m
      · rw [if_pos (by omega), if_pos h2, show m - 1 - j = 0 by omega]; rfl
      · rw [if_neg (by omega), if_neg h2]
theorem conv_Sum (f : Nat → UInt8) (n : Nat) (G : Nat → Nat → UInt8) (j : Nat) : conv f (fun i => S n (fun k => G k i)) j = S n (fun k => conv f (G k) j) := by
  unfold conv
  rw [← S_swap]
  exact S_congr fun i _ => mu_S _ _ _
/-- the turned one times all points' locator -/
theorem loc_turn {a bv : Nat → UInt8} {N m : Nat} (j : Nat) : conv (locF a N) (fun i => S N (fun k => mu (bv k) (geoF (a k) m i))) j = S N (fun k => mu (bv k) (shF m (peF a k N) j ^^^ mu (pwr (a k) m) (peF a k N j))) := by
  rw [conv_Sum]
  refine S_congr fun k hk => ?_
  rw [conv_smul]
  show mu (bv k) (conv (locF a N) (geoF (a k) m) j) = _
  congr 1
  have e : conv (linF (a k)) (geoF (a k) m) = addF (shF m (cst 1)) (cst (pwr (a k) m)) := by
    funext i
    rw [lin_geo, addF_at]
    congr 1
    by_cases h : m ≤ i
    · rw [shF_ge h]
      by_cases h2 : i = m
      · rw [if_pos h2, h2, Nat.sub_self, cst_zero]
      · rw [if_neg h2, cst_ne (by omega)]
    · rw [shF_low (by omega), if_neg (by omega)]
  rw [peF_mul a hk, conv_assoc, e, conv_add, addF_at, conv_shF, conv_comm _ (cst 1), one_conv, conv_comm _ (cst (pwr (a k) m)), one_conv]
  congr 1
  unfold shF
  split
  · exact one_mu _
  · rfl

end Go.Proofs.Ytchfonofjbpmaaa.Gf

