/- TEXTS JOINED: SsRow, BkBeq, BkRd, ErHb, ErRd, ErOi. -/
import Derived.Laws.BytesArg
import Derived.Test.YtclieefpnbdbjaaGreatRome2
namespace Go.Proofs.YtclieefpnbdbjaaGreat.Gf
set_option linter.unusedVariables false
set_option linter.unusedSimpArgs false
open Go.RowKit
/-- 'append(s, p...)', s a row of bytes of the call's own, p whatever slice of bytes: and where the row lies then. -/
theorem run_append_rd2 {P : Program} (w : World) (t ty : TypeId) (base : Nat) (e : TypeId) (i : TypeInfo) (ht : P.underlying t = some (.slice e)) (hi : P.info? e = some i) (hz : i.zero = some (.int .u8 0)) (hsize : i.size = 1) (hby : i.bytes = 1)
    (v : Value) (n : Nat) (xs : List Value) (hown : w.ownsRow base e 1 v n xs) (va : Value) (p : List UInt8) (hr : Rd w va p) (hl : n + p.length ≤ 1000000) (hbase : base ≤ w.heap.size) :
    ∃ v' w', (Builtin.append_ #[t, t] ty #[v, va]).run P w = .ok v' w' ∧ w'.ownsRow base e 1 v' (n + p.length) (xs ++ p.map vb) ∧ w.grownBy w' v.ownBlock ∧ (v'.ownBlock = v.ownBlock ∨ v'.ownBlock = some w.heap.size) := by
  rcases hr with ⟨ao, cap, rfl, rfl, hc, hn⟩ | ⟨b, off, cap, hp0, rfl, h1, h2, h3, hpc⟩
  · rcases ao with _ | ad
    · have := hn rfl
      subst this
      exact ⟨v, w, run_append_owned_none (P := P) (w := w) base t ty e i 1 ht hi v n xs hown, by simpa using hown, World.grownBy.refl _ _, Or.inl rfl⟩
    · obtain ⟨v', w', hr, h2, h3, _, h5⟩ := run_append_own_at (P := P) w base t ty e i (.int .u8 0) 1 1 ht hi hz hsize hby rfl (by decide) v n xs hown ad 0 cap [] rfl (by intro j u hj; simp at hj) (by intro u hu; simp at hu) (by unfold maxLen; omega) (by omega) hbase
      exact ⟨v', w', hr, by simpa using h2, h3, h5⟩
  · obtain ⟨v', w', hr, h2, h3, _, h5⟩ := run_append_own_at (P := P) w base t ty e i (.int .u8 0) 1 1 ht hi hz hsize hby rfl (by decide) v n xs hown ⟨b, off, none⟩ p.length cap ((p.take p.length).map vb) (by simp) (news_of hpc) (vb_one _) (by unfold maxLen; omega) (by omega) hbase
    exact ⟨v', w', hr, by simpa using h2, h3, h5⟩
theorem wpList_append_rd2 {P : Program} (w : World) {ops : Array Oper} {rest : List Oper} {o : Oper} {a : Act} {Q : Exit → Act → World → Prop} (hgd : o.guard = none) (s x : Operand) (t : TypeId)
    (ho : o.op = .call { callee := .builtin .append, args := #[s, x], argTypes := #[t, t] })
    (base : Nat) (e : TypeId) (i : TypeInfo) (ht : P.underlying t = some (.slice e)) (hi : P.info? e = some i) (hz : i.zero = some (.int .u8 0)) (hsize : i.size = 1) (hby : i.bytes = 1)
    (v : Value) (n : Nat) (xs : List Value) (hs : a.eval s = v) (hown : w.ownsRow base e 1 v n xs) (va : Value) (p : List UInt8) (hx : a.eval x = va) (hr : Rd w va p) (hl : n + p.length ≤ 1000000) (hbase : base ≤ w.heap.size)
    (h : ∀ v' w', w'.ownsRow base e 1 v' (n + p.length) (xs ++ p.map vb) → w.grownBy w' v.ownBlock → (v'.ownBlock = v.ownBlock ∨ v'.ownBlock = some w.heap.size) → wpList P ops Q rest (a.put o.dst v') w') : wpList P ops Q (o :: rest) a w := by
  refine wpList_plain hgd fun K hK => ?_
  obtain ⟨v', w', hrun, h2, h3, h4⟩ := run_append_rd2 w t o.type base e i ht hi hz hsize hby v n xs hown va p hr hl hbase
  unfold Oper.wp execOp
  simp only [ho, resolve, invoke, builtin, Sem.run_bind, Sem.run_pure, Result.andThen_ok, List.map_toArray, List.map_cons, List.map_nil, hs, hx, hrun]
  exact hK _ _ (h v' w' h2 h3 h4)
def OwnP (w : World) (base u : Nat) (x : Value) (p : List UInt8) : Prop := w.ownsRow base u 1 x p.length (p.map vb)
theorem OwnP.alloc {w : World} {base u : Nat} {x : Value} {p : List UInt8} (h : OwnP w base u x p) (o : Obj) : OwnP (w.alloc o) base u x p := World.ownsRow.alloc h o
theorem Rd.grown {w w' : World} {v : Value} {p : List UInt8} {G : Nat} (h : Rd w v p) (hg : w.grownBy w' (some G)) (ha : Apart G v) : Rd w' v p := by
  rcases h with h | ⟨b, off, cap, h1, h2, h3, h4, h5, h6⟩
  · exact Or.inl h
  · have hb : b ≠ G := by
      rcases ha _ _ _ h2 with e | e
      · exact absurd (List.length_eq_zero_iff.1 e) h1
      · exact e
    exact Or.inr ⟨b, off, cap, h1, h2, h3, h4, Nat.lt_of_lt_of_le h5 hg.size, fun i hi => (hg.cell_far ⟨b, off + i, none⟩ h5 (fun e => hb (by cases e; rfl))).trans (h6 i hi)⟩
end Go.Proofs.YtclieefpnbdbjaaGreat.Gf

namespace Go.Proofs.YtclieefpnbdbjaaGreat.Gf
set_option linter.unusedVariables false
set_option linter.unusedSimpArgs false
open Go.RowKit
theorem conv_str {w : World} {v : Value} {p : List UInt8} (h : Rd w v p) : Sem.run Tryz.prog (convert 42 9 v) w = .ok (.string ⟨p.toArray⟩) w := by
  rcases h with ⟨a, c, rfl, rfl, _⟩ | ⟨b, off, cap, hp0, rfl, h1, h2, h3, hpc⟩
  · rcases a with _ | a
    · kernel_rfl
    · kernel_rfl
  · rw [run_convert_bytes_arg (P := Tryz.prog) w 42 5 Tryz.underlying42 Tryz.underlying5 b off p.length cap (p.map fun x => ((x.toNat : Nat) : Int)) (by simp) (fun i hi => by rw [hpc i hi, co_lt hi]; simp [List.getD, hi]) 9 Tryz.underlying9]
    unfold strOfNums
    congr 4
    rw [List.map_map]
    conv => rhs; rw [← List.map_id p]
    apply List.map_congr_left
    intro b _
    simp
set_option maxRecDepth 100000 in
set_option maxHeartbeats 1000000 in
theorem beq_any {va vb : Value} {p q : List UInt8} {w : World} (hp : Rd w va p) (hq : Rd w vb q) : Calls Tryz.prog 60 #[va, vb] w fun e w' => e = .returned (.bool (sameB p q)) ∧ w' = w := by
  have h1 := conv_str hp
  have h2 := conv_str hq
  obtain ⟨a, c, rfl⟩ := hp.form
  obtain ⟨a', c', rfl⟩ := hq.form
  clear hp hq
  go_enter Tryz.func60, Tryz.ntmps60
  go_wp2
  go_ret
  have e : (p == q) = sameB p q := by unfold sameB; rw [Bool.eq_iff_iff]; simp
  exact ⟨congrArg (fun b => Ending.returned (.bool b)) e, rfl⟩
end Go.Proofs.YtclieefpnbdbjaaGreat.Gf

namespace Go.Proofs.YtclieefpnbdbjaaGreat.Gf
set_option linter.unusedVariables false
set_option linter.unusedSimpArgs false
open Go.RowKit
/-- the shard i -/
def ro (L : List (List UInt8)) (i : Nat) : List UInt8 := L.getD i []
theorem ro_lt {L : List (List UInt8)} {i : Nat} (h : i < L.length) : ro L i = L[i] := by simp [ro, List.getD, h]
theorem ro_some {L : List (List UInt8)} {i : Nat} (h : i < L.length) : L[i]? = some (ro L i) := by rw [ro_lt h]; exact List.getElem?_eq_getElem h
theorem ro_append_left {L M : List (List UInt8)} {i : Nat} (h : i < L.length) : ro (L ++ M) i = ro L i := by simp [ro, List.getD, List.getElem?_append_left h]
theorem ro_append_right {L M : List (List UInt8)} {i : Nat} (h : L.length ≤ i) : ro (L ++ M) i = ro M (i - L.length) := by simp [ro, List.getD, List.getElem?_append_right h]
def Rs (w : World) (v : Value) (L : List (List UInt8)) : Prop :=
  ∃ (a : Option Addr) (cap : Nat), v = .slice a L.length cap ∧ L.length ≤ cap ∧ cap ≤ maxLen ∧ (a = none → cap = 0) ∧
    ∀ i, i < L.length → ∃ (b off : Nat) (x : Value), a = some ⟨b, off, none⟩ ∧ b < w.heap.size ∧ w.cell? ⟨b, off + i, none⟩ = some x ∧ Rd w x (ro L i)
theorem Rs.below {w w' : World} {v : Value} {L : List (List UInt8)} (h : Rs w v L) (hb : Below w.heap.size w w') : Rs w' v L := by
  obtain ⟨a, cap, h1, h2, h3, h4, h5⟩ := h
  refine ⟨a, cap, h1, h2, h3, h4, fun i hi => ?_⟩
  obtain ⟨b, off, x, k1, k2, k3, k4⟩ := h5 i hi
  exact ⟨b, off, x, k1, Nat.lt_of_lt_of_le k2 hb.size, (hb.cell (p := ⟨b, off + i, none⟩) k2).trans k3, k4.below hb⟩
theorem Rs.form {w : World} {v : Value} {L : List (List UInt8)} (h : Rs w v L) : ∃ a c, v = .slice a L.length c := by
  obtain ⟨a, c, e, _⟩ := h
  exact ⟨a, c, e⟩
/-- a shard, as the walk meets it -/
theorem Rs.at {w : World} {a : Option Addr} {n c : Nat} {L : List (List UInt8)} (h : Rs w (.slice a n c) L) {i : Nat} (hi : i < L.length) :
    ∃ (b off : Nat) (xa : Option Addr) (xc : Nat), a = some ⟨b, off, none⟩ ∧ b < w.heap.size ∧ w.cell? ⟨b, off + i, none⟩ = some (.slice xa (ro L i).length xc) ∧ Rd w (.slice xa (ro L i).length xc) (ro L i) := by
  obtain ⟨a', c', e, h1, h2, h3, h4⟩ := h
  simp at e
  obtain ⟨rfl, rfl, rfl⟩ := e
  obtain ⟨b, off, x, k1, k2, k3, k4⟩ := h4 i hi
  obtain ⟨xa, xc, rfl⟩ := k4.form
  exact ⟨b, off, xa, xc, k1, k2, k3, k4⟩
theorem Rd.byte {w : World} {a : Option Addr} {n c : Nat} {p : List UInt8} (h : Rd w (.slice a n c) p) {i : Nat} (hi : i < p.length) : ∃ b off, a = some ⟨b, off, none⟩ ∧ b < w.heap.size ∧ w.cell? ⟨b, off + i, none⟩ = some (.int .u8 ((co p i).toNat : Nat)) := by
  rcases h with ⟨a', c', e, _⟩ | ⟨b, off, cap, _, e, _, _, k, hc⟩
  · subst e; simp at hi
  · simp at e; obtain ⟨rfl, _⟩ := e; exact ⟨b, off, rfl, k, hc i hi⟩
theorem rs_none {w : World} : Rs w (.slice none 0 0) [] := ⟨none, 0, rfl, Nat.le_refl _, Nat.zero_le _, fun _ => rfl, fun i hi => by simp at hi⟩
end Go.Proofs.YtclieefpnbdbjaaGreat.Gf

namespace Go.Proofs.YtclieefpnbdbjaaGreat.Gf
set_option linter.unusedVariables false
set_option linter.unusedSimpArgs false
/-- is the shard i there? -/
def hb (h : List Bool) (i : Nat) : Bool := h.getD i false
end Go.Proofs.YtclieefpnbdbjaaGreat.Gf

namespace Go.Proofs.YtclieefpnbdbjaaGreat.Gf
set_option linter.unusedVariables false
set_option linter.unusedSimpArgs false
open Go.RowKit
def RdB (w : World) (v : Value) (h : List Bool) : Prop :=
  ∃ (a : Option Addr) (cap : Nat), v = .slice a h.length cap ∧ h.length ≤ cap ∧ cap ≤ maxLen ∧ (a = none → cap = 0) ∧ ∀ i, i < h.length → ∃ b off, a = some ⟨b, off, none⟩ ∧ b < w.heap.size ∧ w.cell? ⟨b, off + i, none⟩ = some (.bool (hb h i))
theorem RdB.below {w w' : World} {v : Value} {h : List Bool} (r : RdB w v h) (hb : Below w.heap.size w w') : RdB w' v h := by
  obtain ⟨a, cap, h1, h2, h3, h4, h5⟩ := r
  refine ⟨a, cap, h1, h2, h3, h4, fun i hi => ?_⟩
  obtain ⟨b, off, k1, k2, k3⟩ := h5 i hi
  exact ⟨b, off, k1, Nat.lt_of_lt_of_le k2 hb.size, (hb.cell (p := ⟨b, off + i, none⟩) k2).trans k3⟩
theorem RdB.form {w : World} {v : Value} {h : List Bool} (r : RdB w v h) : ∃ a c, v = .slice a h.length c := by
  obtain ⟨a, c, e, _⟩ := r
  exact ⟨a, c, e⟩
/-- a bool, as the walk meets it -/
theorem RdB.at {w : World} {a : Option Addr} {n c : Nat} {h : List Bool} (r : RdB w (.slice a n c) h) {i : Nat} (hi : i < h.length) : ∃ b off, a = some ⟨b, off, none⟩ ∧ b < w.heap.size ∧ w.cell? ⟨b, off + i, none⟩ = some (.bool (hb h i)) := by
  obtain ⟨a', c', e, h1, h2, h3, h4⟩ := r
  simp at e
  obtain ⟨rfl, rfl, rfl⟩ := e
  exact h4 i hi
theorem rdB_none {w : World} : RdB w (.slice none 0 0) [] := ⟨none, 0, rfl, Nat.le_refl _, Nat.zero_le _, fun _ => rfl, fun i hi => by simp at hi⟩
end Go.Proofs.YtclieefpnbdbjaaGreat.Gf

namespace Go.Proofs.YtclieefpnbdbjaaGreat.Gf
set_option linter.unusedVariables false
set_option linter.unusedSimpArgs false
open Go.RowKit
def vi (z : Nat) : Value := .int .i64 (z : Int)
def toI (zs : List Nat) : List Int := zs.map fun (z : Nat) => (z : Int)
theorem toI_length (zs : List Nat) : (toI zs).length = zs.length := by simp [toI]
theorem toI_getD (zs : List Nat) (i : Nat) : (toI zs).getD i 0 = ((zs.getD i 0 : Nat) : Int) := by
  unfold toI
  by_cases h : i < zs.length
  · simp [List.getD, h]
  · simp [List.getD, Nat.le_of_not_lt h]
/-- a row of places of the call's own -/
def OwnI (w : World) (base e : Nat) (v : Value) (zs : List Nat) : Prop := w.ownsRow base e 1 v zs.length (zs.map vi)
theorem OwnI.form {w : World} {base e : Nat} {v : Value} {zs : List Nat} (h : OwnI w base e v zs) : ∃ a c, v = .slice a zs.length c := owns_form h
theorem OwnI.cell {w : World} {base e : Nat} {a : Option Addr} {n c : Nat} {zs : List Nat} (h : OwnI w base e (.slice a n c) zs) {i : Nat} (hi : i < zs.length) : ∃ g, a = some ⟨g, 0, none⟩ ∧ g < w.heap.size ∧ base ≤ g ∧ w.cell? ⟨g, i, none⟩ = some (.int .i64 ((zs.getD i 0 : Nat) : Int)) := by
  have h' := h
  obtain ⟨_, ⟨e, hn⟩ | ⟨g, cap, cur, e, hg, hh, hc, hm, hs, ht⟩⟩ := h
  · omega
  · simp at e
    obtain ⟨rfl, rfl, rfl⟩ := e
    have hlt := World.ownsRow.lt h' g rfl
    refine ⟨g, rfl, hlt.2, hlt.1, ?_⟩
    rw [World.ownsRow.cellAt h' i (by omega), List.getElem?_map, List.getElem?_eq_getElem hi]
    simp [vi, List.getD, hi]
theorem OwnI.rd {w : World} {base e : Nat} {v : Value} {zs : List Nat} (h : OwnI w base e v zs) (hl : zs.length ≤ 1000000) : RdI w v (toI zs) := by
  obtain ⟨a, c, rfl⟩ := h.form
  by_cases h0 : zs = []
  · subst h0; exact Or.inl ⟨a, c, rfl, rfl⟩
  · have hpos : 0 < zs.length := List.length_pos_iff.2 h0
    obtain ⟨g, rfl, hg, _, _⟩ := h.cell hpos
    refine Or.inr ⟨g, 0, c, fun e => h0 (by unfold toI at e; simpa using e), by rw [toI_length], by rw [toI_length]; unfold maxLen; omega, hg, fun i hi => ?_⟩
    rw [toI_length] at hi
    obtain ⟨g', e, _, _, hc⟩ := h.cell hi
    simp at e
    subst e
    rw [Nat.zero_add, hc, toI_getD]
theorem OwnI.nil (w : World) (base e : Nat) : OwnI w base e (.slice none 0 0) [] := World.ownsRow_nil _ _ _ _
/-- 'append(s, x)' on places of the call's own, x laid as a list of one -/
theorem wpList_append_int {P : Program} {wr : World} {ops : Array Oper} {rest : List Oper} {o : Oper} {a : Act} {Q : Exit → Act → World → Prop} (hgd : o.guard = none) (s xo : Operand) (t : TypeId)
    (ho : o.op = .call { callee := .builtin .append, args := #[s, xo], argTypes := #[t, t] })
    (base e : Nat) (i : TypeInfo) (ht : P.underlying t = some (.slice e)) (hi : P.info? e = some i) (hz : i.zero = some (.int .i64 0)) (hsize : i.size = 1) (hby : i.bytes = 8)
    (v : Value) (zs : List Nat) (hs : a.eval s = v) (hO : OwnI wr base e v zs) (z : Nat) (et c : Nat) (hxo : a.eval xo = .slice (some ⟨wr.heap.size, 0, none⟩) 1 c) (hl : zs.length ≤ 100000) (hbase : base ≤ wr.heap.size)
    (h : ∀ v' w2, OwnI w2 base e v' (zs ++ [z]) → Below base wr w2 → wpList P ops Q rest (a.put o.dst v') w2) : wpList P ops Q (o :: rest) a (wr.alloc (.cells #[.int .i64 (z : Int)] et)) := by
  refine wpList_plain hgd fun K hK => ?_
  obtain ⟨v', w', hrun, h2, h3, _, h5⟩ := run_append_own_at (P := P) (wr.alloc (.cells #[.int .i64 (z : Int)] et)) base t o.type e i (.int .i64 0) 1 8 ht hi hz hsize hby rfl (by decide) v zs.length (zs.map vi) (World.ownsRow.alloc hO _) ⟨wr.heap.size, 0, none⟩ 1 c [vi z] rfl (by intro j y hj; rw [add_at, Nat.zero_add]; rcases j with _ | j <;> simp at hj; subst hj; simp [vi]) (by intro y hy; simp at hy; rw [hy]; rfl) (by unfold maxLen; omega) (by omega) (by simp; omega)
  unfold Oper.wp execOp
  simp only [ho, resolve, invoke, builtin, Sem.run_bind, Sem.run_pure, Result.andThen_ok, List.map_toArray, List.map_cons, List.map_nil, hs, hxo, hrun]
  refine hK _ _ (h v' w' ?_ ?_)
  · unfold OwnI
    rw [List.length_append, List.map_append]
    exact h2
  · exact ((Below.refl base wr).alloc hbase _).grown h3 (by simp; omega) (fun q hq => (World.ownsRow.lt hO q hq).1)
end Go.Proofs.YtclieefpnbdbjaaGreat.Gf
