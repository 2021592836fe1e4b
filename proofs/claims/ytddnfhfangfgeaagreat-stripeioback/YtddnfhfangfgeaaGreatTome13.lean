/- TEXTS JOINED: ErMath, ErRd, ErOwn, ErOut, SyMath, SyCA. -/
import Derived.Test.YtddnfhfangfgeaaGreatChecked
import GoSem.Claim
import GoSem.ClaimJoined
import GoSem.ClaimMapViews
import Derived.JoinedTies
import Derived.KernelRfl
import Derived.WalkKit
import Derived.Deep.QuietTactic
import Derived.BigQuiet
import Derived.WalkLawsBesides
import Derived.WalkSpells
import Derived.OpenShut
import Derived.Deep.AppendLies
import Derived.Laws.CopyOwn
import Derived.Laws.AppendOwnNone
import Derived.Deep.RegionHeld3
import Derived.Test.YtddnfhfangfgeaaGreatRows
import Derived.Test.YtddnfhfangfgeaaGreatTome10
import Derived.Test.YtddnfhfangfgeaaGreatTome2
import Derived.Test.YtddnfhfangfgeaaGreatTome6
import Derived.Test.YtddnfhfangfgeaaGreatTome9
import Derived.Test.YtddnfhfangfgeaaGreatTome1
import Derived.Test.YtddnfhfangfgeaaGreatTome3
namespace Go.Proofs.YtddnfhfangfgeaaGreat.Gf
set_option linter.unusedVariables false
set_option linter.unusedSimpArgs false
open Go.RowKit
/-- is the shard i there? -/
def hb (h : List Bool) (i : Nat) : Bool := h.getD i false
theorem hb_ge {h : List Bool} {i : Nat} (hi : h.length ≤ i) : hb h i = false := by simp [hb, List.getD, hi]
/-- of those that are there all are of one length -/
def EvenH (h : List Bool) (L : List (List UInt8)) : Prop := ∀ i j, hb h i = true → hb h j = true → (ro L i).length = (ro L j).length
end Go.Proofs.YtddnfhfangfgeaaGreat.Gf

namespace Go.Proofs.YtddnfhfangfgeaaGreat.Gf
set_option linter.unusedVariables false
set_option linter.unusedSimpArgs false
open Go.RowKit
def RdB (w : World) (v : Value) (h : List Bool) : Prop :=
  ∃ (a : Option Addr) (cap : Nat), v = .slice a h.length cap ∧ h.length ≤ cap ∧ cap ≤ maxLen ∧ (a = none → cap = 0) ∧ ∀ i, i < h.length → ∃ b off, a = some ⟨b, off, none⟩ ∧ b < w.heap.size ∧ w.cell? ⟨b, off + i, none⟩ = some (.bool (hb h i))
theorem RdB.below {w w' : World} {v : Value} {h : List Bool} (r : RdB w v h) (hb : Below w.heap.size w w') : RdB w' v h := by
  obtain ⟨a, cap, h1, h2, h3, h4, h5⟩ := r
  refine ⟨a, cap, h1, h2, h3, h4, fun i hi => ?_⟩
  obtain ⟨b, off, k1, k2, k3⟩ := h5 i hi
  exact ⟨b, off, k1, Nat.lt_of_lt_of_le k2 hb.size, (hb.cell (p := ⟨b, off + i, none⟩) k2).trans k3⟩
theorem RdB.form {w : World} {v : Value} {h : List Bool} (r : RdB w v h) : ∃ a c, v = .slice a h.length c := by
  obtain ⟨a, c, e, _⟩ := r
  exact ⟨a, c, e⟩
/-- a bool, as the walk meets it -/
theorem RdB.at {w : World} {a : Option Addr} {n c : Nat} {h : List Bool} (r : RdB w (.slice a n c) h) {i : Nat} (hi : i < h.length) : ∃ b off, a = some ⟨b, off, none⟩ ∧ b < w.heap.size ∧ w.cell? ⟨b, off + i, none⟩ = some (.bool (hb h i)) := by
  obtain ⟨a', c', e, h1, h2, h3, h4⟩ := r
  simp at e
  obtain ⟨rfl, rfl, rfl⟩ := e
  exact h4 i hi
/-- a literal of bools -/
theorem rdB_lit {w : World} {n b : Nat} {cs : Array Value} {e : Nat} (h : List Bool) (hb0 : b = w.heap.size) (hn : h.length = n) (hs : cs.toList = h.map Value.bool) (hl : n ≤ 1000000) : RdB (w.alloc (.cells cs e)) (.slice (some ⟨b, 0, none⟩) n n) h := by
  subst hb0 hn
  refine ⟨some ⟨w.heap.size, 0, none⟩, h.length, rfl, Nat.le_refl _, by unfold maxLen; omega, nofun, fun i hi => ⟨w.heap.size, 0, rfl, by simp, ?_⟩⟩
  rw [Nat.zero_add, World.cell?_alloc_new, ← Array.getElem?_toList, hs, List.getElem?_map, List.getElem?_eq_getElem hi]
  simp [hb, List.getD, hi]
end Go.Proofs.YtddnfhfangfgeaaGreat.Gf

namespace Go.Proofs.YtddnfhfangfgeaaGreat.Gf
set_option linter.unusedVariables false
set_option linter.unusedSimpArgs false
open Go.RowKit
def vi (z : Nat) : Value := .int .i64 (z : Int)
def toI (zs : List Nat) : List Int := zs.map fun (z : Nat) => (z : Int)
theorem toI_length (zs : List Nat) : (toI zs).length = zs.length := by simp [toI]
theorem toI_getD (zs : List Nat) (i : Nat) : (toI zs).getD i 0 = ((zs.getD i 0 : Nat) : Int) := by
  unfold toI
  by_cases h : i < zs.length
  · simp [List.getD, h]
  · simp [List.getD, Nat.le_of_not_lt h]
/-- a row of places of the call's own -/
def OwnI (w : World) (base e : Nat) (v : Value) (zs : List Nat) : Prop := w.ownsRow base e 1 v zs.length (zs.map vi)
theorem OwnI.form {w : World} {base e : Nat} {v : Value} {zs : List Nat} (h : OwnI w base e v zs) : ∃ a c, v = .slice a zs.length c := owns_form h
theorem OwnI.cell {w : World} {base e : Nat} {a : Option Addr} {n c : Nat} {zs : List Nat} (h : OwnI w base e (.slice a n c) zs) {i : Nat} (hi : i < zs.length) : ∃ g, a = some ⟨g, 0, none⟩ ∧ g < w.heap.size ∧ base ≤ g ∧ w.cell? ⟨g, i, none⟩ = some (.int .i64 ((zs.getD i 0 : Nat) : Int)) := by
  have h' := h
  obtain ⟨_, ⟨e, hn⟩ | ⟨g, cap, cur, e, hg, hh, hc, hm, hs, ht⟩⟩ := h
  · omega
  · simp at e
    obtain ⟨rfl, rfl, rfl⟩ := e
    have hlt := World.ownsRow.lt h' g rfl
    refine ⟨g, rfl, hlt.2, hlt.1, ?_⟩
    rw [World.ownsRow.cellAt h' i (by omega), List.getElem?_map, List.getElem?_eq_getElem hi]
    simp [vi, List.getD, hi]
theorem OwnI.rd {w : World} {base e : Nat} {v : Value} {zs : List Nat} (h : OwnI w base e v zs) (hl : zs.length ≤ 1000000) : RdI w v (toI zs) := by
  obtain ⟨a, c, rfl⟩ := h.form
  by_cases h0 : zs = []
  · subst h0; exact Or.inl ⟨a, c, rfl, rfl⟩
  · have hpos : 0 < zs.length := List.length_pos_iff.2 h0
    obtain ⟨g, rfl, hg, _, _⟩ := h.cell hpos
    refine Or.inr ⟨g, 0, c, fun e => h0 (by unfold toI at e; simpa using e), by rw [toI_length], by rw [toI_length]; unfold maxLen; omega, hg, fun i hi => ?_⟩
    rw [toI_length] at hi
    obtain ⟨g', e, _, _, hc⟩ := h.cell hi
    simp at e
    subst e
    rw [Nat.zero_add, hc, toI_getD]
theorem OwnI.nil (w : World) (base e : Nat) : OwnI w base e (.slice none 0 0) [] := World.ownsRow_nil _ _ _ _
/-- a slice of places, as the walk meets it -/
theorem RdI.at {w : World} {a : Option Addr} {n c : Nat} {zs : List Int} (h : RdI w (.slice a n c) zs) {i : Nat} (hi : i < zs.length) : ∃ b off, a = some ⟨b, off, none⟩ ∧ b < w.heap.size ∧ w.cell? ⟨b, off + i, none⟩ = some (.int .i64 (zs.getD i 0)) := by
  rcases h with ⟨_, _, e, _⟩ | ⟨b, off, cap, _, e, _, hb, hc⟩
  · subst e; simp at hi
  · simp at e
    obtain ⟨rfl, rfl, rfl⟩ := e
    exact ⟨b, off, rfl, hb, hc i hi⟩
/-- 'append(s, x)' on places of the call's own, x laid as a list of one -/
theorem wpList_append_int {P : Program} {wr : World} {ops : Array Oper} {rest : List Oper} {o : Oper} {a : Act} {Q : Exit → Act → World → Prop} (hgd : o.guard = none) (s xo : Operand) (t : TypeId)
    (ho : o.op = .call { callee := .builtin .append, args := #[s, xo], argTypes := #[t, t] })
    (base e : Nat) (i : TypeInfo) (ht : P.underlying t = some (.slice e)) (hi : P.info? e = some i) (hz : i.zero = some (.int .i64 0)) (hsize : i.size = 1) (hby : i.bytes = 8)
    (v : Value) (zs : List Nat) (hs : a.eval s = v) (hO : OwnI wr base e v zs) (z : Nat) (et c : Nat) (hxo : a.eval xo = .slice (some ⟨wr.heap.size, 0, none⟩) 1 c) (hl : zs.length ≤ 100000) (hbase : base ≤ wr.heap.size)
    (h : ∀ v' w2, OwnI w2 base e v' (zs ++ [z]) → Below base wr w2 → wpList P ops Q rest (a.put o.dst v') w2) : wpList P ops Q (o :: rest) a (wr.alloc (.cells #[.int .i64 (z : Int)] et)) := by
  refine wpList_plain hgd fun K hK => ?_
  obtain ⟨v', w', hrun, h2, h3, _, h5⟩ := run_append_own_at (P := P) (wr.alloc (.cells #[.int .i64 (z : Int)] et)) base t o.type e i (.int .i64 0) 1 8 ht hi hz hsize hby rfl (by decide) v zs.length (zs.map vi) (World.ownsRow.alloc hO _) ⟨wr.heap.size, 0, none⟩ 1 c [vi z] rfl (by intro j y hj; rw [add_at, Nat.zero_add]; rcases j with _ | j <;> simp at hj; subst hj; simp [vi]) (by intro y hy; simp at hy; rw [hy]; rfl) (by unfold maxLen; omega) (by omega) (by simp; omega)
  unfold Oper.wp execOp
  simp only [ho, resolve, invoke, builtin, Sem.run_bind, Sem.run_pure, Result.andThen_ok, List.map_toArray, List.map_cons, List.map_nil, hs, hxo, hrun]
  refine hK _ _ (h v' w' ?_ ?_)
  · unfold OwnI
    rw [List.length_append, List.map_append]
    exact h2
  · exact ((Below.refl base wr).alloc hbase _).grown h3 (by simp; omega) (fun q hq => (World.ownsRow.lt hO q hq).1)
end Go.Proofs.YtddnfhfangfgeaaGreat.Gf

namespace Go.Proofs.YtddnfhfangfgeaaGreat.Gf
set_option linter.unusedVariables false
set_option linter.unusedSimpArgs false
open Go.RowKit
/-- bools of the call's own: the first n of f -/
def BoolF (w : World) (base e g n : Nat) (f : Nat → Bool) : Prop := w.ownsRow base e 1 (.slice (some ⟨g, 0, none⟩) n n) n ((List.range n).map fun i => Value.bool (f i))
theorem BoolF.made {w : World} {base e g n : Nat} (h : w.ownsRow base e 1 (.slice (some ⟨g, 0, none⟩) n n) n (madeCells (Value.cells (.bool false)) (n * 1)).toList) : BoolF w base e g n (fun _ => false) := by
  unfold BoolF
  have e1 : (madeCells (Value.cells (.bool false)) (n * 1)).toList = List.replicate n (.bool false) := by
    rw [Nat.mul_one]; exact toList_madeCells_one _ _
  rw [e1] at h
  have e2 : (List.range n).map (fun _ => Value.bool false) = List.replicate n (.bool false) := by
    rw [List.map_const']; simp
  rw [e2]; exact h
theorem BoolF.cell {w : World} {base e g n : Nat} {f : Nat → Bool} (h : BoolF w base e g n f) {j : Nat} (hj : j < n) : w.cell? ⟨g, j, none⟩ = some (.bool (f j)) := by
  rw [World.ownsRow.cellAt h j (by omega), List.getElem?_map, List.getElem?_range hj]; rfl
theorem BoolF.free {w : World} {base e g n : Nat} {f : Nat → Bool} (h : BoolF w base e g n f) (j : Nat) : w.frozen? ⟨g, j, none⟩ = false := World.ownsRow.frozenAt h j
theorem BoolF.lt {w : World} {base e g n : Nat} {f : Nat → Bool} (h : BoolF w base e g n f) : base ≤ g ∧ g < w.heap.size := World.ownsRow.lt h g rfl
theorem BoolF.store {w : World} {base e g n : Nat} {f f' : Nat → Bool} (h : BoolF w base e g n f) {j : Nat} (hj : j < n) (x : Bool) (hf : ∀ t, t < n → f' t = if t = j then x else f t) : BoolF (w.setCell ⟨g, j, none⟩ (.bool x)) base e g n f' := by
  have e1 := (World.ownsRow.stored h j (.bool x)).1
  unfold BoolF
  have e2 : ((List.range n).map fun i => Value.bool (f i)).set j (.bool x) = (List.range n).map fun i => Value.bool (f' i) := by
    refine List.ext_getElem (by simp) fun t h1 h2 => ?_
    simp at h2
    rw [List.getElem_set]
    by_cases e : t = j
    · subst e; simp [hf t h2]
    · rw [if_neg fun h : j = t => e h.symm]; simp [hf t h2, e]
  rw [← e2]; exact e1
theorem BoolF.rdB {w : World} {base e g n : Nat} {f : Nat → Bool} (h : BoolF w base e g n f) (hn : n ≤ 1000000) : RdB w (.slice (some ⟨g, 0, none⟩) n n) ((List.range n).map f) := by
  have hl : ((List.range n).map f).length = n := by simp
  refine ⟨some ⟨g, 0, none⟩, n, by rw [hl], by rw [hl]; exact Nat.le_refl _, by unfold maxLen; omega, nofun, fun i hi => ?_⟩
  rw [hl] at hi
  refine ⟨g, 0, rfl, h.lt.2, ?_⟩
  rw [Nat.zero_add, h.cell hi]
  simp [hb, List.getD, hi]
end Go.Proofs.YtddnfhfangfgeaaGreat.Gf

namespace Go.Proofs.YtddnfhfangfgeaaGreat.Gf
set_option linter.unusedVariables false
set_option linter.unusedSimpArgs false
/-- the product of the sums of the point i and the first n parity points, but i itself -/
def wpd (k i : Nat) : Nat → UInt8
  | 0 => 1
  | n + 1 => if k + n = i then wpd k i n else mu (wpd k i n) (pt i ^^^ pt (k + n))
theorem wpd_self {k i n : Nat} (h : k + n = i) : wpd k i (n + 1) = wpd k i n := by rw [wpd, if_pos h]
theorem wpd_next {k i n : Nat} (h : k + n ≠ i) : wpd k i (n + 1) = mu (wpd k i n) (pt i ^^^ pt (k + n)) := by rw [wpd, if_neg h]
theorem wpd_ne {k i n : Nat} (hk : k + n ≤ 256) (hi : i < 256) : wpd k i n ≠ 0 := by
  induction n with
  | zero => exact (by decide : (1 : UInt8) ≠ 0)
  | succ n ih =>
    have h := ih (by omega)
    by_cases e : k + n = i
    · rw [wpd_self e]; exact h
    · rw [wpd_next e]; exact mu_ne h (pt_ne hi (by omega) (fun x => e x.symm))
/-- the weight of the shard i -/
def wtF (k m i : Nat) : UInt8 := iv (wpd k i m)
theorem wiv_ne {a : UInt8} (h : a ≠ 0) : iv a ≠ 0 := fun e => by
  have := mu_iv h
  rw [e, mu_zero] at this
  cases this
theorem wtF_ne {k m i : Nat} (h : k + m ≤ 256) (hi : i < 256) : wtF k m i ≠ 0 := wiv_ne (wpd_ne h hi)
/-- a number times a point's powers, as it goes on -/
def nmF (a p : UInt8) : Nat → UInt8
  | 0 => a
  | n + 1 => mu (nmF a p n) p
theorem nmF_pwr (a p : UInt8) (n : Nat) : nmF a p n = mu a (nmF 1 p n) := by
  induction n with
  | zero => exact (mu_one a).symm
  | succ n ih => rw [nmF, ih, nmF, mu_assoc]
/-- the syndrome of l -/
def synF (k m : Nat) (z : Nat → UInt8) (l : Nat) : UInt8 := S (k + m) (fun i => mu (mu (z i) (wtF k m i)) (nmF 1 (pt i) l))
theorem synF_congr {k m l : Nat} {z y : Nat → UInt8} (h : ∀ i, i < k + m → z i = y i) : synF k m z l = synF k m y l := S_congr fun i hi => by rw [h i hi]
theorem synF_add {k m l : Nat} {z y x : Nat → UInt8} (h : ∀ i, i < k + m → x i = z i ^^^ y i) : synF k m x l = synF k m z l ^^^ synF k m y l := by
  unfold synF
  rw [← S_xor]
  exact S_congr fun i hi => by rw [h i hi, xor_mu, xor_mu]
theorem PF.mono' {k n : Nat} {f : UInt8 → UInt8} (h : PF k f) (hn : k ≤ n) : PF n f := by
  induction n with
  | zero => rw [Nat.le_zero.1 hn] at h; exact h
  | succ n ih =>
    by_cases e : k = n + 1
    · rw [← e]; exact h
    · exact (ih (by omega)).mono
theorem nm_PF (l : Nat) : PF (l + 1) (fun z => nmF 1 z l) := by
  induction l with
  | zero => exact PF.const 1
  | succ l ih => exact ⟨0, _, ih, fun z => by rw [zero_x]; exact mu_comm _ _⟩
/-- a polynomial's numbers -/
theorem PF.coef {k : Nat} {f : UInt8 → UInt8} (h : PF k f) : ∃ c : Nat → UInt8, ∀ z, f z = S k (fun l => mu (c l) (nmF 1 z l)) := by
  induction k generalizing f with
  | zero => exact ⟨fun _ => 0, h⟩
  | succ k ih =>
    obtain ⟨a, g, hg, hz⟩ := h
    obtain ⟨c, hc⟩ := ih hg
    refine ⟨fun l => if l = 0 then a else c (l - 1), fun z => ?_⟩
    rw [S_head, hz z, hc z, mu_S]
    congr 1
    · show a = mu (if (0 : Nat) = 0 then a else _) (nmF 1 z 0)
      rw [if_pos rfl]; exact (mu_one a).symm
    · refine S_congr fun l hl => ?_
      show mu z (mu (c l) (nmF 1 z l)) = mu (if l + 1 = 0 then a else c (l + 1 - 1)) (nmF 1 z (l + 1))
      rw [if_neg (by omega), Nat.add_sub_cancel, nmF, mu_left, mu_comm z]
/-- .. so a word without syndromes is nought with each of them -/
theorem syn_poly {k m : Nat} {z : Nat → UInt8} (h : ∀ l, l < m → synF k m z l = 0) {g : UInt8 → UInt8} (hg : PF m g) : S (k + m) (fun i => mu (mu (z i) (wtF k m i)) (g (pt i))) = 0 := by
  obtain ⟨c, hc⟩ := hg.coef
  have e1 : S (k + m) (fun i => mu (mu (z i) (wtF k m i)) (g (pt i))) = S (k + m) (fun i => S m (fun l => mu (c l) (mu (mu (z i) (wtF k m i)) (nmF 1 (pt i) l)))) :=
    S_congr fun i hi => by rw [hc, mu_S]; exact S_congr fun l hl => mu_left _ _ _
  rw [e1, S_swap]
  refine S_zero fun l hl => ?_
  rw [← mu_S]
  have := h l hl
  unfold synF at this
  rw [this, mu_zero]
/-- the parity points -/
def qp (k n : Nat) : UInt8 := pt (k + n)
theorem wpd_data {k j n : Nat} (hj : j < k) : wpd k j n = PD (qp k) n (pt j) := by
  induction n with
  | zero => rfl
  | succ n ih => rw [wpd_next (by omega), ih, PD, mu_comm]; rfl
theorem wpd_par {k i n : Nat} : wpd k (k + i) n = PE (qp k) i n (pt (k + i)) := by
  induction n with
  | zero => rfl
  | succ n ih =>
    by_cases e : n = i
    · rw [wpd_self (by omega), ih, PE, if_pos e]
    · rw [wpd_next (by omega), ih, PE, if_neg e, mu_comm]; rfl
theorem PD_ne {k j n : Nat} (hj : j < k) (h : k + n ≤ 256) : PD (qp k) n (pt j) ≠ 0 := by rw [← wpd_data hj]; exact wpd_ne h (by omega)
/-- a data shard's weight times all parity points but one's polynomial -/
theorem wt_data {k m j i : Nat} (hj : j < k) (hi : i < m) (h : k + m ≤ 256) : mu (wtF k m j) (PE (qp k) i m (pt j)) = parF k i j := by
  unfold wtF parF
  have hne : pt j ^^^ pt (k + i) ≠ 0 := pt_ne (by omega) (by omega) (by omega)
  have e1 : PD (qp k) m (pt j) = mu (pt j ^^^ pt (k + i)) (PE (qp k) i m (pt j)) := (PE_mul (qp k) hi (pt j)).symm
  have hD := PD_ne (n := m) hj h
  have hE : PE (qp k) i m (pt j) ≠ 0 := fun e => hD (by rw [e1, e, mu_zero])
  rw [wpd_data hj, x_comm (pt (k + i))]
  have h1 := mu_iv hD
  have h2 := mu_iv hne
  -- both are the number whose product with the sum is 1
  have h3 : mu (pt j ^^^ pt (k + i)) (mu (iv (PD (qp k) m (pt j))) (PE (qp k) i m (pt j))) = 1 := by
    rw [mu_left, ← e1, mu_comm]; exact h1
  have h4 := congrArg (mu (iv (pt j ^^^ pt (k + i)))) h3
  rw [← mu_assoc, mu_comm (iv _) (pt j ^^^ _), h2, one_mu, mu_one] at h4
  exact h4
theorem wt_par {k m i : Nat} (hi : i < m) (h : k + m ≤ 256) : mu (wtF k m (k + i)) (PE (qp k) i m (pt (k + i))) = 1 := by
  unfold wtF
  rw [wpd_par, mu_comm]
  exact mu_iv (by rw [← wpd_par]; exact wpd_ne h (by omega))
/-- a polynomial out of its values at the parity points -/
theorem lagrange {k m : Nat} (h : k + m ≤ 256) {g : UInt8 → UInt8} (hg : PF m g) (z : UInt8) : g z = S m (fun i => mu (mu (g (qp k i)) (wtF k m (k + i))) (PE (qp k) i m z)) := by
  have hf : PF m (fun z => g z ^^^ S m (fun i => mu (mu (g (qp k i)) (wtF k m (k + i))) (PE (qp k) i m z))) :=
    hg.add (PF.sum fun i hi => ((PE_deg (qp k) i m).1 hi).smul _)
  have := hf.roots (qp k) (fun i j hi hj hij e => hij (by have := pt_inj (by omega) (by omega) e; omega)) (fun n hn => ?_)
  · exact x_eq_zero.1 (this z)
  · show g (qp k n) ^^^ S m (fun i => mu (mu (g (qp k i)) (wtF k m (k + i))) (PE (qp k) i m (qp k n))) = 0
    rw [S_one hn (fun i hi hne => by rw [PE_other (qp k) hn (fun e => hne e.symm), mu_zero])]
    have e := wt_par (k := k) hn h
    show g (qp k n) ^^^ mu (mu (g (qp k n)) (wtF k m (k + n))) (PE (qp k) n m (pt (k + n))) = 0
    rw [mu_assoc, e, mu_one, x_self]
/-- .. and a word whose parity is that of its data has none -/
theorem par_syn {k m : Nat} {z : Nat → UInt8} (h : k + m ≤ 256) (hz : ∀ i, i < m → z (k + i) = S k (fun j => mu (parF k i j) (z j))) {l : Nat} (hl : l < m) : synF k m z l = 0 := by
  unfold synF
  rw [S_split]
  have hg : PF m (fun z => nmF 1 z l) := (nm_PF l).mono' (by omega)
  have e1 : S k (fun j => mu (mu (z j) (wtF k m j)) (nmF 1 (pt j) l)) = S m (fun i => mu (mu (z (k + i)) (wtF k m (k + i))) (nmF 1 (pt (k + i)) l)) := by
    have a1 : S k (fun j => mu (mu (z j) (wtF k m j)) (nmF 1 (pt j) l)) = S k (fun j => S m (fun i => mu (mu (nmF 1 (pt (k + i)) l) (wtF k m (k + i))) (mu (parF k i j) (z j)))) := S_congr fun j hj => by
      have := lagrange h hg (pt j)
      rw [this, mu_S]
      refine S_congr fun i hi => ?_
      rw [← wt_data hj hi h]
      show mu (mu (z j) (wtF k m j)) (mu (mu (nmF 1 (pt (k + i)) l) (wtF k m (k + i))) (PE (qp k) i m (pt j))) = _
      rw [mu_left, mu_assoc (z j), mu_comm (z j)]
    rw [a1, S_swap]
    refine S_congr fun i hi => ?_
    rw [← mu_S, ← hz i hi]
    simp only [mu_assoc, mu_comm, mu_left]
  rw [e1, x_self]
end Go.Proofs.YtddnfhfangfgeaaGreat.Gf

namespace Go.Proofs.YtddnfhfangfgeaaGreat.Gf
set_option linter.unusedVariables false
set_option linter.unusedSimpArgs false
open Go.RowKit
/-- what 'weighing' lays: its three variables -/
structure Wg8 (w : World) (b fb kb mb : Nat) (k m : Int) : Prop where
  cf : w.cell? ⟨fb, 0, none⟩ = some (.pointer (some ⟨b, 0, none⟩))
  ck : w.cell? ⟨kb, 0, none⟩ = some (.int .i64 k)
  cm : w.cell? ⟨mb, 0, none⟩ = some (.int .i64 m)
  lf : fb < w.heap.size
  lk : kb < w.heap.size
  lm : mb < w.heap.size
theorem Wg8.below {w w' : World} {b fb kb mb : Nat} {k m : Int} (h : Wg8 w b fb kb mb k m) (hb : Below w.heap.size w w') : Wg8 w' b fb kb mb k m :=
  ⟨(hb.cell (p := ⟨fb, 0, none⟩) h.lf).trans h.cf, (hb.cell (p := ⟨kb, 0, none⟩) h.lk).trans h.ck, (hb.cell (p := ⟨mb, 0, none⟩) h.lm).trans h.cm, Nat.lt_of_lt_of_le h.lf hb.size, Nat.lt_of_lt_of_le h.lk hb.size, Nat.lt_of_lt_of_le h.lm hb.size⟩
set_option maxRecDepth 100000 in
set_option maxHeartbeats 1000000 in
theorem wg_any {b : Nat} {k m : Int} (w : World) : Calls Tryz.prog 164 #[.pointer (some ⟨b, 0, none⟩), .int .i64 k, .int .i64 m] w fun e w' =>
    ∃ fb kb mb, e = .returned (.func (.func 191) #[] #[.pointer (some ⟨kb, 0, none⟩), .pointer (some ⟨mb, 0, none⟩), .pointer (some ⟨fb, 0, none⟩)]) ∧ Wg8 w' b fb kb mb k m ∧ Below w.heap.size w w' := by
  go_enter Tryz.func164, Tryz.ntmps164
  go_wp2
  go_ret
  refine ⟨w.heap.size, w.heap.size + 1, w.heap.size + 1 + 1, rfl, ⟨by go_simp, by go_simp, by go_simp, by simp <;> omega, by simp <;> omega, by simp <;> omega⟩, by repeat (first | exact Below.refl _ _ | apply below_lit)⟩
set_option maxRecDepth 100000 in
set_option maxHeartbeats 2000000 in
/-- the weight of the shard i -/
theorem wg1_any {w : World} {b fb kb mb k m i : Nat} (hF : FieldAt w b) (hW : Wg8 w b fb kb mb (k : Int) (m : Int)) (hkm : k + m ≤ 256) (hi : i < 256) {x : Int} (hx : x = (i : Int)) :
    Calls Tryz.prog 191 #[.int .i64 x, .pointer (some ⟨kb, 0, none⟩), .pointer (some ⟨mb, 0, none⟩), .pointer (some ⟨fb, 0, none⟩)] w fun e w' => e = .returned (.int .u8 ((wtF k m i).toNat : Nat)) ∧ ∃ n, w' = w.drewN n := by
  subst hx
  obtain ⟨cf, ck, cm, _, _, _⟩ := hW
  obtain ⟨s, hs⟩ : ∃ s, Hid (s = k + m) := ⟨_, rfl⟩
  have g0 : (k : Int) + (m : Int) = (s : Int) := by have := hs.out; omega
  have hs2 : s ≤ 256 := by have := hs.out; omega
  have gw : IntKind.i64.wrap (s : Int) = (s : Int) := by rw [IntKind.wrap_i64]; omega
  have hks : k ≤ s := by have := hs.out; omega
  clear hkm
  go_enter Tryz.func191, Tryz.ntmps191
  go_wp2
  go_loopw [6, 7] (fun p v wr => ∃ t : Nat, k ≤ t ∧ t ≤ s ∧ v = .int .i64 t ∧ p = .int .u8 ((wpd k i (t - k)).toNat : Nat) ∧ ∃ nd, wr = w.drewN nd) (fun _ v _ => s - (intOf v).toNat)
  case atStart => exact ⟨k, by omega, by omega, rfl, by rw [Nat.sub_self]; rfl, 0, rfl⟩
  case round =>
    obtain ⟨t, h1, h2, rfl, rfl, nd, hd0⟩ := hrel
    have hd : Hid (wr = w.drewN nd) := hd0
    have hFr : FieldAt wr b := by rw [hd0]; exact hF.drewN nd
    have cfr : wr.cell? ⟨fb, 0, none⟩ = some (.pointer (some ⟨b, 0, none⟩)) := by rw [hd0]; exact cf
    have ckr : wr.cell? ⟨kb, 0, none⟩ = some (.int .i64 (k : Int)) := by rw [hd0]; exact ck
    have cmr : wr.cell? ⟨mb, 0, none⟩ = some (.int .i64 (m : Int)) := by rw [hd0]; exact cm
    clear hd0 hF cf ck cm
    by_cases hlt : t < s
    · have hlt' : (t : Int) < (s : Int) := by omega
      by_cases e : t = i
      · have hn : ((t : Int) != (i : Int)) = false := by simp [e]
        have HP : Hid (wpd k i (t + 1 - k) = wpd k i (t - k)) := by
          show _ = _
          rw [show t + 1 - k = (t - k) + 1 by omega, wpd_self (by omega)]
        clear e
        go_wp2
        go_roundw
        case rel => exact ⟨t + 1, by omega, by omega, by go_num, by rw [HP.out], nd, by first | exact hd.out | rfl⟩
        case measure => simp [intOf]; omega
      · have hn : ((t : Int) != (i : Int)) = true := by simp; omega
        have ht2 : t < 256 := by omega
        have m1 : (t : Int) % 256 = (t : Int) := by omega
        have m2 : (i : Int) % 256 = (i : Int) := by omega
        have X := pt_xor hi ht2
        have HP : Hid (wpd k i (t + 1 - k) = mu (wpd k i (t - k)) (pt i ^^^ pt t)) := by
          show _ = _
          rw [show t + 1 - k = (t - k) + 1 by omega, wpd_next (by omega), show k + (t - k) = t by omega]
        obtain ⟨u, hu⟩ : ∃ u, Hid (u = pt i ^^^ pt t) := ⟨_, rfl⟩
        rw [← hu.out] at X HP
        obtain ⟨q, hq⟩ : ∃ q, Hid (q = wpd k i (t - k)) := ⟨_, rfl⟩
        rw [← hq.out] at HP ⊢
        clear e
        go_wp2_with fail
        refine (fmu_quiet hFr q u rfl rfl).mono ?_
        rintro e w2 ⟨rfl, n2, hw2⟩
        have hw : Hid _ := hw2
        clear hw2
        go_wp2
        go_roundw
        case rel => exact ⟨t + 1, by omega, by omega, by go_num, by rw [HP.out], nd + n2, by rw [hw.out, hd.out, World.drewN_drewN]⟩
        case measure => simp [intOf]; omega
    · have e : t = s := by omega
      subst e
      have hge : ¬ (t : Int) < (t : Int) := by omega
      have HW : Hid (((wtF k m i).toNat : Nat) = invS (wpd k i (t - k)).toNat) := by
        show _ = _
        unfold wtF
        rw [iv_toNat, show t - k = m by have := hs.out; omega]
      obtain ⟨q, hq⟩ : ∃ q, Hid (q = wpd k i (t - k)) := ⟨_, rfl⟩
      rw [← hq.out] at HW ⊢
      go_wp2_with fail
      refine (inv_all hFr q.toNat rfl (u8_lt q)).mono ?_
      rintro e w2 ⟨rfl, n2, hw2⟩
      have hw : Hid _ := hw2
      clear hw2
      go_wp2
      go_ret
      exact ⟨by rw [HW.out]; rfl, nd + n2, by rw [hw.out, hd.out, World.drewN_drewN]⟩
/-- what is added to a row of sums, up to n -/
def apR (f : Nat → UInt8) (a p : UInt8) (n t : Nat) : UInt8 := if t < n then f t ^^^ nmF a p t else f t
theorem apR_zero (f : Nat → UInt8) (a p : UInt8) : apR f a p 0 = f := by funext t; exact if_neg (Nat.not_lt_zero _)
theorem apR_step (f : Nat → UInt8) (a p : UInt8) (n t : Nat) : apR f a p (n + 1) t = if t = n then f n ^^^ nmF a p n else apR f a p n t := by
  unfold apR
  by_cases e : t = n
  · subst e; rw [if_pos (by omega), if_pos rfl]
  · rw [if_neg e]
    by_cases h : t < n
    · rw [if_pos h, if_pos (by omega)]
    · rw [if_neg h, if_neg (by omega)]
set_option maxRecDepth 100000 in
set_option maxHeartbeats 2000000 in
/-- a number times a point's powers is added to a row of sums -/
theorem apw_any {w : World} {base u g n c b : Nat} {f : Nat → UInt8} (a p : UInt8) (hF : FieldAt w b) (hbg : b ≠ g) (hR : RowF w base u g n c f) (hL : n ≤ 1000000) {x y : Int} (hx : x = ((a.toNat : Nat) : Int)) (hy : y = ((p.toNat : Nat) : Int)) :
    Calls Tryz.prog 193 #[.pointer (some ⟨b, 0, none⟩), .slice (some ⟨g, 0, none⟩) n c, .int .u8 x, .int .u8 y] w fun e w' => e = .returned (.tuple #[]) ∧ Only g w w' ∧ RowF w' base u g n c (apR f a p n) := by
  subst hx hy
  go_enter Tryz.func193, Tryz.ntmps193
  go_wp2
  go_loopw [2, 11] (fun v i wr => ∃ l : Nat, l ≤ n ∧ i = .int .i64 l ∧ v = .int .u8 ((nmF a p l).toNat : Nat) ∧ Only g w wr ∧ RowF wr base u g n c (apR f a p l)) (fun _ i _ => n - (intOf i).toNat)
  case atStart => exact ⟨0, by omega, rfl, rfl, Only.refl _ _, by rw [apR_zero]; exact hR⟩
  case round =>
    obtain ⟨l, hl, rfl, rfl, hO, hRl⟩ := hrel
    by_cases hlt : l < n
    · have hlt' : (l : Int) < (n : Int) := by omega
      have c1 := hRl.cell hlt
      have f1 := hRl.unfrozen l
      have e1 : apR f a p l l = f l := if_neg (by omega)
      rw [e1] at c1
      obtain ⟨q, hq⟩ : ∃ q, Hid (q = nmF a p l) := ⟨_, rfl⟩
      have HQ : Hid (nmF a p (l + 1) = mu q p) := by show _ = _; rw [hq.out]; rfl
      have E := xor_u8 (f l) q
      have HN : Hid (RowF (wr.setCell ⟨g, l, none⟩ (.int .u8 (((f l).toNat ^^^ q.toNat : Nat) : Int))) base u g n c (apR f a p (l + 1))) := by
        rw [← UInt8.toNat_xor]
        exact hRl.store hlt _ fun s => by rw [hq.out]; exact apR_step _ _ _ _ _
      have HO : Hid (Only g w (wr.setCell ⟨g, l, none⟩ (.int .u8 (((f l).toNat ^^^ q.toNat : Nat) : Int)))) := hO.setCell l _
      have hFr := hF.only hbg HO.out
      rw [← hq.out]
      clear hRl hO hR e1 hF
      go_wp2_with fail
      refine (fmu_quiet hFr q p rfl rfl).mono ?_
      rintro e w2 ⟨rfl, n2, hw2⟩
      have HN2 : Hid (RowF w2 base u g n c (apR f a p (l + 1))) := by rw [hw2]; exact HN.out.drewN _
      have HO2 : Hid (Only g w w2) := by rw [hw2]; exact HO.out.drewN _
      clear hw2 HN HO hFr c1 f1
      go_wp2
      go_roundw
      case rel => exact ⟨l + 1, by omega, by go_num, by rw [HQ.out], HO2.out, HN2.out⟩
      case measure => simp [intOf]; omega
    · have e : l = n := by omega
      subst e
      have hge : ¬ (l : Int) < (l : Int) := by omega
      go_wp2
      go_end0
      exact ⟨rfl, hO, hRl⟩
end Go.Proofs.YtddnfhfangfgeaaGreat.Gf
