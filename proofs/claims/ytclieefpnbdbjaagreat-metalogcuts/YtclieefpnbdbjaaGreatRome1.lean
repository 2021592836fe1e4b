/- TEXTS JOINED: MvK, FoW, PoMk, PoRd, PoAppend, PoMulMath, PoInfo, PoOnl, PoSame. -/
import Derived.Deep.RegionHeld3
import Derived.WalkKit
import Derived.Test.YtclieefpnbdbjaaGreatChecked
import GoSem.Claim
import GoSem.ClaimJoined
import GoSem.ClaimMapViews
import Derived.JoinedTies
import Derived.KernelRfl
import Derived.Deep.QuietTactic
import Derived.BigQuiet
import Derived.WalkLawsBesides
import Derived.WalkSpells
import Derived.OpenShut
import Derived.Test.YtclieefpnbdbjaaGreatRows
import Derived.Laws.AppendOwnNone
namespace Go.Proofs.YtclieefpnbdbjaaGreat.Gf
set_option linter.unusedVariables false
set_option linter.unusedSimpArgs false
section
variable {P : Program} {md : Region.Mode} {ops : Array Oper} {Q : Exit → Act → World → Prop} {S : World → Prop} {fuel : Nat} {l l' : Array Bool} {a a' : Act} {w : World} {o : Oper} {v : Value}
/-- number i is taken first -/
theorem tkH (i : Nat) (h : wpAnyH P md ops Q S fuel l' a' w) (hi : ops[i]? = some o := by rfl) (hs : Region.noSelect ops = true := by kernel_rfl) (hf : Region.free md ops l i = true := by kernel_rfl) (hr : (Region.ready md ops l).contains i = true := by kernel_rfl)
    (hy : YieldsIf P ops S o v a := by
      refine Or.inl ⟨by rfl, ?_⟩
      intro w hSw
      (try dsimp only at hSw)
      go_simp
      try with_reducible rfl)
    (hQ : ∀ c a w, Q (.panic c) (a.put o.dst v) w → Q (.panic c) a w := by exact fun _ _ _ h => h) (hS : S w := by assumption)
    (e : a.put o.dst v = a' := by
      try simp only [List.getElem_toArray, List.getElem_cons_succ, List.getElem_cons_zero, Act.put, List.setIfInBounds_toArray, List.set_cons_zero, List.set_cons_succ]
      first | done | rfl)
    (el : l.setIfInBounds i true = l' := by
      try simp only [List.setIfInBounds_toArray, List.set_cons_zero, List.set_cons_succ]
      first | done | rfl) : wpAnyH P md ops Q S (fuel + 1) l a w := wpAnyH_take hi hs hf hr hQ hy hS (by rw [e, el]; exact h)
/-- number i comes up next, alone -/
theorem rnH (i : Nat) (h : ∀ K' : Act → World → Prop, Shut (∀ a w, S w → (S w → wpAnyH P md ops Q S fuel (l.setIfInBounds i true) a w) → K' a w) → if Region.wanted o (yielded ops a.tmps) = true then Oper.wp P o a w K' Q else K' (a.put o.dst undef) w)
    (hr : Region.ready md ops l = [i] := by kernel_rfl) (ho : ops[i]? = some o := by rfl) : wpAnyH P md ops Q S (fuel + 1) l a w :=
  wpAnyH_ready hr (by simp) (AllReadyH.cons ho h AllReadyH.nil)
/-- .. one of two -/
theorem rmH (i j : Nat) {o2 : Oper} (h : ∀ K' : Act → World → Prop, Shut (∀ a w, S w → (S w → wpAnyH P md ops Q S fuel (l.setIfInBounds i true) a w) → K' a w) → if Region.wanted o (yielded ops a.tmps) = true then Oper.wp P o a w K' Q else K' (a.put o.dst undef) w)
    (h2 : ∀ K' : Act → World → Prop, Shut (∀ a w, S w → (S w → wpAnyH P md ops Q S fuel (l.setIfInBounds j true) a w) → K' a w) → if Region.wanted o2 (yielded ops a.tmps) = true then Oper.wp P o2 a w K' Q else K' (a.put o2.dst undef) w)
    (hr : Region.ready md ops l = [i, j] := by kernel_rfl) (ho : ops[i]? = some o := by rfl) (ho2 : ops[j]? = some o2 := by rfl) : wpAnyH P md ops Q S (fuel + 1) l a w :=
  wpAnyH_ready hr (by simp) (AllReadyH.cons ho h (AllReadyH.cons ho2 h2 AllReadyH.nil))
/-- .. one of three -/
theorem rtH (i j k : Nat) {o2 o3 : Oper} (h : ∀ K' : Act → World → Prop, Shut (∀ a w, S w → (S w → wpAnyH P md ops Q S fuel (l.setIfInBounds i true) a w) → K' a w) → if Region.wanted o (yielded ops a.tmps) = true then Oper.wp P o a w K' Q else K' (a.put o.dst undef) w)
    (h2 : ∀ K' : Act → World → Prop, Shut (∀ a w, S w → (S w → wpAnyH P md ops Q S fuel (l.setIfInBounds j true) a w) → K' a w) → if Region.wanted o2 (yielded ops a.tmps) = true then Oper.wp P o2 a w K' Q else K' (a.put o2.dst undef) w)
    (h3 : ∀ K' : Act → World → Prop, Shut (∀ a w, S w → (S w → wpAnyH P md ops Q S fuel (l.setIfInBounds k true) a w) → K' a w) → if Region.wanted o3 (yielded ops a.tmps) = true then Oper.wp P o3 a w K' Q else K' (a.put o3.dst undef) w)
    (hr : Region.ready md ops l = [i, j, k] := by kernel_rfl) (ho : ops[i]? = some o := by rfl) (ho2 : ops[j]? = some o2 := by rfl) (ho3 : ops[k]? = some o3 := by rfl) : wpAnyH P md ops Q S (fuel + 1) l a w :=
  wpAnyH_ready hr (by simp) (AllReadyH.cons ho h (AllReadyH.cons ho2 h2 (AllReadyH.cons ho3 h3 AllReadyH.nil)))
/-- number i is not wanted -/
theorem skH (i : Nat) (h : wpAnyH P md ops Q S fuel l' a' w) (hi : ops[i]? = some o := by rfl) (hs : Region.noSelect ops = true := by kernel_rfl) (hf : Region.free md ops l i = true := by kernel_rfl) (hr : (Region.ready md ops l).contains i = true := by kernel_rfl)
    (hy : Region.wanted o (yielded ops a.tmps) = false := by rfl)
    (hQ : ∀ c a w, Q (.panic c) (a.put o.dst undef) w → Q (.panic c) a w := by exact fun _ _ _ h => h) (hS : S w := by assumption)
    (e : a.put o.dst undef = a' := by
      try simp only [List.getElem_toArray, List.getElem_cons_succ, List.getElem_cons_zero, Act.put, List.setIfInBounds_toArray, List.set_cons_zero, List.set_cons_succ]
      first | done | rfl)
    (el : l.setIfInBounds i true = l' := by
      try simp only [List.setIfInBounds_toArray, List.set_cons_zero, List.set_cons_succ]
      first | done | rfl) : wpAnyH P md ops Q S (fuel + 1) l a w := wpAnyH_take hi hs hf hr hQ (Or.inr ⟨hy, rfl⟩) hS (by rw [e, el]; exact h)
/-- back into the region -/
theorem koH {K' : Act → World → Prop} (hK : Shut (∀ a w, S w → (S w → wpAnyH P md ops Q S fuel l a w) → K' a w)) (hS : S w) (h : S w → wpAnyH P md ops Q S fuel l' a' w)
    (e : a = a' := by
      try simp only [List.getElem_toArray, List.getElem_cons_succ, List.getElem_cons_zero, Act.put, List.setIfInBounds_toArray, List.set_cons_zero, List.set_cons_succ]
      first | done | rfl)
    (el : l = l' := by
      try simp only [List.setIfInBounds_toArray, List.set_cons_zero, List.set_cons_succ]
      first | done | rfl) : K' a w := hK.out _ _ hS (by rw [e, el]; exact h)
end
end Go.Proofs.YtclieefpnbdbjaaGreat.Gf

namespace Go.Proofs.YtclieefpnbdbjaaGreat.Gf
set_option linter.unusedVariables false
set_option linter.unusedSimpArgs false
open Go.RowKit
theorem wrap_u8 (m : Nat) : IntKind.u8.wrap (m : Int) = (((UInt8.ofNat m).toNat : Nat) : Int) := by
  rw [IntKind.wrap_u8, UInt8.toNat_ofNat']
  omega
end Go.Proofs.YtclieefpnbdbjaaGreat.Gf

namespace Go.Proofs.YtclieefpnbdbjaaGreat.Gf
set_option linter.unusedVariables false
set_option linter.unusedSimpArgs false
def co (p : List UInt8) (i : Nat) : UInt8 := p[i]?.getD 0
theorem co_lt {p : List UInt8} {i : Nat} (h : i < p.length) : co p i = p[i] := by unfold co; rw [List.getElem?_eq_getElem h]; rfl
theorem co_ext {p q : List UInt8} (hl : p.length = q.length) (h : ∀ i, i < p.length → co p i = co q i) : p = q := by
  refine List.ext_getElem hl fun i h1 h2 => ?_
  have := h i h1
  rwa [co_lt h1, co_lt h2] at this
theorem co_append_lt {p q : List UInt8} {i : Nat} (h : i < p.length) : co (p ++ q) i = co p i := by
  unfold co; rw [List.getElem?_append_left h]
theorem co_append_ge {p q : List UInt8} {i : Nat} (h : p.length ≤ i) : co (p ++ q) i = co q (i - p.length) := by
  unfold co; rw [List.getElem?_append_right h]
theorem co_take {p : List UInt8} {n i : Nat} (h : i < n) : co (p.take n) i = co p i := by
  unfold co; rw [List.getElem?_take_of_lt h]
theorem co_map_range (f : Nat → UInt8) {n i : Nat} (h : i < n) : co ((List.range n).map f) i = f i := by
  rw [co_lt (by simpa using h)]; simp
end Go.Proofs.YtclieefpnbdbjaaGreat.Gf

namespace Go.Proofs.YtclieefpnbdbjaaGreat.Gf
set_option linter.unusedVariables false
set_option linter.unusedSimpArgs false
open Go.RowKit
def vb (a : UInt8) : Value := .int .u8 ((a.toNat : Nat) : Int)
def Rd (w : World) (v : Value) (p : List UInt8) : Prop :=
  (∃ ao cap, p = [] ∧ v = .slice ao 0 cap ∧ cap ≤ maxLen ∧ (ao = none → cap = 0)) ∨
  (∃ b off cap, p ≠ [] ∧ v = .slice (some ⟨b, off, none⟩) p.length cap ∧ p.length ≤ cap ∧ cap ≤ maxLen ∧ b < w.heap.size ∧ ∀ i, i < p.length → w.cell? ⟨b, off + i, none⟩ = some (.int .u8 ((co p i).toNat : Nat)))
theorem Rd.below {w w' : World} {v : Value} {p : List UInt8} (h : Rd w v p) (hb : Below w.heap.size w w') : Rd w' v p := by
  rcases h with h | ⟨b, off, cap, h1, h2, h3, h4, h5, h6⟩
  · exact Or.inl h
  · exact Or.inr ⟨b, off, cap, h1, h2, h3, h4, Nat.lt_of_lt_of_le h5 hb.size, fun i hi => (hb.cell (p := ⟨b, off + i, none⟩) h5).trans (h6 i hi)⟩
theorem Rd.drewN {w : World} {v : Value} {p : List UInt8} (h : Rd w v p) (n : Nat) : Rd (w.drewN n) v p := h
theorem Rd.form {w : World} {v : Value} {p : List UInt8} (h : Rd w v p) : ∃ a c, v = .slice a p.length c := by
  rcases h with ⟨a, c, rfl, rfl, _⟩ | ⟨b, off, c, _, rfl, _⟩
  · exact ⟨a, c, rfl⟩
  · exact ⟨_, c, rfl⟩
theorem Rd.len {w : World} {v : Value} {p : List UInt8} (h : Rd w v p) : p.length ≤ maxLen := by
  rcases h with ⟨_, _, h, _⟩ | ⟨_, _, _, _, _, h3, h4, _⟩
  · subst h; exact Nat.zero_le _
  · omega
theorem add_at (b off j : Nat) : (⟨b, off, none⟩ : Addr).add j = ⟨b, off + j, none⟩ := by
  unfold Addr.add; split
  · subst j; rfl
  · rfl
/-- The cells of the first k bytes, as the laws on append and copy ask for them. -/
theorem news_of {W : World} {b off k : Nat} {p : List UInt8} (h : ∀ i, i < p.length → W.cell? ⟨b, off + i, none⟩ = some (.int .u8 ((co p i).toNat : Nat))) :
    ∀ j u, ((p.take k).map vb)[j]? = some u → W.cell? ((⟨b, off, none⟩ : Addr).add j) = some u := by
  intro j u hj
  rw [add_at]
  rw [List.getElem?_map] at hj
  by_cases hjk : j < k
  · rw [List.getElem?_take_of_lt hjk] at hj
    by_cases hjp : j < p.length
    · rw [List.getElem?_eq_getElem hjp] at hj
      rw [h j hjp, co_lt hjp]
      simpa [vb] using hj
    · rw [List.getElem?_eq_none (by omega)] at hj; cases hj
  · rw [List.getElem?_eq_none (by rw [List.length_take]; omega)] at hj; cases hj
theorem vb_one (p : List UInt8) : ∀ u ∈ p.map vb, u.oneCell' = true := by
  intro u hu
  obtain ⟨a, _, rfl⟩ := List.mem_map.1 hu
  rfl
/-- A row of the call's own reads as its bytes. -/
theorem Rd.owned {w : World} {base e : Nat} {v : Value} {p : List UInt8} (h : w.ownsRow base e 1 v p.length (p.map vb)) : Rd w v p := by
  obtain ⟨_, ⟨hv, hn⟩ | ⟨g, cap, cur, hv, hg, hh, hc, hm, hs, ht⟩⟩ := h
  · exact Or.inl ⟨none, 0, List.length_eq_zero_iff.1 hn, hv, Nat.zero_le _, fun _ => rfl⟩
  · by_cases hp : p = []
    · subst hp; exact Or.inl ⟨_, cap, rfl, hv, hm, fun h => by cases h⟩
    · refine Or.inr ⟨g, 0, cap, hp, hv, hc, hm, (Array.getElem?_eq_some_iff.1 hh).1, fun i hi => ?_⟩
      have e1 : (p.map vb)[i]? = some (vb (co p i)) := by rw [List.getElem?_map, List.getElem?_eq_getElem hi, co_lt hi]; rfl
      rw [← ht, Nat.mul_one, List.getElem?_take_of_lt hi] at e1
      rw [Nat.zero_add]
      unfold World.cell?
      rw [hh]
      simpa [vb] using e1
/-- The first k numbers of a function of places. -/
def upto (f : Nat → UInt8) (k : Nat) : List UInt8 := (List.range k).map f
theorem upto_length (f : Nat → UInt8) (k : Nat) : (upto f k).length = k := by simp [upto]
/-- What the call owns, behind another call. -/
theorem owns_later {wr w1 : World} {e n : Nat} {v : Value} {xs : List Value} {base : Nat} (h : wr.ownsRow base e 1 v n xs) (hb : Below wr.heap.size wr w1) : w1.ownsRow base e 1 v n xs := by
  obtain ⟨h0, h | ⟨g, cap, cur, hv, hg, hh, r⟩⟩ := h
  · exact ⟨h0, Or.inl h⟩
  · exact ⟨h0, Or.inr ⟨g, cap, cur, hv, hg, by rw [hb.block g (Array.getElem?_eq_some_iff.1 hh).1]; exact hh, r⟩⟩
theorem rd_lit {w : World} {n : Nat} {cs : Array Value} {e : Nat} (p : List UInt8) (hn : p.length = n) (hs : cs.toList = p.map vb) (hl : n ≤ 1000000) : Rd (w.alloc (.cells cs e)) (.slice (some ⟨w.heap.size, 0, none⟩) n n) p := by
  subst hn
  refine Rd.owned (base := w.heap.size) (e := e) ?_
  rw [← hs]
  exact World.ownsRow_lit w cs p.length (Nat.le_refl _) (by unfold maxLen; omega) (by rw [← Array.length_toList, hs]; simp)
theorem below_lit {w w' : World} (h : Below w.heap.size w w') (o : Obj) : Below w.heap.size w (w'.alloc o) := h.alloc h.size o
end Go.Proofs.YtclieefpnbdbjaaGreat.Gf

namespace Go.Proofs.YtclieefpnbdbjaaGreat.Gf
set_option linter.unusedVariables false
set_option linter.unusedSimpArgs false
open Go.RowKit
theorem wpList_append_rd {P : Program} (w : World) {ops : Array Oper} {rest : List Oper} {o : Oper} {a : Act} {Q : Exit → Act → World → Prop} (hgd : o.guard = none) (s x : Operand) (t : TypeId)
    (ho : o.op = .call { callee := .builtin .append, args := #[s, x], argTypes := #[t, t] })
    (base : Nat) (e : TypeId) (i : TypeInfo) (ht : P.underlying t = some (.slice e)) (hi : P.info? e = some i) (hz : i.zero = some (.int .u8 0)) (hsize : i.size = 1) (hby : i.bytes = 1)
    (v : Value) (n : Nat) (xs : List Value) (hs : a.eval s = v) (hown : w.ownsRow base e 1 v n xs) (va : Value) (p : List UInt8) (hx : a.eval x = va) (hr : Rd w va p) (hl : n + p.length ≤ 1000000) (hbase : base ≤ w.heap.size)
    (h : ∀ v' w', w'.ownsRow base e 1 v' (n + p.length) (xs ++ p.map vb) → w.grownBy w' v.ownBlock → wpList P ops Q rest (a.put o.dst v') w') : wpList P ops Q (o :: rest) a w := by
  rcases hr with ⟨ao, cap, rfl, rfl, hc, hn⟩ | ⟨b, off, cap, hp0, rfl, h1, h2, h3, hpc⟩
  · rcases ao with _ | ad
    · have := hn rfl
      subst this
      refine wpList_append_own_none hgd s x t ho base e i 1 ht hi v n xs hs hown hx ?_
      exact h v w (by simpa using hown) (World.grownBy.refl _ _)
    · refine wpList_append_own w hgd s x t ho base e i (.int .u8 0) 1 1 ht hi hz hsize hby rfl (by decide) v n xs hs hown ad 0 cap [] hx rfl (by intro j u hj; simp at hj) (by intro u hu; simp at hu) (by unfold maxLen; omega) (by omega) hbase ?_
      intro v' w' ho' hg' _
      exact h v' w' (by simpa using ho') hg'
  · refine wpList_append_own w hgd s x t ho base e i (.int .u8 0) 1 1 ht hi hz hsize hby rfl (by decide) v n xs hs hown ⟨b, off, none⟩ p.length cap ((p.take p.length).map vb) hx (by simp) (news_of hpc) (vb_one _) (by unfold maxLen; omega) (by omega) hbase ?_
    intro v' w' ho' hg' _
    exact h v' w' (by simpa using ho') hg'
end Go.Proofs.YtclieefpnbdbjaaGreat.Gf

namespace Go.Proofs.YtclieefpnbdbjaaGreat.Gf
set_option linter.unusedVariables false
set_option linter.unusedSimpArgs false
open Go.RowKit
theorem upto_zeros (L : Nat) : (upto (fun _ => 0) L).map vb = List.replicate L (.int .u8 0) := by
  unfold upto
  rw [List.map_map]
  refine List.ext_getElem (by simp) fun i h1 h2 => ?_
  simp [vb]
/-- A row of the call's own that holds the first L numbers of f (C: its capacity). -/
def RowF (w : World) (base e g L C : Nat) (f : Nat → UInt8) : Prop := w.ownsRow base e 1 (.slice (some ⟨g, 0, none⟩) L C) L ((upto f L).map vb)
theorem RowF.cell {w : World} {base e g L C : Nat} {f : Nat → UInt8} (h : RowF w base e g L C f) {j : Nat} (hj : j < L) : w.cell? ⟨g, j, none⟩ = some (.int .u8 ((f j).toNat : Nat)) := by
  have e1 := World.ownsRow.cellAt h j (by omega)
  rw [e1, List.getElem?_map]
  unfold upto
  rw [List.getElem?_map, List.getElem?_range hj]
  rfl
theorem RowF.rd {w : World} {base e g L C : Nat} {f : Nat → UInt8} (h : RowF w base e g L C f) : Rd w (.slice (some ⟨g, 0, none⟩) L C) (upto f L) :=
  Rd.owned (base := base) (e := e) (by rw [upto_length]; exact h)
theorem RowF.made {w : World} {base e g L : Nat} (h : w.ownsRow base e 1 (.slice (some ⟨g, 0, none⟩) L L) L (madeCells (Value.cells (.int .u8 0)) (L * 1)).toList) : RowF w base e g L L (fun _ => 0) := by
  unfold RowF
  rw [upto_zeros]
  have e1 : (madeCells (Value.cells (.int .u8 0)) (L * 1)).toList = List.replicate L (.int .u8 0) := by
    rw [Nat.mul_one]; exact toList_madeCells_one _ _
  rw [← e1]; exact h
theorem RowF.lt {w : World} {base e g L C : Nat} {f : Nat → UInt8} (h : RowF w base e g L C f) : base ≤ g ∧ g < w.heap.size := World.ownsRow.lt h g rfl
theorem RowF.later {w w' : World} {base e g L C : Nat} {f : Nat → UInt8} (h : RowF w base e g L C f) (hb : Below w.heap.size w w') : RowF w' base e g L C f := owns_later h hb
end Go.Proofs.YtclieefpnbdbjaaGreat.Gf

namespace Go.Proofs.YtclieefpnbdbjaaGreat.Gf
theorem info_u8 : (Tryz.prog.info? 5).map (fun i => (i.zero, i.size, i.bytes)) = some (some (.int .u8 0), 1, 1) := by kernel_rfl
end Go.Proofs.YtclieefpnbdbjaaGreat.Gf

namespace Go.Proofs.YtclieefpnbdbjaaGreat.Gf
set_option linter.unusedVariables false
set_option linter.unusedSimpArgs false
open Go.RowKit
/-- Nothing but the block g has turned. -/
structure Only (g : Nat) (w w' : World) : Prop where
  os : w'.os = w.os
  tape : w'.tape = w.tape
  output : w'.output = w.output
  size : w'.heap.size = w.heap.size
  block : ∀ k, k ≠ g → w'.heap[k]? = w.heap[k]?
theorem Only.refl (g : Nat) (w : World) : Only g w w := ⟨rfl, rfl, rfl, rfl, fun _ _ => rfl⟩
theorem Only.setCell {g : Nat} {a w : World} (h : Only g a w) (j : Nat) (u : Value) : Only g a (w.setCell ⟨g, j, none⟩ u) := by
  have b := (Below.refl 0 w).setCell (p := ⟨g, j, none⟩) (Nat.zero_le _) u
  exact ⟨b.os.trans h.os, b.tape.trans h.tape, b.output.trans h.output, by rw [← h.size]; simp, fun k hk => (Below.heap_setCell w ⟨g, j, none⟩ u k hk).trans (h.block k hk)⟩
theorem Only.below {g B : Nat} {w w' : World} (h : Only g w w') (hB : B ≤ g) : Below B w w' :=
  ⟨h.os, h.tape, h.output, by rw [h.size]; exact Nat.le_refl _, fun k hk => h.block k (by omega)⟩
theorem Only.cell {g : Nat} {w w' : World} (h : Only g w w') {p : Addr} (hp : p.block ≠ g) : w'.cell? p = w.cell? p := World.cell?_of_block (w := w) (h.block p.block hp)
/-- a slice that does not lie in the block g -/
def Apart (g : Nat) (v : Value) : Prop := ∀ x n c, v = .slice (some x) n c → n = 0 ∨ x.block ≠ g
theorem Rd.only {g : Nat} {w w' : World} {v : Value} {p : List UInt8} (h : Rd w v p) (ha : Apart g v) (ho : Only g w w') : Rd w' v p := by
  rcases h with h | ⟨b, off, cap, h1, h2, h3, h4, h5, h6⟩
  · exact Or.inl h
  · have hb : b ≠ g := by
      rcases ha _ _ _ h2 with e | e
      · exact absurd (List.length_eq_zero_iff.1 e) h1
      · exact e
    exact Or.inr ⟨b, off, cap, h1, h2, h3, h4, by rw [ho.size]; exact h5, fun i hi => (ho.cell (p := ⟨b, off + i, none⟩) hb).trans (h6 i hi)⟩
theorem Rd.apart {w : World} {v : Value} {p : List UInt8} {g : Nat} (h : Rd w v p) (hg : w.heap.size ≤ g) : Apart g v := by
  intro x n c e
  rcases h with ⟨a, c', _, e2, _⟩ | ⟨b, off, cap, h1, h2, h3, h4, h5, h6⟩
  · subst e2; simp at e; exact Or.inl e.2.1.symm
  · subst h2; simp at e; obtain ⟨rfl, rfl, rfl⟩ := e; exact Or.inr (by show b ≠ g; omega)
theorem RowF.only {g g' : Nat} {w w' : World} {base e L C : Nat} {f : Nat → UInt8} (h : RowF w base e g L C f) (hg : g ≠ g') (o : Only g' w w') : RowF w' base e g L C f := by
  obtain ⟨h0, h | ⟨g2, cap, cur, hv, hgg, hh, r⟩⟩ := h
  · exact ⟨h0, Or.inl h⟩
  · refine ⟨h0, Or.inr ⟨g2, cap, cur, hv, hgg, ?_, r⟩⟩
    have eg : g2 = g := by simp at hv; exact hv.1.symm
    rw [o.block g2 (by rw [eg]; exact hg)]
    exact hh
theorem apart_block {g b off n c : Nat} (h : b ≠ g) : Apart g (.slice (some ⟨b, off, none⟩) n c) := by
  intro x n' c' e
  simp at e
  obtain ⟨rfl, _⟩ := e
  exact Or.inr h
theorem Only.frozen {g : Nat} {w w' : World} (h : Only g w w') {p : Addr} (hp : p.block ≠ g) : w'.frozen? p = w.frozen? p := World.frozen?_of_block (w := w) (h.block p.block hp)
end Go.Proofs.YtclieefpnbdbjaaGreat.Gf

namespace Go.Proofs.YtclieefpnbdbjaaGreat.Gf
set_option linter.unusedVariables false
set_option linter.unusedSimpArgs false
open Go.RowKit
def sameB (p q : List UInt8) : Bool := decide (p = q)
end Go.Proofs.YtclieefpnbdbjaaGreat.Gf
