/- TEXTS JOINED: MeRw, CtMath, CtInv, CtLaw, CtCap. -/
import Derived.Test.YtndlfmofjmieaaaTome4
namespace Go.Proofs.Ytndlfmofjmieaaa.Gf
set_option linter.unusedVariables false
set_option linter.unusedSimpArgs false
open Go.RowKit
instance : Inhabited RcV := ⟨⟨noR, .slice none 0 0⟩⟩
/-- a slice in blocks of the call's own, besides v's -/
def NearR (base lim : Nat) (v u : Value) : Prop := ∀ x n c, u = .slice (some x) n c → n = 0 ∨ (base ≤ x.block ∧ x.block < lim ∧ v.ownBlock ≠ some x.block)
theorem NearR.mono {base lim lim' : Nat} {v u : Value} (h : NearR base lim v u) (hl : lim ≤ lim') : NearR base lim' v u := fun x n c e => (h x n c e).imp id fun q => ⟨q.1, by omega, q.2.2⟩
theorem RdI.groR {w w' : World} {base lim : Nat} {v v' x : Value} {zs : List Int} (h : RdI w x zs) (g : Gro w v w' v') (hn : NearR base lim v x) : RdI w' x zs := by
  rcases h with h | ⟨b, off, cap, h1, rfl, h3, h5, h6⟩
  · exact Or.inl h
  · have hp : zs.length ≠ 0 := fun e => h1 (List.length_eq_zero_iff.1 e)
    have ne := ((hn _ _ _ rfl).resolve_left hp).2.2
    exact Or.inr ⟨b, off, cap, h1, rfl, h3, Nat.lt_of_lt_of_le h5 g.gr.size, fun i hi => (g.cell (p := ⟨b, off + i, none⟩) h5 ne).trans (h6 i hi)⟩
theorem row_late18 {w w' : World} {base e s n : Nat} {v : Value} {xs : List Value} (h : w.ownsRow base e s v n xs) (t : Below w.heap.size w w') : w'.ownsRow base e s v n xs := by
  obtain ⟨h0, h | ⟨g2, cap, cur, hv, hgg, hh, r⟩⟩ := h
  · exact ⟨h0, Or.inl h⟩
  · have hlt : g2 < w.heap.size := (Array.getElem?_eq_some_iff.1 hh).1
    exact ⟨h0, Or.inr ⟨g2, cap, cur, hv, hgg, by rw [t.block g2 hlt]; exact hh, r⟩⟩
end Go.Proofs.Ytndlfmofjmieaaa.Gf

namespace Go.Proofs.Ytndlfmofjmieaaa.Gf
set_option linter.unusedVariables false
set_option linter.unusedSimpArgs false
open Go.RowKit
def ltK (a b : List UInt8) : Prop := Op.bytesLess a b = true
instance (a b : List UInt8) : Decidable (ltK a b) := inferInstanceAs (Decidable (_ = _))
theorem ltK_irr (a : List UInt8) : ¬ ltK a a := fun h => by
  have e := lessK a a
  unfold ltK at h
  unfold upK at e
  rw [h] at e
  simp at e
theorem ltK_total (a b : List UInt8) : a = b ∨ ltK a b ∨ ltK b a := by
  by_cases e : a = b
  · exact Or.inl e
  · by_cases h : ltK b a
    · exact Or.inr (Or.inr h)
    · refine Or.inr (Or.inl ?_)
      unfold ltK at h ⊢
      rw [lessK]
      unfold upK
      have e2 : (b == a) = false := beq_eq_false_iff_ne.2 fun q => e q.symm
      rw [e2]
      simpa using h
theorem ltK_trans {a b c : List UInt8} (h : ltK a b) (k : ltK b c) : ltK a c := by
  unfold ltK at *
  induction a generalizing b c with
  | nil =>
    cases c with
    | nil =>
      cases b with
      | nil => exact h
      | cons y b => simp [Op.bytesLess] at k
    | cons z c => rfl
  | cons x a ih =>
    cases b with
    | nil => simp [Op.bytesLess] at h
    | cons y b =>
      cases c with
      | nil => simp [Op.bytesLess] at k
      | cons z c =>
        unfold Op.bytesLess at h k ⊢
        by_cases e1 : x = y
        · subst e1
          by_cases e2 : x = z
          · subst e2
            simp at h k ⊢
            exact ih h k
          · simp [e2] at h k ⊢
            exact k
        · by_cases e2 : y = z
          · subst e2
            simp [e1] at h k ⊢
            exact h
          · simp [e1] at h
            simp [e2] at k
            have h3 : x < z := UInt8.lt_trans h k
            have e3 : ¬ x = z := fun q => by rw [q] at h3; exact UInt8.lt_irrefl _ h3
            simp [e3, h3]
theorem ltK_ne {a b : List UInt8} (h : ltK a b) : a ≠ b := fun e => by subst e; exact ltK_irr _ h
theorem ltK_not {a b : List UInt8} (h : ltK a b) : ¬ ltK b a := fun k => ltK_irr _ (ltK_trans h k)
/-- keys rise -/
def Rise (L : List ObS) : Prop := L.Pairwise fun a b => ltK a.key b.key
theorem Rise.cons {x : ObS} {L : List ObS} : Rise (x :: L) ↔ (∀ y ∈ L, ltK x.key y.key) ∧ Rise L := List.pairwise_cons
def finK : List ObS → List UInt8 → Option ObS
  | [], _ => none
  | x :: l, k => if x.key = k then some x else finK l k
theorem finK_mem {L : List ObS} {k : List UInt8} {o : ObS} (h : finK L k = some o) : o ∈ L ∧ o.key = k := by
  induction L with
  | nil => cases h
  | cons x l ih =>
    unfold finK at h
    split at h
    · next e => cases h; exact ⟨List.mem_cons_self .., e⟩
    · obtain ⟨h1, h2⟩ := ih h; exact ⟨List.mem_cons_of_mem _ h1, h2⟩
theorem finK_none {L : List ObS} {k : List UInt8} : finK L k = none ↔ ∀ o ∈ L, o.key ≠ k := by
  induction L with
  | nil =>
    constructor
    · intro _ o h; cases h
    · intro _; rfl
  | cons x l ih =>
    unfold finK
    split
    · next e =>
      constructor
      · intro h; cases h
      · intro h; exact absurd e (h x (List.mem_cons_self ..))
    · next e =>
      rw [ih]
      constructor
      · intro h o ho
        rcases List.mem_cons.1 ho with rfl | ho
        · exact e
        · exact h o ho
      · exact fun h o ho => h o (List.mem_cons_of_mem _ ho)
theorem Rise.one {L : List ObS} (h : Rise L) {a b : ObS} (ha : a ∈ L) (hb : b ∈ L) (e : a.key = b.key) : a = b := by
  induction L with
  | nil => cases ha
  | cons x l ih =>
    obtain ⟨h1, h2⟩ := Rise.cons.1 h
    rcases List.mem_cons.1 ha with ea | ha
    · rcases List.mem_cons.1 hb with eb | hb
      · rw [ea, eb]
      · rw [ea] at e
        exact absurd e (ltK_ne (h1 b hb))
    · rcases List.mem_cons.1 hb with eb | hb
      · rw [eb] at e
        exact absurd e.symm (ltK_ne (h1 a ha))
      · exact ih h2 ha hb
theorem finK_some {L : List ObS} (h : Rise L) {o : ObS} (ho : o ∈ L) : finK L o.key = some o := by
  cases e : finK L o.key with
  | none => exact absurd rfl (finK_none.1 e o ho)
  | some p =>
    obtain ⟨h1, h2⟩ := finK_mem e
    rw [h.one h1 ho h2]
def wiC : List ObS → ObS → List ObS
  | [], o => [o]
  | x :: l, o => if ltK x.key o.key then x :: wiC l o else if x.key = o.key then o :: l else o :: x :: l
theorem wiC_mem {L : List ObS} (h : Rise L) {o x : ObS} : x ∈ wiC L o ↔ x = o ∨ (x ∈ L ∧ x.key ≠ o.key) := by
  induction L with
  | nil => simp [wiC]
  | cons y l ih =>
    obtain ⟨h1, h2⟩ := Rise.cons.1 h
    unfold wiC
    split
    · next e =>
      rw [List.mem_cons, ih h2, List.mem_cons]
      constructor
      · rintro (rfl | rfl | ⟨h3, h4⟩)
        · exact Or.inr ⟨Or.inl rfl, ltK_ne e⟩
        · exact Or.inl rfl
        · exact Or.inr ⟨Or.inr h3, h4⟩
      · rintro (rfl | ⟨rfl | h3, h4⟩)
        · exact Or.inr (Or.inl rfl)
        · exact Or.inl rfl
        · exact Or.inr (Or.inr ⟨h3, h4⟩)
    · next e =>
      split
      · next e2 =>
        rw [List.mem_cons, List.mem_cons]
        constructor
        · rintro (rfl | h3)
          · exact Or.inl rfl
          · exact Or.inr ⟨Or.inr h3, fun q => absurd (e2.trans q.symm) (ltK_ne (h1 x h3))⟩
        · rintro (rfl | ⟨rfl | h3, h4⟩)
          · exact Or.inl rfl
          · exact absurd e2 h4
          · exact Or.inr h3
      · next e2 =>
        have e3 : ltK o.key y.key := by
          rcases ltK_total y.key o.key with q | q | q
          · exact absurd q e2
          · exact absurd q e
          · exact q
        rw [List.mem_cons, List.mem_cons]
        constructor
        · rintro (rfl | rfl | h3)
          · exact Or.inl rfl
          · exact Or.inr ⟨Or.inl rfl, e2⟩
          · exact Or.inr ⟨Or.inr h3, fun q => ltK_ne (ltK_trans e3 (h1 x h3)) q.symm⟩
        · rintro (rfl | ⟨rfl | h3, h4⟩)
          · exact Or.inl rfl
          · exact Or.inr (Or.inl rfl)
          · exact Or.inr (Or.inr h3)
theorem wiC_rise {L : List ObS} (h : Rise L) (o : ObS) : Rise (wiC L o) := by
  induction L with
  | nil => exact List.pairwise_singleton _ _
  | cons y l ih =>
    obtain ⟨h1, h2⟩ := Rise.cons.1 h
    unfold wiC
    split
    · next e =>
      refine Rise.cons.2 ⟨fun x hx => ?_, ih h2⟩
      rcases (wiC_mem h2).1 hx with rfl | ⟨h3, _⟩
      · exact e
      · exact h1 x h3
    · next e =>
      split
      · next e2 => exact Rise.cons.2 ⟨fun x hx => by rw [← e2]; exact h1 x hx, h2⟩
      · next e2 =>
        have e3 : ltK o.key y.key := by
          rcases ltK_total y.key o.key with q | q | q
          · exact absurd q e2
          · exact absurd q e
          · exact q
        refine Rise.cons.2 ⟨fun x hx => ?_, h⟩
        rcases List.mem_cons.1 hx with rfl | hx
        · exact e3
        · exact ltK_trans e3 (h1 x hx)
theorem wiC_fin {L : List ObS} (h : Rise L) (o : ObS) (k : List UInt8) : finK (wiC L o) k = if o.key = k then some o else finK L k := by
  have hr := wiC_rise h o
  have hm : o ∈ wiC L o := (wiC_mem h).2 (Or.inl rfl)
  split
  · next e => rw [← e]; exact finK_some hr hm
  · next e =>
    cases q : finK L k with
    | none =>
      refine finK_none.2 fun x hx => ?_
      rcases (wiC_mem h).1 hx with rfl | ⟨h3, _⟩
      · exact e
      · exact finK_none.1 q x h3
    | some p =>
      obtain ⟨h1, h2⟩ := finK_mem q
      have : p ∈ wiC L o := (wiC_mem h).2 (Or.inr ⟨h1, fun r => e (r.symm.trans h2)⟩)
      rw [← h2]
      exact finK_some hr this
theorem wiC_length {L : List ObS} (h : Rise L) (o : ObS) : (wiC L o).length = if finK L o.key = none then L.length + 1 else L.length := by
  induction L with
  | nil => rfl
  | cons y l ih =>
    obtain ⟨h1, h2⟩ := Rise.cons.1 h
    unfold wiC finK
    split
    · next e =>
      rw [if_neg (ltK_ne e), List.length_cons, ih h2, List.length_cons]
      split <;> rfl
    · next e =>
      split
      · next e2 => simp
      · next e2 =>
        have e3 : ltK o.key y.key := by
          rcases ltK_total y.key o.key with q | q | q
          · exact absurd q e2
          · exact absurd q e
          · exact q
        rw [if_pos (finK_none.2 fun x hx q => ltK_ne (ltK_trans e3 (h1 x hx)) q.symm)]
        rfl
def deC : List ObS → List UInt8 → List ObS
  | [], _ => []
  | x :: l, k => if x.key = k then l else x :: deC l k
theorem deC_mem {L : List ObS} (h : Rise L) {k : List UInt8} {x : ObS} : x ∈ deC L k ↔ x ∈ L ∧ x.key ≠ k := by
  induction L with
  | nil => simp [deC]
  | cons y l ih =>
    obtain ⟨h1, h2⟩ := Rise.cons.1 h
    unfold deC
    split
    · next e =>
      subst e
      rw [List.mem_cons]
      constructor
      · intro h3; exact ⟨Or.inr h3, fun q => ltK_ne (h1 x h3) q.symm⟩
      · rintro ⟨rfl | h3, h4⟩
        · exact absurd rfl h4
        · exact h3
    · next e =>
      rw [List.mem_cons, ih h2, List.mem_cons]
      constructor
      · rintro (rfl | ⟨h3, h4⟩)
        · exact ⟨Or.inl rfl, e⟩
        · exact ⟨Or.inr h3, h4⟩
      · rintro ⟨rfl | h3, h4⟩
        · exact Or.inl rfl
        · exact Or.inr ⟨h3, h4⟩
theorem deC_rise {L : List ObS} (h : Rise L) (k : List UInt8) : Rise (deC L k) := by
  induction L with
  | nil => exact h
  | cons y l ih =>
    obtain ⟨h1, h2⟩ := Rise.cons.1 h
    unfold deC
    split
    · exact h2
    · exact Rise.cons.2 ⟨fun x hx => h1 x ((deC_mem h2).1 hx).1, ih h2⟩
theorem deC_fin {L : List ObS} (h : Rise L) (k k2 : List UInt8) : finK (deC L k) k2 = if k2 = k then none else finK L k2 := by
  split
  · next e => subst e; exact finK_none.2 fun x hx => ((deC_mem h).1 hx).2
  · next e =>
    cases q : finK L k2 with
    | none => exact finK_none.2 fun x hx => finK_none.1 q x ((deC_mem h).1 hx).1
    | some p =>
      obtain ⟨h1, h2⟩ := finK_mem q
      have : p ∈ deC L k := (deC_mem h).2 ⟨h1, fun r => e (h2.symm.trans r)⟩
      rw [← h2]
      exact finK_some (deC_rise h k) this
theorem deC_length (L : List ObS) (k : List UInt8) : (deC L k).length = if finK L k = none then L.length else L.length - 1 := by
  induction L with
  | nil => rfl
  | cons y l ih =>
    unfold deC finK
    split
    · simp
    · rw [List.length_cons, ih, List.length_cons]
      split
      · rfl
      · next q =>
        have : 0 < l.length := by
          cases l with
          | nil => exact absurd rfl q
          | cons _ _ => simp
        omega
theorem deC_none {L : List ObS} {k : List UInt8} (h : finK L k = none) : deC L k = L := by
  induction L with
  | nil => rfl
  | cons y l ih =>
    unfold finK at h
    unfold deC
    split at h
    · cases h
    · next e => rw [if_neg e, ih h]
theorem deC_filter {L : List ObS} (h : Rise L) (k : List UInt8) : deC L k = L.filter fun x => decide (x.key ≠ k) := by
  induction L with
  | nil => rfl
  | cons y l ih =>
    obtain ⟨h1, h2⟩ := Rise.cons.1 h
    unfold deC
    split
    · next e =>
      subst e
      rw [List.filter_cons_of_neg (by simp)]
      symm
      rw [List.filter_eq_self]
      intro x hx
      exact decide_eq_true fun q => ltK_ne (h1 x hx) q.symm
    · next e => rw [List.filter_cons_of_pos (by simpa using e), ih h2]
end Go.Proofs.Ytndlfmofjmieaaa.Gf

namespace Go.Proofs.Ytndlfmofjmieaaa.Gf
set_option linter.unusedVariables false
set_option linter.unusedSimpArgs false
open Go.RowKit
def owK : List ObS → Int → Option Int
  | [], _ => none
  | x :: l, s => if s ∈ x.st then some x.ep else owK l s
theorem owK_none {L : List ObS} {s : Int} : owK L s = none ↔ ∀ o ∈ L, s ∉ o.st := by
  induction L with
  | nil =>
    constructor
    · intro _ o h; cases h
    · intro _; rfl
  | cons x l ih =>
    unfold owK
    split
    · next e =>
      constructor
      · intro h; cases h
      · intro h; exact absurd e (h x (List.mem_cons_self ..))
    · next e =>
      rw [ih]
      constructor
      · intro h o ho
        rcases List.mem_cons.1 ho with rfl | ho
        · exact e
        · exact h o ho
      · exact fun h o ho => h o (List.mem_cons_of_mem _ ho)
theorem owK_some {L : List ObS} {s e : Int} (h : owK L s = some e) : ∃ o ∈ L, s ∈ o.st ∧ o.ep = e := by
  induction L with
  | nil => cases h
  | cons x l ih =>
    unfold owK at h
    split at h
    · next q => cases h; exact ⟨x, List.mem_cons_self .., q, rfl⟩
    · obtain ⟨o, h1, h2⟩ := ih h; exact ⟨o, List.mem_cons_of_mem _ h1, h2⟩
/-- no stripe is two objects' -/
def Disj (L : List ObS) : Prop := ∀ o ∈ L, ∀ p ∈ L, ∀ s, s ∈ o.st → s ∈ p.st → o = p
theorem owK_of {L : List ObS} (h : Disj L) {o : ObS} (ho : o ∈ L) {s : Int} (hs : s ∈ o.st) : owK L s = some o.ep := by
  cases e : owK L s with
  | none => exact absurd hs (owK_none.1 e o ho)
  | some p =>
    obtain ⟨q, h1, h2, h3⟩ := owK_some e
    rw [← h3, h q h1 o ho s h2 hs]
def fitC (g : GeoS) (L : List ObS) (o : ObS) : Prop := OkO o ∧ (o.st.length : Int) = neG g o.len ∧ (∀ s ∈ o.st, owK L s = none ∧ s < g.s) ∧ o.st.Nodup
instance (g : GeoS) (L : List ObS) (o : ObS) : Decidable (fitC g L o) := inferInstanceAs (Decidable (_ ∧ _ ∧ _ ∧ _))
/-- a catalog that may be -/
structure InvC (g : GeoS) (L : List ObS) : Prop where
  rise : Rise L
  ok : ∀ o ∈ L, OkO o ∧ (o.st.length : Int) = neG g o.len ∧ (∀ s ∈ o.st, s < g.s) ∧ o.st.Nodup
  apart : Disj L
  few : (L.length : Int) ≤ g.o
theorem InvC.nil {g : GeoS} (h : okG g) : InvC g [] := by
  refine ⟨List.Pairwise.nil, (fun o ho => by cases ho), (fun o ho => by cases ho), ?_⟩
  obtain ⟨_, _, _, _, _, _, _, _, _, q, _⟩ := h
  show (0 : Int) ≤ _
  omega
theorem InvC.put {g : GeoS} {L : List ObS} {o : ObS} (h : InvC g L) (hf : fitC g L o) (hc : finK L o.key ≠ none ∨ (L.length : Int) < g.o) : InvC g (wiC L o) := by
  refine ⟨wiC_rise h.rise o, fun x hx => ?_, fun x hx y hy s h1 h2 => ?_, ?_⟩
  · rcases (wiC_mem h.rise).1 hx with rfl | ⟨h3, _⟩
    · exact ⟨hf.1, hf.2.1, fun s hs => (hf.2.2.1 s hs).2, hf.2.2.2⟩
    · exact h.ok x h3
  · rcases (wiC_mem h.rise).1 hx with rfl | ⟨h3, _⟩
    · rcases (wiC_mem h.rise).1 hy with rfl | ⟨h4, _⟩
      · rfl
      · exact absurd h2 (owK_none.1 (hf.2.2.1 s h1).1 y h4)
    · rcases (wiC_mem h.rise).1 hy with rfl | ⟨h4, _⟩
      · exact absurd h1 (owK_none.1 (hf.2.2.1 s h2).1 x h3)
      · exact h.apart x h3 y h4 s h1 h2
  · rw [wiC_length h.rise]
    have := h.few
    split
    · next q => rcases hc with q2 | q2
                · exact absurd q q2
                · omega
    · exact this
theorem InvC.del {g : GeoS} {L : List ObS} (h : InvC g L) (k : List UInt8) : InvC g (deC L k) := by
  refine ⟨deC_rise h.rise k, fun x hx => h.ok x ((deC_mem h.rise).1 hx).1, fun x hx y hy s h1 h2 => h.apart x ((deC_mem h.rise).1 hx).1 y ((deC_mem h.rise).1 hy).1 s h1 h2, ?_⟩
  rw [deC_length]
  have := h.few
  split
  · exact this
  · omega
/-- Plan's refusal ahead of space -/
def plP (g : GeoS) (L : List ObS) (k : List UInt8) (n : Int) : Int :=
  if k.length = 0 ∨ 64 < k.length then 190 else if n < 0 ∨ 2147483647 < n then 1 else if finK L k = none ∧ g.o ≤ (L.length : Int) then 191 else 0
/-- the free stripes, rising -/
def frL (g : GeoS) (L : List ObS) : List Int := ((List.range g.s.toNat).map fun (i : Nat) => (i : Int)).filter fun s => (owK L s).isNone
def frC (g : GeoS) (L : List ObS) : Nat := (frL g L).length
def plX (g : GeoS) (L : List ObS) (k : List UInt8) (n : Int) : Int := if ¬ plP g L k n = 0 then plP g L k n else if (frC g L : Int) < neG g n then 192 else 0
def plR (g : GeoS) (L : List ObS) (k : List UInt8) (n : Int) : List Int := if plX g L k n = 0 then (frL g L).take (neG g n).toNat else []
/-- the object of a record -/
def obR (r : RcS) (ep : Int) : ObS := ⟨r.key, r.len, ep, r.st⟩
noncomputable def apCX (g : GeoS) (L : List ObS) (r : RcS) (ep : Int) : Int :=
  if ¬ OkR r then 1 else if r.kind = 2 then (if finK L r.key = none then 193 else 0) else if finK L r.key = none ∧ g.o ≤ (L.length : Int) then 191 else if ¬ fitC g L (obR r ep) then 1 else 0
noncomputable def apCS (g : GeoS) (L : List ObS) (r : RcS) (ep : Int) : List ObS := if apCX g L r ep = 0 then (if r.kind = 2 then deC L r.key else wiC L (obR r ep)) else L
/-- New: what is told, of the objects that are in and those to come -/
noncomputable def neCL (g : GeoS) : List ObS → List ObS → Option (List ObS)
  | L, [] => some L
  | L, o :: M => if ¬ fitC g L o ∨ finK L o.key ≠ none then none else neCL g (wiC L o) M
noncomputable def neCX (g : GeoS) (M : List ObS) : Int := if ¬ okG g then 50 else if g.o < (M.length : Int) then 1 else if neCL g [] M = none then 1 else 0
theorem InvC.zero {g : GeoS} {L : List ObS} (h : InvC g L) {o : ObS} (ho : o ∈ L) {s : Int} (hs : s ∈ o.st) : 0 ≤ s ∧ s < g.s := ⟨((h.ok o ho).1.1.2.2.2.2.2.2.1 s hs).1, (h.ok o ho).2.2.1 s hs⟩
theorem cnt_mem (U : List Int) (n : Nat) (hU : U.Nodup) (hb : ∀ s ∈ U, 0 ≤ s ∧ s < (n : Int)) : (((List.range n).map fun (i : Nat) => (i : Int)).filter fun s => decide (s ∈ U)).length = U.length := by
  have hR : ((List.range n).map fun (i : Nat) => (i : Int)).Nodup := by
    refine List.Pairwise.map (R := fun a b => a ≠ b) _ ?_ List.nodup_range
    intro a b h e
    exact h (by omega)
  have p : List.Perm (((List.range n).map fun (i : Nat) => (i : Int)).filter fun s => decide (s ∈ U)) U := by
    refine (List.perm_ext_iff_of_nodup (hR.filter _) hU).2 fun s => ?_
    rw [List.mem_filter, List.mem_map]
    constructor
    · rintro ⟨_, h⟩; exact of_decide_eq_true h
    · intro h
      obtain ⟨h1, h2⟩ := hb s h
      exact ⟨⟨s.toNat, List.mem_range.2 (by omega), by omega⟩, decide_eq_true h⟩
  exact p.length_eq
end Go.Proofs.Ytndlfmofjmieaaa.Gf

namespace Go.Proofs.Ytndlfmofjmieaaa.Gf
set_option linter.unusedVariables false
set_option linter.unusedSimpArgs false
open Go.RowKit
/-- all stripes of objects -/
def allS : List ObS → List Int
  | [] => []
  | o :: l => o.st ++ allS l
theorem allS_mem {L : List ObS} {s : Int} : s ∈ allS L ↔ ∃ o ∈ L, s ∈ o.st := by
  induction L with
  | nil => simp [allS]
  | cons o l ih => simp [allS, ih]
theorem allS_length (L : List ObS) : (allS L).length = cntO L := by
  induction L with
  | nil => rfl
  | cons o l ih => show (o.st ++ allS l).length = o.st.length + cntO l; rw [List.length_append, ih]
theorem owK_all {L : List ObS} {s : Int} : owK L s = none ↔ s ∉ allS L := by
  rw [owK_none, allS_mem]
  constructor
  · rintro h ⟨o, ho, hs⟩; exact h o ho hs
  · intro h o ho hs; exact h ⟨o, ho, hs⟩
theorem allS_nodup {g : GeoS} {L : List ObS} (h : InvC g L) : (allS L).Nodup := by
  have k : ∀ M : List ObS, (∀ o ∈ M, o ∈ L) → Rise M → (allS M).Nodup := by
    intro M
    induction M with
    | nil => intro _ _; exact List.nodup_nil
    | cons o M ih =>
      intro hm hr
      obtain ⟨h1, h2⟩ := Rise.cons.1 hr
      show (o.st ++ allS M).Nodup
      rw [List.nodup_append]
      refine ⟨(h.ok o (hm o (List.mem_cons_self ..))).2.2.2, ih (fun x hx => hm x (List.mem_cons_of_mem _ hx)) h2, fun a ha b hb e => ?_⟩
      subst e
      obtain ⟨p, hp, hs⟩ := allS_mem.1 hb
      have e := h.apart o (hm o (List.mem_cons_self ..)) p (hm p (List.mem_cons_of_mem _ hp)) a ha hs
      exact ltK_ne (h1 p hp) (by rw [e])
  exact k L (fun o ho => ho) h.rise
theorem allS_zero {g : GeoS} {L : List ObS} (h : InvC g L) {s : Int} (hs : s ∈ allS L) : 0 ≤ s ∧ s < g.s := by
  obtain ⟨o, ho, k⟩ := allS_mem.1 hs
  exact h.zero ho k
theorem filter_two {α : Type} (p : α → Bool) (l : List α) : l.length = (l.filter p).length + (l.filter fun x => !p x).length := by
  induction l with
  | nil => rfl
  | cons x l ih =>
    cases h : p x with
    | true => rw [List.filter_cons_of_pos h, List.filter_cons_of_neg (by simp [h]), List.length_cons, List.length_cons, ih]; omega
    | false => rw [List.filter_cons_of_neg (by simp [h]), List.filter_cons_of_pos (by simp [h]), List.length_cons, List.length_cons, ih]; omega
/-- as many are free as no object has -/
theorem frC_eq {g : GeoS} {L : List ObS} (h : InvC g L) (hg : okG g) : (frC g L : Int) = g.s - cntO L := by
  have hs : 1 ≤ g.s := by
    obtain ⟨_, _, _, _, _, q, _⟩ := hg
    exact q
  have c := cnt_mem (allS L) g.s.toNat (allS_nodup h) (fun s hs => by have := allS_zero h hs; omega)
  rw [allS_length] at c
  have t := filter_two (fun s => decide (s ∈ allS L)) ((List.range g.s.toNat).map fun (i : Nat) => (i : Int))
  rw [List.length_map, List.length_range, c] at t
  have e : frL g L = ((List.range g.s.toNat).map fun (i : Nat) => (i : Int)).filter fun s => !decide (s ∈ allS L) := by
    unfold frL
    refine List.filter_congr fun s _ => ?_
    by_cases q : s ∈ allS L
    · have : owK L s ≠ none := fun k => owK_all.1 k q
      rw [decide_eq_true q]
      cases w : owK L s with
      | none => exact absurd w this
      | some _ => rfl
    · rw [owK_all.2 q, decide_eq_false q]; rfl
  unfold frC
  rw [e]
  omega
theorem frL_mem {g : GeoS} {L : List ObS} {s : Int} (h : s ∈ frL g L) : 0 ≤ s ∧ s < g.s ∧ owK L s = none := by
  unfold frL at h
  rw [List.mem_filter, List.mem_map] at h
  obtain ⟨⟨i, hi, rfl⟩, h2⟩ := h
  have := List.mem_range.1 hi
  exact ⟨by omega, by omega, Option.isNone_iff_eq_none.1 h2⟩
theorem frL_nodup (g : GeoS) (L : List ObS) : (frL g L).Nodup := by
  refine List.Nodup.sublist List.filter_sublist ?_
  refine List.Pairwise.map (R := fun a b => a ≠ b) _ ?_ List.nodup_range
  intro a b h e
  exact h (by omega)
/-- of what is deleted the stripes are free -/
theorem cntO_del (L : List ObS) (k : List UInt8) : cntO L = cntO (deC L k) + (match finK L k with | none => 0 | some o => o.st.length) := by
  induction L with
  | nil => rfl
  | cons x l ih =>
    unfold deC finK
    split
    · show x.st.length + cntO l = cntO l + x.st.length
      omega
    · show x.st.length + cntO l = (x.st.length + cntO (deC l k)) + _
      rw [ih]
      omega
theorem frC_del {g : GeoS} {L : List ObS} (h : InvC g L) (hg : okG g) (k : List UInt8) : frC g (deC L k) = frC g L + (match finK L k with | none => 0 | some o => o.st.length) := by
  have h1 := frC_eq h hg
  have h2 := frC_eq (h.del k) hg
  have h3 := cntO_del L k
  omega
/-- what needs as many stripes as it has: none just where it has no bytes -/
theorem neG_zero {g : GeoS} (hg : okG g) {b : Int} (h : 0 ≤ b) : 0 ≤ neG g b := by
  obtain ⟨h1, _, _, h4, _⟩ := hg
  unfold neG
  split
  · next q =>
    have : 0 ≤ (b - 1) / (g.k * g.z) := Int.ediv_nonneg (by omega) (Int.mul_nonneg (by omega) (by omega))
    omega
  · exact Int.le_refl _
/-- WHAT IS PLANNED FITS -/
theorem plan_fit {g : GeoS} {L : List ObS} (h : InvC g L) (hg : okG g) {k : List UInt8} {n ep : Int} (he : 0 ≤ ep ∧ ep ≤ 2147483647) (hp : plX g L k n = 0) :
    ((plR g L k n).length : Int) = neG g n ∧ fitC g L ⟨k, n, ep, plR g L k n⟩ ∧ (finK L k ≠ none ∨ (L.length : Int) < g.o) ∧ OkR ⟨1, k, n, plR g L k n⟩ := by
  have hp0 := hp
  unfold plX at hp
  by_cases q : plP g L k n = 0
  rotate_left
  · rw [if_pos q] at hp; exact absurd hp q
  rw [if_neg (fun w => w q)] at hp
  by_cases q2 : (frC g L : Int) < neG g n
  · rw [if_pos q2] at hp; cases hp
  unfold plP at q
  by_cases q3 : k.length = 0 ∨ 64 < k.length
  · rw [if_pos q3] at q; cases q
  rw [if_neg q3] at q
  by_cases q4 : n < 0 ∨ 2147483647 < n
  · rw [if_pos q4] at q; cases q
  rw [if_neg q4] at q
  by_cases q5 : finK L k = none ∧ g.o ≤ (L.length : Int)
  · rw [if_pos q5] at q; cases q
  have z := neG_zero hg (b := n) (by omega)
  have e : plR g L k n = (frL g L).take (neG g n).toNat := if_pos hp0
  have fl : (frL g L).length = frC g L := rfl
  have ll : ((plR g L k n).length : Int) = neG g n := by
    rw [e, List.length_take, fl]
    omega
  have s256 : g.s ≤ 256 := by
    obtain ⟨_, _, _, _, _, _, w, _⟩ := hg
    exact w
  have mm : ∀ s ∈ plR g L k n, 0 ≤ s ∧ s < g.s ∧ owK L s = none := fun s hs => by
    rw [e] at hs
    exact frL_mem (List.mem_of_mem_take hs)
  have fc : (frC g L : Int) ≤ g.s := by
    have := frC_eq h hg
    omega
  have ok : OkR ⟨1, k, n, plR g L k n⟩ := by
    refine ⟨Or.inl rfl, by show 1 ≤ k.length; omega, by show k.length ≤ 64; omega, by show 0 ≤ n; omega, by show n ≤ 2147483647; omega, ?_, fun s hs => ?_, fun w => by cases w⟩
    · show (plR g L k n).length ≤ 256
      omega
    · have := mm s hs
      omega
  refine ⟨ll, ⟨⟨ok, he⟩, ll, fun s hs => ⟨(mm s hs).2.2, (mm s hs).2.1⟩, ?_⟩, ?_, ok⟩
  · show (plR g L k n).Nodup
    rw [e]
    exact List.Nodup.sublist (List.take_sublist _ _) (frL_nodup g L)
  · by_cases w : finK L k = none
    · exact Or.inr (by have : ¬ g.o ≤ (L.length : Int) := fun x => q5 ⟨w, x⟩; omega)
    · exact Or.inl w
theorem plan_apply {g : GeoS} {L : List ObS} (h : InvC g L) (hg : okG g) {k : List UInt8} {n ep : Int} (he : 0 ≤ ep ∧ ep ≤ 2147483647) (hp : plX g L k n = 0) :
    apCX g L ⟨1, k, n, plR g L k n⟩ ep = 0 ∧ apCS g L ⟨1, k, n, plR g L k n⟩ ep = wiC L ⟨k, n, ep, plR g L k n⟩ ∧ finK (apCS g L ⟨1, k, n, plR g L k n⟩ ep) k = some ⟨k, n, ep, plR g L k n⟩ := by
  obtain ⟨h1, h2, h3, h4⟩ := plan_fit h hg he hp
  have e : apCX g L ⟨1, k, n, plR g L k n⟩ ep = 0 := by
    unfold apCX
    rw [if_neg (fun w => w h4), if_neg (by show ¬ (1 : Int) = 2; decide), if_neg, if_neg (fun w => w h2)]
    rintro ⟨w1, w2⟩
    rcases h3 with q | q
    · exact q w1
    · omega
  have e2 : apCS g L ⟨1, k, n, plR g L k n⟩ ep = wiC L ⟨k, n, ep, plR g L k n⟩ := by
    unfold apCS
    rw [if_pos e, if_neg (by show ¬ (1 : Int) = 2; decide)]
    rfl
  refine ⟨e, e2, ?_⟩
  rw [e2, wiC_fin h.rise, if_pos rfl]
end Go.Proofs.Ytndlfmofjmieaaa.Gf

namespace Go.Proofs.Ytndlfmofjmieaaa.Gf
def CapO (v : Value) : Prop := ∀ a n c, v = .slice a n c → n ≤ c ∧ (a = none → c = 0)
theorem CapO.some {b o n c : Nat} (h : n ≤ c) : CapO (.slice (some ⟨b, o, none⟩) n c) := fun a n' c' e => by simp at e; obtain ⟨rfl, rfl, rfl⟩ := e; exact ⟨h, fun h => by cases h⟩
end Go.Proofs.Ytndlfmofjmieaaa.Gf
