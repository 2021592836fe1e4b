/- TEXTS JOINED: CtMath, CtInv, CtLaw, CtCap. -/
import Derived.Test.YtndlfmofjmieaaaPome4
namespace Go.Proofs.Ytndlfmofjmieaaa.Gf
set_option linter.unusedVariables false
set_option linter.unusedSimpArgs false
open Go.RowKit
def ltK (a b : List UInt8) : Prop := Op.bytesLess a b = true
instance (a b : List UInt8) : Decidable (ltK a b) := inferInstanceAs (Decidable (_ = _))
theorem ltK_irr (a : List UInt8) : ¬ ltK a a := fun h => by
  have e := lessK a a
  unfold ltK at h
  unfold upK at e
  rw [h] at e
  simp at e
theorem ltK_total (a b : List UInt8) : a = b ∨ ltK a b ∨ ltK b a := by
  by_cases e : a = b
  · exact Or.inl e
  · by_cases h : ltK b a
    · exact Or.inr (Or.inr h)
    · refine Or.inr (Or.inl ?_)
      unfold ltK at h ⊢
      rw [lessK]
      unfold upK
      have e2 : (b == a) = false := beq_eq_false_iff_ne.2 fun q => e q.symm
      rw [e2]
      simpa using h
theorem ltK_trans {a b c : List UInt8} (h : ltK a b) (k : ltK b c) : ltK a c := by
  unfold ltK at *
  induction a generalizing b c with
  | nil =>
    cases c with
    | nil =>
      cases b with
      | nil => exact h
      | cons y b => simp [Op.bytesLess] at k
    | cons z c => rfl
  | cons x a ih =>
    cases b with
    | nil => simp [Op.bytesLess] at h
    | cons y b =>
      cases c with
      | nil => simp [Op.bytesLess] at k
      | cons z c =>
        unfold Op.bytesLess at h k ⊢
        by_cases e1 : x = y
        · subst e1
          by_cases e2 : x = z
          · subst e2
            simp at h k ⊢
            exact ih h k
          · simp [e2] at h k ⊢
            exact k
        · by_cases e2 : y = z
          · subst e2
            simp [e1] at h k ⊢
            exact h
          · simp [e1] at h
            simp [e2] at k
            have h3 : x < z := UInt8.lt_trans h k
            have e3 : ¬ x = z := fun q => by rw [q] at h3; exact UInt8.lt_irrefl _ h3
            simp [e3, h3]
theorem ltK_ne {a b : List UInt8} (h : ltK a b) : a ≠ b := fun e => by subst e; exact ltK_irr _ h
theorem ltK_not {a b : List UInt8} (h : ltK a b) : ¬ ltK b a := fun k => ltK_irr _ (ltK_trans h k)
/-- keys rise -/
def Rise (L : List ObS) : Prop := L.Pairwise fun a b => ltK a.key b.key
theorem Rise.cons {x : ObS} {L : List ObS} : Rise (x :: L) ↔ (∀ y ∈ L, ltK x.key y.key) ∧ Rise L := List.pairwise_cons
def finK : List ObS → List UInt8 → Option ObS
  | [], _ => none
  | x :: l, k => if x.key = k then some x else finK l k
theorem finK_mem {L : List ObS} {k : List UInt8} {o : ObS} (h : finK L k = some o) : o ∈ L ∧ o.key = k := by
  induction L with
  | nil => cases h
  | cons x l ih =>
    unfold finK at h
    split at h
    · next e => cases h; exact ⟨List.mem_cons_self .., e⟩
    · obtain ⟨h1, h2⟩ := ih h; exact ⟨List.mem_cons_of_mem _ h1, h2⟩
theorem finK_none {L : List ObS} {k : List UInt8} : finK L k = none ↔ ∀ o ∈ L, o.key ≠ k := by
  induction L with
  | nil =>
    constructor
    · intro _ o h; cases h
    · intro _; rfl
  | cons x l ih =>
    unfold finK
    split
    · next e =>
      constructor
      · intro h; cases h
      · intro h; exact absurd e (h x (List.mem_cons_self ..))
    · next e =>
      rw [ih]
      constructor
      · intro h o ho
        rcases List.mem_cons.1 ho with rfl | ho
        · exact e
        · exact h o ho
      · exact fun h o ho => h o (List.mem_cons_of_mem _ ho)
theorem Rise.one {L : List ObS} (h : Rise L) {a b : ObS} (ha : a ∈ L) (hb : b ∈ L) (e : a.key = b.key) : a = b := by
  induction L with
  | nil => cases ha
  | cons x l ih =>
    obtain ⟨h1, h2⟩ := Rise.cons.1 h
    rcases List.mem_cons.1 ha with ea | ha
    · rcases List.mem_cons.1 hb with eb | hb
      · rw [ea, eb]
      · rw [ea] at e
        exact absurd e (ltK_ne (h1 b hb))
    · rcases List.mem_cons.1 hb with eb | hb
      · rw [eb] at e
        exact absurd e.symm (ltK_ne (h1 a ha))
      · exact ih h2 ha hb
theorem finK_some {L : List ObS} (h : Rise L) {o : ObS} (ho : o ∈ L) : finK L o.key = some o := by
  cases e : finK L o.key with
  | none => exact absurd rfl (finK_none.1 e o ho)
  | some p =>
    obtain ⟨h1, h2⟩ := finK_mem e
    rw [h.one h1 ho h2]
def wiC : List ObS → ObS → List ObS
  | [], o => [o]
  | x :: l, o => if ltK x.key o.key then x :: wiC l o else if x.key = o.key then o :: l else o :: x :: l
theorem wiC_mem {L : List ObS} (h : Rise L) {o x : ObS} : x ∈ wiC L o ↔ x = o ∨ (x ∈ L ∧ x.key ≠ o.key) := by
  induction L with
  | nil => simp [wiC]
  | cons y l ih =>
    obtain ⟨h1, h2⟩ := Rise.cons.1 h
    unfold wiC
    split
    · next e =>
      rw [List.mem_cons, ih h2, List.mem_cons]
      constructor
      · rintro (rfl | rfl | ⟨h3, h4⟩)
        · exact Or.inr ⟨Or.inl rfl, ltK_ne e⟩
        · exact Or.inl rfl
        · exact Or.inr ⟨Or.inr h3, h4⟩
      · rintro (rfl | ⟨rfl | h3, h4⟩)
        · exact Or.inr (Or.inl rfl)
        · exact Or.inl rfl
        · exact Or.inr (Or.inr ⟨h3, h4⟩)
    · next e =>
      split
      · next e2 =>
        rw [List.mem_cons, List.mem_cons]
        constructor
        · rintro (rfl | h3)
          · exact Or.inl rfl
          · exact Or.inr ⟨Or.inr h3, fun q => absurd (e2.trans q.symm) (ltK_ne (h1 x h3))⟩
        · rintro (rfl | ⟨rfl | h3, h4⟩)
          · exact Or.inl rfl
          · exact absurd e2 h4
          · exact Or.inr h3
      · next e2 =>
        have e3 : ltK o.key y.key := by
          rcases ltK_total y.key o.key with q | q | q
          · exact absurd q e2
          · exact absurd q e
          · exact q
        rw [List.mem_cons, List.mem_cons]
        constructor
        · rintro (rfl | rfl | h3)
          · exact Or.inl rfl
          · exact Or.inr ⟨Or.inl rfl, e2⟩
          · exact Or.inr ⟨Or.inr h3, fun q => ltK_ne (ltK_trans e3 (h1 x h3)) q.symm⟩
        · rintro (rfl | ⟨rfl | h3, h4⟩)
          · exact Or.inl rfl
          · exact Or.inr (Or.inl rfl)
          · exact Or.inr (Or.inr h3)
theorem wiC_rise {L : List ObS} (h : Rise L) (o : ObS) : Rise (wiC L o) := by
  induction L with
  | nil => exact List.pairwise_singleton _ _
  | cons y l ih =>
    obtain ⟨h1, h2⟩ := Rise.cons.1 h
    unfold wiC
    split
    · next e =>
      refine Rise.cons.2 ⟨fun x hx => ?_, ih h2⟩
      rcases (wiC_mem h2).1 hx with rfl | ⟨h3, _⟩
      · exact e
      · exact h1 x h3
    · next e =>
      split
      · next e2 => exact Rise.cons.2 ⟨fun x hx => by rw [← e2]; exact h1 x hx, h2⟩
      · next e2 =>
        have e3 : ltK o.key y.key := by
          rcases ltK_total y.key o.key with q | q | q
          · exact absurd q e2
          · exact absurd q e
          · exact q
        refine Rise.cons.2 ⟨fun x hx => ?_, h⟩
        rcases List.mem_cons.1 hx with rfl | hx
        · exact e3
        · exact ltK_trans e3 (h1 x hx)
theorem wiC_length {L : List ObS} (h : Rise L) (o : ObS) : (wiC L o).length = if finK L o.key = none then L.length + 1 else L.length := by
  induction L with
  | nil => rfl
  | cons y l ih =>
    obtain ⟨h1, h2⟩ := Rise.cons.1 h
    unfold wiC finK
    split
    · next e =>
      rw [if_neg (ltK_ne e), List.length_cons, ih h2, List.length_cons]
      split <;> rfl
    · next e =>
      split
      · next e2 => simp
      · next e2 =>
        have e3 : ltK o.key y.key := by
          rcases ltK_total y.key o.key with q | q | q
          · exact absurd q e2
          · exact absurd q e
          · exact q
        rw [if_pos (finK_none.2 fun x hx q => ltK_ne (ltK_trans e3 (h1 x hx)) q.symm)]
        rfl
/-- at the end -/
theorem wiC_end {L : List ObS} {o : ObS} (h : ∀ x ∈ L, ltK x.key o.key) : wiC L o = L ++ [o] := by
  induction L with
  | nil => rfl
  | cons y l ih =>
    unfold wiC
    rw [if_pos (h y (List.mem_cons_self ..)), ih fun x hx => h x (List.mem_cons_of_mem _ hx)]
    rfl
/-- as the document says it: behind all that are less -/
theorem wiC_at {L : List ObS} {o : ObS} {n : Nat} (hn : n ≤ L.length) (hl : ∀ i, i < n → ltK (L.getD i default).key o.key) (he : n < L.length → ¬ ltK (L.getD n default).key o.key) :
    wiC L o = L.take n ++ o :: (if n < L.length ∧ (L.getD n default).key = o.key then L.drop (n + 1) else L.drop n) := by
  induction L generalizing n with
  | nil =>
    have : n = 0 := by simpa using hn
    subst this
    rfl
  | cons y l ih =>
    cases n with
    | zero =>
      have e := he (by simp)
      have e' : ¬ ltK y.key o.key := e
      unfold wiC
      rw [if_neg e']
      by_cases q : y.key = o.key
      · rw [if_pos q, if_pos ⟨by simp, q⟩]; rfl
      · rw [if_neg q, if_neg fun k => q k.2]; rfl
    | succ n =>
      have e : ltK y.key o.key := hl 0 (by omega)
      unfold wiC
      rw [if_pos e, ih (by simpa using hn) (fun i hi => hl (i + 1) (by omega)) (fun h => he (by simpa using h))]
      have e2 : (n + 1 < (y :: l).length ∧ ((y :: l).getD (n + 1) default).key = o.key) ↔ (n < l.length ∧ (l.getD n default).key = o.key) := by simp
      by_cases q : n < l.length ∧ (l.getD n default).key = o.key
      · rw [if_pos q, if_pos (e2.2 q)]; rfl
      · rw [if_neg q, if_neg fun k => q (e2.1 k)]; rfl
def deC : List ObS → List UInt8 → List ObS
  | [], _ => []
  | x :: l, k => if x.key = k then l else x :: deC l k
theorem deC_mem {L : List ObS} (h : Rise L) {k : List UInt8} {x : ObS} : x ∈ deC L k ↔ x ∈ L ∧ x.key ≠ k := by
  induction L with
  | nil => simp [deC]
  | cons y l ih =>
    obtain ⟨h1, h2⟩ := Rise.cons.1 h
    unfold deC
    split
    · next e =>
      subst e
      rw [List.mem_cons]
      constructor
      · intro h3; exact ⟨Or.inr h3, fun q => ltK_ne (h1 x h3) q.symm⟩
      · rintro ⟨rfl | h3, h4⟩
        · exact absurd rfl h4
        · exact h3
    · next e =>
      rw [List.mem_cons, ih h2, List.mem_cons]
      constructor
      · rintro (rfl | ⟨h3, h4⟩)
        · exact ⟨Or.inl rfl, e⟩
        · exact ⟨Or.inr h3, h4⟩
      · rintro ⟨rfl | h3, h4⟩
        · exact Or.inl rfl
        · exact Or.inr ⟨h3, h4⟩
theorem deC_rise {L : List ObS} (h : Rise L) (k : List UInt8) : Rise (deC L k) := by
  induction L with
  | nil => exact h
  | cons y l ih =>
    obtain ⟨h1, h2⟩ := Rise.cons.1 h
    unfold deC
    split
    · exact h2
    · exact Rise.cons.2 ⟨fun x hx => h1 x ((deC_mem h2).1 hx).1, ih h2⟩
theorem deC_fin {L : List ObS} (h : Rise L) (k k2 : List UInt8) : finK (deC L k) k2 = if k2 = k then none else finK L k2 := by
  split
  · next e => subst e; exact finK_none.2 fun x hx => ((deC_mem h).1 hx).2
  · next e =>
    cases q : finK L k2 with
    | none => exact finK_none.2 fun x hx => finK_none.1 q x ((deC_mem h).1 hx).1
    | some p =>
      obtain ⟨h1, h2⟩ := finK_mem q
      have : p ∈ deC L k := (deC_mem h).2 ⟨h1, fun r => e (h2.symm.trans r)⟩
      rw [← h2]
      exact finK_some (deC_rise h k) this
theorem deC_length (L : List ObS) (k : List UInt8) : (deC L k).length = if finK L k = none then L.length else L.length - 1 := by
  induction L with
  | nil => rfl
  | cons y l ih =>
    unfold deC finK
    split
    · simp
    · rw [List.length_cons, ih, List.length_cons]
      split
      · rfl
      · next q =>
        have : 0 < l.length := by
          cases l with
          | nil => exact absurd rfl q
          | cons _ _ => simp
        omega
end Go.Proofs.Ytndlfmofjmieaaa.Gf

namespace Go.Proofs.Ytndlfmofjmieaaa.Gf
set_option linter.unusedVariables false
set_option linter.unusedSimpArgs false
open Go.RowKit
def owK : List ObS → Int → Option Int
  | [], _ => none
  | x :: l, s => if s ∈ x.st then some x.ep else owK l s
theorem owK_none {L : List ObS} {s : Int} : owK L s = none ↔ ∀ o ∈ L, s ∉ o.st := by
  induction L with
  | nil =>
    constructor
    · intro _ o h; cases h
    · intro _; rfl
  | cons x l ih =>
    unfold owK
    split
    · next e =>
      constructor
      · intro h; cases h
      · intro h; exact absurd e (h x (List.mem_cons_self ..))
    · next e =>
      rw [ih]
      constructor
      · intro h o ho
        rcases List.mem_cons.1 ho with rfl | ho
        · exact e
        · exact h o ho
      · exact fun h o ho => h o (List.mem_cons_of_mem _ ho)
theorem owK_some {L : List ObS} {s e : Int} (h : owK L s = some e) : ∃ o ∈ L, s ∈ o.st ∧ o.ep = e := by
  induction L with
  | nil => cases h
  | cons x l ih =>
    unfold owK at h
    split at h
    · next q => cases h; exact ⟨x, List.mem_cons_self .., q, rfl⟩
    · obtain ⟨o, h1, h2⟩ := ih h; exact ⟨o, List.mem_cons_of_mem _ h1, h2⟩
/-- no stripe is two objects' -/
def Disj (L : List ObS) : Prop := ∀ o ∈ L, ∀ p ∈ L, ∀ s, s ∈ o.st → s ∈ p.st → o = p
theorem owK_of {L : List ObS} (h : Disj L) {o : ObS} (ho : o ∈ L) {s : Int} (hs : s ∈ o.st) : owK L s = some o.ep := by
  cases e : owK L s with
  | none => exact absurd hs (owK_none.1 e o ho)
  | some p =>
    obtain ⟨q, h1, h2, h3⟩ := owK_some e
    rw [← h3, h q h1 o ho s h2 hs]
def fitC (g : GeoS) (L : List ObS) (o : ObS) : Prop := OkO o ∧ (o.st.length : Int) = neG g o.len ∧ (∀ s ∈ o.st, owK L s = none ∧ s < g.s) ∧ o.st.Nodup
instance (g : GeoS) (L : List ObS) (o : ObS) : Decidable (fitC g L o) := inferInstanceAs (Decidable (_ ∧ _ ∧ _ ∧ _))
/-- a catalog that may be -/
structure InvC (g : GeoS) (L : List ObS) : Prop where
  rise : Rise L
  ok : ∀ o ∈ L, OkO o ∧ (o.st.length : Int) = neG g o.len ∧ (∀ s ∈ o.st, s < g.s) ∧ o.st.Nodup
  apart : Disj L
  few : (L.length : Int) ≤ g.o
theorem InvC.nil {g : GeoS} (h : okG g) : InvC g [] := by
  refine ⟨List.Pairwise.nil, (fun o ho => by cases ho), (fun o ho => by cases ho), ?_⟩
  obtain ⟨_, _, _, _, _, _, _, _, _, q, _⟩ := h
  show (0 : Int) ≤ _
  omega
theorem InvC.put {g : GeoS} {L : List ObS} {o : ObS} (h : InvC g L) (hf : fitC g L o) (hc : finK L o.key ≠ none ∨ (L.length : Int) < g.o) : InvC g (wiC L o) := by
  refine ⟨wiC_rise h.rise o, fun x hx => ?_, fun x hx y hy s h1 h2 => ?_, ?_⟩
  · rcases (wiC_mem h.rise).1 hx with rfl | ⟨h3, _⟩
    · exact ⟨hf.1, hf.2.1, fun s hs => (hf.2.2.1 s hs).2, hf.2.2.2⟩
    · exact h.ok x h3
  · rcases (wiC_mem h.rise).1 hx with rfl | ⟨h3, _⟩
    · rcases (wiC_mem h.rise).1 hy with rfl | ⟨h4, _⟩
      · rfl
      · exact absurd h2 (owK_none.1 (hf.2.2.1 s h1).1 y h4)
    · rcases (wiC_mem h.rise).1 hy with rfl | ⟨h4, _⟩
      · exact absurd h1 (owK_none.1 (hf.2.2.1 s h2).1 x h3)
      · exact h.apart x h3 y h4 s h1 h2
  · rw [wiC_length h.rise]
    have := h.few
    split
    · next q => rcases hc with q2 | q2
                · exact absurd q q2
                · omega
    · exact this
theorem InvC.del {g : GeoS} {L : List ObS} (h : InvC g L) (k : List UInt8) : InvC g (deC L k) := by
  refine ⟨deC_rise h.rise k, fun x hx => h.ok x ((deC_mem h.rise).1 hx).1, fun x hx y hy s h1 h2 => h.apart x ((deC_mem h.rise).1 hx).1 y ((deC_mem h.rise).1 hy).1 s h1 h2, ?_⟩
  rw [deC_length]
  have := h.few
  split
  · exact this
  · omega
/-- Plan's refusal ahead of space -/
def plP (g : GeoS) (L : List ObS) (k : List UInt8) (n : Int) : Int :=
  if k.length = 0 ∨ 64 < k.length then 190 else if n < 0 ∨ 2147483647 < n then 1 else if finK L k = none ∧ g.o ≤ (L.length : Int) then 191 else 0
/-- the free stripes, rising -/
def frL (g : GeoS) (L : List ObS) : List Int := ((List.range g.s.toNat).map fun (i : Nat) => (i : Int)).filter fun s => (owK L s).isNone
def frC (g : GeoS) (L : List ObS) : Nat := (frL g L).length
def plX (g : GeoS) (L : List ObS) (k : List UInt8) (n : Int) : Int := if ¬ plP g L k n = 0 then plP g L k n else if (frC g L : Int) < neG g n then 192 else 0
def plR (g : GeoS) (L : List ObS) (k : List UInt8) (n : Int) : List Int := if plX g L k n = 0 then (frL g L).take (neG g n).toNat else []
/-- the object of a record -/
def obR (r : RcS) (ep : Int) : ObS := ⟨r.key, r.len, ep, r.st⟩
noncomputable def apCX (g : GeoS) (L : List ObS) (r : RcS) (ep : Int) : Int :=
  if ¬ OkR r then 1 else if r.kind = 2 then (if finK L r.key = none then 193 else 0) else if finK L r.key = none ∧ g.o ≤ (L.length : Int) then 191 else if ¬ fitC g L (obR r ep) then 1 else 0
noncomputable def apCS (g : GeoS) (L : List ObS) (r : RcS) (ep : Int) : List ObS := if apCX g L r ep = 0 then (if r.kind = 2 then deC L r.key else wiC L (obR r ep)) else L
/-- New: what is told, of the objects that are in and those to come -/
noncomputable def neCL (g : GeoS) : List ObS → List ObS → Option (List ObS)
  | L, [] => some L
  | L, o :: M => if ¬ fitC g L o ∨ finK L o.key ≠ none then none else neCL g (wiC L o) M
noncomputable def neCX (g : GeoS) (M : List ObS) : Int := if ¬ okG g then 50 else if g.o < (M.length : Int) then 1 else if neCL g [] M = none then 1 else 0
end Go.Proofs.Ytndlfmofjmieaaa.Gf

namespace Go.Proofs.Ytndlfmofjmieaaa.Gf
set_option linter.unusedVariables false
set_option linter.unusedSimpArgs false
open Go.RowKit
/-- what needs as many stripes as it has: none just where it has no bytes -/
theorem neG_zero {g : GeoS} (hg : okG g) {b : Int} (h : 0 ≤ b) : 0 ≤ neG g b := by
  obtain ⟨h1, _, _, h4, _⟩ := hg
  unfold neG
  split
  · next q =>
    have : 0 ≤ (b - 1) / (g.k * g.z) := Int.ediv_nonneg (by omega) (Int.mul_nonneg (by omega) (by omega))
    omega
  · exact Int.le_refl _
end Go.Proofs.Ytndlfmofjmieaaa.Gf

namespace Go.Proofs.Ytndlfmofjmieaaa.Gf
def CapO (v : Value) : Prop := ∀ a n c, v = .slice a n c → n ≤ c ∧ (a = none → c = 0)
theorem CapO.nil : CapO (.slice none 0 0) := fun a n c e => by simp at e; obtain ⟨rfl, rfl, rfl⟩ := e; exact ⟨Nat.le_refl _, fun _ => rfl⟩
theorem CapO.some {b o n c : Nat} (h : n ≤ c) : CapO (.slice (some ⟨b, o, none⟩) n c) := fun a n' c' e => by simp at e; obtain ⟨rfl, rfl, rfl⟩ := e; exact ⟨h, fun h => by cases h⟩
end Go.Proofs.Ytndlfmofjmieaaa.Gf
