/- TEXTS JOINED: ErLawM, ErOut, BkLawA, ErLaw. -/
import Derived.Test.YtkjolopdpihigaaTome4
import Derived.Test.YtkjolopdpihigaaTome8
import Derived.Test.YtkjolopdpihigaaTome9
import Derived.Test.YtkjolopdpihigaaTome7
/-
  WHAT THE STATEMENTS OF LAYER 7 ASK, as mathematics. No program's function is named here.
-/

namespace Go.Proofs.Ytkjolopdpihigaa.Gf
set_option linter.unusedVariables false
set_option linter.unusedSimpArgs false
open Go.RowKit

theorem hb_lt {h : List Bool} {i : Nat} (e : hb h i = true) : i < h.length := (pl7_at e).1
/-! Shards that are lost: junk in their place. -/
def lostP (x : List (List UInt8)) (h : List Bool) (j : List UInt8) (i : Nat) : List (List UInt8) := mkL x.length (fun r => if r < i ∧ hb h r = false then j else ro x r)
theorem lostP_length (x : List (List UInt8)) (h : List Bool) (j : List UInt8) (i : Nat) : (lostP x h j i).length = x.length := mkL_length _ _
theorem lostP_zero (x : List (List UInt8)) (h : List Bool) (j : List UInt8) : lostP x h j 0 = x := by
  unfold lostP
  rw [mkL_congr (g := ro x) (fun i hi => if_neg (by omega)), mkL_ro]
theorem lostP_keep {x : List (List UInt8)} {h : List Bool} {j : List UInt8} {i : Nat} (e : hb h i = true) : lostP x h j (i + 1) = lostP x h j i := mkL_congr fun r hr => by
  by_cases e2 : r = i
  · subst e2; rw [e, if_neg (by simp), if_neg (by simp)]
  · by_cases e3 : r < i ∧ hb h r = false
    · rw [if_pos e3, if_pos ⟨by omega, e3.2⟩]
    · rw [if_neg e3, if_neg fun q => e3 ⟨by omega, q.2⟩]
theorem lostP_step {x : List (List UInt8)} {h : List Bool} {j : List UInt8} {i : Nat} (e : hb h i = false) (hi : i < x.length) : (lostP x h j i).set i j = lostP x h j (i + 1) := by
  refine ro_ext (by rw [List.length_set, lostP_length, lostP_length]) fun r hr => ?_
  rw [List.length_set, lostP_length] at hr
  unfold lostP
  rw [ro_set (by rw [mkL_length]; exact hi), ro_mkL hr, ro_mkL hr]
  by_cases e2 : r = i
  · subst e2; rw [if_pos rfl, if_pos ⟨by omega, e⟩]
  · rw [if_neg e2]
    by_cases e3 : r < i ∧ hb h r = false
    · rw [if_pos e3, if_pos ⟨by omega, e3.2⟩]
    · rw [if_neg e3, if_neg fun q => e3 ⟨by omega, q.2⟩]
theorem lost_row {x : List (List UInt8)} {h : List Bool} {j : List UInt8} {i r : Nat} (hr : r < x.length) (e : hb h r = true) : ro (lostP x h j i) r = ro x r := by
  unfold lostP
  rw [ro_mkL hr, if_neg fun q => by rw [e] at q; cases q.2]
theorem lost_ok {k m : Nat} {D : List (List UInt8)} {h : List Bool} {j : List UInt8} {i : Nat} (hD : D.length = k) (hE : Even D) (hh : h.length = k + m) : OkH k m h (lostP (encL m k (parF k) D) h j i) := by
  refine ⟨by omega, by rw [lostP_length, encL_length]; omega, fun r s hr hs => ?_⟩
  have h1 := hb_lt hr
  have h2 := hb_lt hs
  rw [lost_row (by rw [encL_length]; omega) hr, lost_row (by rw [encL_length]; omega) hs, enc_len hE (by omega), enc_len hE (by omega)]
theorem lost_small {k m : Nat} {D : List (List UInt8)} {h : List Bool} {j : List UInt8} {i : Nat} (hD : D.length = k) (hE : Even D) (hS : Small D) (hkm : k + m ≤ 256) (hh : h.length = k + m) : SmallH h (lostP (encL m k (parF k) D) h j i) := by
  refine ⟨by rw [lostP_length, encL_length]; omega, fun r hr => ?_⟩
  have h1 := hb_lt hr
  rw [lost_row (by rw [encL_length]; omega) hr, enc_len hE (by omega)]
  exact hS.2 0
/-- places of those that are there -/
theorem pl7_bound {k m : Nat} {h : List Bool} (hh : h.length = k + m) (hf : k ≤ (thr h h.length).length) : ∀ i, i < k → pl7 h i < k + m := fun i hi => by
  have := (pl7_in (h := h) (i := i) (by omega)).1
  omega
theorem pl7_has {k : Nat} {h : List Bool} (hf : k ≤ (thr h h.length).length) {i : Nat} (hi : i < k) : hb h (pl7 h i) = true := (pl7_in (by omega)).2
theorem lost_back {k m : Nat} {D : List (List UInt8)} {h : List Bool} {j : List UInt8} {i : Nat} (h1 : 1 ≤ k) (h2 : k + m ≤ 256) (hD : D.length = k) (hE : Even D) (hh : h.length = k + m) (hf : k ≤ (thr h h.length).length) (hV : IsInv k (rowsF k (pl7 h)) (invF k (pl7 h))) :
    decR k m h (lostP (encL m k (parF k) D) h j i) = encL m k (parF k) D := by
  rw [(decX_ok (okC_mk h1 h2) (lost_ok hD hE hh) hf).2, dec_back (m := m) (D := D) h1 hV (pl7_bound hh hf) hD hE fun r hr => lost_row (by rw [encL_length, hD]; exact pl7_bound hh hf r hr) (pl7_has hf hr)]

/-! Shards that do not matter: changed by a byte. -/
def ltr (h : List Bool) (k : Int) (r : Nat) : Prop := (((thr h (r + 1)).length : Nat) : Int) > k ∨ hb h r = false
noncomputable def latP (L : List (List UInt8)) (h : List Bool) (k : Int) (y : UInt8) (i c : Nat) : List (List UInt8) := by
  classical
  exact mkL L.length (fun r => upto (fun n => if ltr h k r ∧ (r < i ∨ (r = i ∧ n < c)) then co (ro L r) n ^^^ y else co (ro L r) n) (ro L r).length)
theorem latP_length (L : List (List UInt8)) (h : List Bool) (k : Int) (y : UInt8) (i c : Nat) : (latP L h k y i c).length = L.length := by unfold latP; rw [mkL_length]
theorem latP_row {L : List (List UInt8)} {h : List Bool} {k : Int} {y : UInt8} {i c r : Nat} (hr : r < L.length) : (ro (latP L h k y i c) r).length = (ro L r).length := by unfold latP; rw [ro_mkL hr, upto_length]
theorem latP_len (L : List (List UInt8)) (h : List Bool) (k : Int) (y : UInt8) (i c r : Nat) : (ro (latP L h k y i c) r).length = (ro L r).length := by
  by_cases hr : r < L.length
  · exact latP_row hr
  · rw [ro_ge (by rw [latP_length]; omega), ro_ge (by omega)]
theorem latP_zero (L : List (List UInt8)) (h : List Bool) (k : Int) (y : UInt8) : latP L h k y 0 0 = L := by
  refine L_ext (latP_length _ _ _ _ _ _) (fun r hr => latP_len _ _ _ _ _ _ _) fun r n hr hn => ?_
  rw [latP_length] at hr
  rw [latP_row hr] at hn
  unfold latP
  rw [ro_mkL hr, co_upto_in hn, if_neg (by omega)]
theorem latP_at {L : List (List UInt8)} {h : List Bool} {k : Int} {y : UInt8} {i c : Nat} (hi : i < L.length) (hc : c < (ro L i).length) : co (ro (latP L h k y i c) i) c = co (ro L i) c := by
  unfold latP
  rw [ro_mkL hi, co_upto_in hc, if_neg (by omega)]
theorem latP_step {L : List (List UInt8)} {h : List Bool} {k : Int} {y : UInt8} {i c : Nat} (hl : ltr h k i) (hi : i < L.length) (hc : c < (ro L i).length) : setL (latP L h k y i c) i c (co (ro L i) c ^^^ y) = latP L h k y i (c + 1) := by
  refine L_ext (by rw [setL_length, latP_length, latP_length]) (fun r hr => by rw [setL_row (by rw [latP_length]; exact hi), latP_len, latP_len]) fun r n hr hn => ?_
  rw [setL_length, latP_length] at hr
  rw [setL_row (by rw [latP_length]; exact hi), latP_len] at hn
  rw [setL_co (by rw [latP_length]; exact hi) (by rw [latP_len]; exact hc)]
  unfold latP
  rw [ro_mkL hr, co_upto_in hn, ro_mkL hr, co_upto_in hn]
  by_cases e : r = i ∧ n = c
  · obtain ⟨rfl, rfl⟩ := e
    rw [if_pos ⟨rfl, rfl⟩, if_pos ⟨hl, Or.inr ⟨rfl, by omega⟩⟩]
  · rw [if_neg e]
    by_cases e2 : ltr h k r ∧ (r < i ∨ (r = i ∧ n < c))
    · rw [if_pos e2, if_pos ⟨e2.1, by omega⟩]
    · rw [if_neg e2, if_neg fun q => e2 ⟨q.1, by have := q.2; omega⟩]
theorem latP_next {L : List (List UInt8)} {h : List Bool} {k : Int} {y : UInt8} {i c : Nat} (hi : i < L.length) (hc : ¬ ltr h k i ∨ (ro L i).length ≤ c) : latP L h k y i c = latP L h k y (i + 1) 0 := by
  refine L_ext (by rw [latP_length, latP_length]) (fun r hr => by rw [latP_len, latP_len]) fun r n hr hn => ?_
  rw [latP_length] at hr
  rw [latP_len] at hn
  unfold latP
  rw [ro_mkL hr, co_upto_in hn, ro_mkL hr, co_upto_in hn]
  by_cases e2 : ltr h k r ∧ (r < i ∨ (r = i ∧ n < c))
  · rw [if_pos e2, if_pos ⟨e2.1, by omega⟩]
  · rw [if_neg e2, if_neg fun q => ?_]
    refine e2 ⟨q.1, ?_⟩
    rcases hc with hc | hc
    · by_cases e3 : r = i
      · subst e3; exact absurd q.1 hc
      · have := q.2; omega
    · by_cases e3 : r = i
      · subst e3; exact Or.inr ⟨rfl, by omega⟩
      · have := q.2; omega
theorem lat_small {L : List (List UInt8)} {h : List Bool} {k : Int} {y : UInt8} {i c : Nat} (hS : Small L) : Small (latP L h k y i c) := ⟨by rw [latP_length]; exact hS.1, fun r => by rw [latP_len]; exact hS.2 r⟩
theorem lat_row {L : List (List UInt8)} {h : List Bool} {k : Int} {y : UInt8} {i c r : Nat} (hr : r < L.length) (hl : ¬ ltr h k r) : ro (latP L h k y i c) r = ro L r := by
  refine co_ext (latP_row hr) fun n hn => ?_
  rw [latP_row hr] at hn
  unfold latP
  rw [ro_mkL hr, co_upto_in hn, if_neg fun q => hl q.1]
theorem lat_dec {L : List (List UInt8)} {h : List Bool} {k m : Int} {y : UInt8} {i c : Nat} : decX k m h (latP L h k y i c) = decX k m h L ∧ decR k m h (latP L h k y i c) = decR k m h L := by
  have hx : decX k m h (latP L h k y i c) = decX k m h L := decX_len (latP_length _ _ _ _ _ _) (fun r => latP_len _ _ _ _ _ _ _)
  refine ⟨hx, ?_⟩
  by_cases e : decX k m h L = 0
  · obtain ⟨k', m', rfl, rfl, h1, h2, h3, h4, h5, h6, h7⟩ := dec_zero e
    obtain ⟨k2, m2, e1, e2, _, _, _, _, _, _, h8⟩ := dec_zero (hx.trans e)
    obtain rfl : k' = k2 := by omega
    obtain rfl : m' = m2 := by omega
    rw [h7, h8, dec_same h1 fun r hr => lat_row (by rw [h4]; exact pl7_bound h3 h6 r hr) ?_]
    rintro (q | q)
    · rw [thr_yes (pl7_has h6 hr), List.length_append, pl7_rank (by omega)] at q
      simp at q
      omega
    · rw [pl7_has h6 hr] at q; cases q
  · rw [dec_not e, dec_not (fun q => e (hx.symm.trans q))]

/-! All but one are there. -/
theorem thr_most {h : List Bool} {q : Int} (n : Nat) (hq : ∀ i : Nat, i < n → (i : Int) ≠ q → hb h i = true) : n ≤ (thr h n).length + 1 ∧ ((n : Int) ≤ q ∨ q < 0 → n ≤ (thr h n).length) := by
  induction n with
  | zero => exact ⟨by omega, fun _ => by omega⟩
  | succ n ih =>
    obtain ⟨i1, i2⟩ := ih fun i hi => hq i (by omega)
    by_cases e : (n : Int) = q
    · refine ⟨?_, fun h => by omega⟩
      have := i2 (Or.inl (by omega))
      have h2 := thr_mono (h := h) (show n ≤ n + 1 by omega)
      omega
    · have hn := hq n (by omega) e
      rw [thr_yes hn, List.length_append]
      refine ⟨by simp; omega, fun h => by have := i2 (by omega); simp; omega⟩
theorem thr_whole {h : List Bool} (n : Nat) (hq : ∀ i : Nat, i < n → hb h i = true) : (thr h n).length = n := by
  induction n with
  | zero => rfl
  | succ n ih => rw [thr_yes (hq n (by omega)), List.length_append, ih fun i hi => hq i (by omega)]; rfl
def allB7 (s : Nat) (q m : Int) : List Bool := (List.range s).map (fun (i : Nat) => decide ((i : Int) ≠ q) || decide (m = 0))
theorem allB7_length (s : Nat) (q m : Int) : (allB7 s q m).length = s := by simp [allB7]
theorem allB7_hb {s : Nat} {q m : Int} {i : Nat} (hi : i < s) : hb (allB7 s q m) i = (decide ((i : Int) ≠ q) || decide (m = 0)) := by simp [hb, allB7, List.getD, hi]
theorem allB7_few {k m : Nat} (q : Int) : k ≤ (thr (allB7 (k + m) q m) (allB7 (k + m) q m).length).length := by
  rw [allB7_length]
  by_cases e : m = 0
  · subst e
    rw [thr_whole (k + 0) fun i hi => by rw [allB7_hb hi]; simp]
    omega
  · have := (thr_most (h := allB7 (k + m) q m) (q := q) (k + m) fun i hi hne => by rw [allB7_hb hi]; simp [hne]).1
    omega
/-- a stripe, decoded from itself -/
theorem self_ok {k m : Nat} {D : List (List UInt8)} {h : List Bool} (hD : D.length = k) (hE : Even D) (hh : h.length = k + m) : OkH k m h (encL m k (parF k) D) := by
  refine ⟨by omega, by rw [encL_length]; omega, fun r s hr hs => ?_⟩
  have h1 := hb_lt hr
  have h2 := hb_lt hs
  rw [enc_len hE (by omega), enc_len hE (by omega)]
theorem self_back {k m : Nat} {D : List (List UInt8)} {h : List Bool} (h1 : 1 ≤ k) (h2 : k + m ≤ 256) (hD : D.length = k) (hE : Even D) (hh : h.length = k + m) (hf : k ≤ (thr h h.length).length) (hV : IsInv k (rowsF k (pl7 h)) (invF k (pl7 h))) :
    decR k m h (encL m k (parF k) D) = encL m k (parF k) D := by
  rw [(decX_ok (okC_mk h1 h2) (self_ok hD hE hh) hf).2, dec_back (m := m) (D := D) h1 hV (pl7_bound hh hf) hD hE fun r hr => rfl]
theorem addL_len {A B : List (List UInt8)} (i : Nat) : (ro (addL A B) i).length = (ro A i).length := by
  by_cases h : i < A.length
  · exact addL_row h
  · rw [ro_ge (by rw [addL_length]; omega), ro_ge (by omega)]
/-- the sum's -/
theorem sum_dec {k m : Nat} {A B : List (List UInt8)} {h : List Bool} (h1 : 1 ≤ k) (h2 : k + m ≤ 256) (hA : A.length = k + m) (hB : B.length = k + m) (hl : ∀ i, i < A.length → (ro A i).length = (ro B i).length) (hh : h.length = k + m) (hE : EvenH h A) (hf : k ≤ (thr h h.length).length) :
    encL m k (parF k) (decD k (invF k (pl7 h)) (pl7 h) (addL A B)) = addL (encL m k (parF k) (decD k (invF k (pl7 h)) (pl7 h) A)) (encL m k (parF k) (decD k (invF k (pl7 h)) (pl7 h) B)) := by
  have hp := pl7_bound (m := m) hh hf
  rw [dec_add h1 (fun i hi => by rw [hA]; exact hp i hi) (fun i hi => hE _ _ (pl7_has hf hi) (pl7_has hf (by omega))) (hl _ (by rw [hA]; exact hp 0 (by omega))).symm]
  exact enc_add (decD_length _ _ _ _) (decD_length _ _ _ _) (by omega) (decD_even h1) (decD_even h1) (by rw [decD_row (by omega), decD_row (by omega)]; exact hl _ (by rw [hA]; exact hp 0 (by omega)))

end Go.Proofs.Ytkjolopdpihigaa.Gf

/-
  A ROW OF SLICES OF THE CALL's OWN WHOSE SLICES MAY LIE ANYWHERE; one shard of shards; bools of the call's own. No program's function is named here.
-/

namespace Go.Proofs.Ytkjolopdpihigaa.Gf
set_option linter.unusedVariables false
set_option linter.unusedSimpArgs false
open Go.RowKit

/-- the block G is the call's own; its slices read as L and lie elsewhere -/
structure OutS (w : World) (G : Nat) (L : List (List UInt8)) : Prop where
  lt : G < w.heap.size
  cell : ∀ i, i < L.length → ∃ x, w.cell? ⟨G, i, none⟩ = some x ∧ Rd w x (ro L i) ∧ Apart G x
  free : ∀ i, w.frozen? ⟨G, i, none⟩ = false
theorem Os.outS {w : World} {base T u G n C : Nat} {L : List (List UInt8)} (h : Os w base T u (.slice (some ⟨G, 0, none⟩) n C) L) : OutS w G L := by
  obtain ⟨vals, hv, hr⟩ := h
  have hl : vals.length = L.length := by have := hv.1; omega
  have hn : n = L.length := by
    obtain ⟨_, ⟨e, _⟩ | ⟨g, cap, cur, e, _⟩⟩ := hv <;> simp at e
    exact e.2.1
  subst hn
  refine ⟨(World.ownsRow.lt hv G rfl).2, fun i hi => ?_, fun i => World.ownsRow.frozenAt hv i⟩
  have hx : vals[i]? = some vals[i] := List.getElem?_eq_getElem (by omega)
  refine ⟨vals[i], by rw [World.ownsRow.cellAt hv i (by omega), hx], Rd.owned (hr.own i _ hx), ?_⟩
  intro a m c e
  have ho := hr.out i _ hx
  by_cases hm : m = 0
  · exact Or.inl hm
  · right
    have hown := hr.own i _ hx
    rw [e] at ho hown
    obtain ⟨_, ⟨e2, _⟩ | ⟨g, cap, cur, e2, _⟩⟩ := hown
    · simp at e2
    · simp at e2
      obtain ⟨rfl, _, _⟩ := e2
      rcases ho with e3 | e3
      · simp [Value.ownBlock] at e3
      · simpa [Value.ownBlock] using e3
theorem OutS.rs {w : World} {G C : Nat} {L : List (List UInt8)} (h : OutS w G L) (hc : L.length ≤ C) (hm : C ≤ maxLen) : Rs w (.slice (some ⟨G, 0, none⟩) L.length C) L :=
  ⟨_, C, rfl, hc, hm, nofun, fun i hi => by
    obtain ⟨x, h1, h2, _⟩ := h.cell i hi
    exact ⟨G, 0, x, rfl, h.lt, by rw [Nat.zero_add]; exact h1, h2⟩⟩
theorem OutS.put {w : World} {G i : Nat} {L : List (List UInt8)} {x : Value} {p : List UInt8} (h : OutS w G L) (hi : i < L.length) (hx : Rd w x p) (ha : Apart G x) : OutS (w.setCell ⟨G, i, none⟩ x) G (L.set i p) := by
  have O := (Only.refl G w).setCell i x
  refine ⟨by rw [O.size]; exact h.lt, fun j hj => ?_, fun j => by rw [World.frozen?_setCell]; exact h.free j⟩
  rw [List.length_set] at hj
  rw [ro_set hi]
  obtain ⟨y, k1, k2, k3⟩ := h.cell j hj
  by_cases e : j = i
  · subst e
    rw [if_pos rfl]
    exact ⟨x, World.cell?_setCell_same w ⟨G, j, none⟩ x k1, hx.only ha O, ha⟩
  · rw [if_neg e]
    exact ⟨y, by rw [World.cell?_setCell_other w ⟨G, i, none⟩ ⟨G, j, none⟩ x (by simp <;> omega)]; exact k1, k2.only k3 O, k3⟩
theorem Os.drw {w : World} {base T u : Nat} {v : Value} {L : List (List UInt8)} (h : Os w base T u v L) : Os w.drew base T u v L := by
  obtain ⟨vals, hv, hr⟩ := h
  exact ⟨vals, hv, ⟨fun i x hx => hr.own i x hx, hr.diff, hr.out⟩⟩
theorem Os.drwN {w : World} {base T u : Nat} {v : Value} {L : List (List UInt8)} (h : Os w base T u v L) (n : Nat) : Os (w.drewN n) base T u v L := by
  obtain ⟨vals, hv, hr⟩ := h
  exact ⟨vals, hv, ⟨fun i x hx => hr.own i x hx, hr.diff, hr.out⟩⟩
/-- one shard -/
theorem Rs.one {w : World} {b off n c : Nat} {L : List (List UInt8)} (h : Rs w (.slice (some ⟨b, off, none⟩) n c) L) {i : Nat} (hi : i < L.length) : Rs w (.slice (some ⟨b, off + i, none⟩) 1 (c - i)) [ro L i] := by
  have h1 := h.rest (k := i) (by omega) (L.length - i) rfl
  have h2 := h1.first (k := 1) (by rw [List.length_drop]; omega)
  refine h2.as ?_
  refine ro_ext (by rw [List.length_take, List.length_drop]; simp; omega) fun j hj => ?_
  rw [List.length_take, List.length_drop] at hj
  have e : j = 0 := by omega
  subst e
  rw [ro_take (by omega), ro_drop, Nat.add_zero]
  rfl
/-- bools of the call's own: the first n of f -/
def BoolF (w : World) (base e g n : Nat) (f : Nat → Bool) : Prop := w.ownsRow base e 1 (.slice (some ⟨g, 0, none⟩) n n) n ((List.range n).map fun i => Value.bool (f i))
theorem BoolF.made {w : World} {base e g n : Nat} (h : w.ownsRow base e 1 (.slice (some ⟨g, 0, none⟩) n n) n (madeCells (Value.cells (.bool false)) (n * 1)).toList) : BoolF w base e g n (fun _ => false) := by
  unfold BoolF
  have e1 : (madeCells (Value.cells (.bool false)) (n * 1)).toList = List.replicate n (.bool false) := by
    rw [Nat.mul_one]; exact toList_madeCells_one _ _
  rw [e1] at h
  have e2 : (List.range n).map (fun _ => Value.bool false) = List.replicate n (.bool false) := by
    rw [List.map_const']; simp
  rw [e2]; exact h
theorem BoolF.cell {w : World} {base e g n : Nat} {f : Nat → Bool} (h : BoolF w base e g n f) {j : Nat} (hj : j < n) : w.cell? ⟨g, j, none⟩ = some (.bool (f j)) := by
  rw [World.ownsRow.cellAt h j (by omega), List.getElem?_map, List.getElem?_range hj]; rfl
theorem BoolF.free {w : World} {base e g n : Nat} {f : Nat → Bool} (h : BoolF w base e g n f) (j : Nat) : w.frozen? ⟨g, j, none⟩ = false := World.ownsRow.frozenAt h j
theorem BoolF.lt {w : World} {base e g n : Nat} {f : Nat → Bool} (h : BoolF w base e g n f) : base ≤ g ∧ g < w.heap.size := World.ownsRow.lt h g rfl
theorem BoolF.store {w : World} {base e g n : Nat} {f f' : Nat → Bool} (h : BoolF w base e g n f) {j : Nat} (hj : j < n) (x : Bool) (hf : ∀ t, t < n → f' t = if t = j then x else f t) : BoolF (w.setCell ⟨g, j, none⟩ (.bool x)) base e g n f' := by
  have e1 := (World.ownsRow.stored h j (.bool x)).1
  unfold BoolF
  have e2 : ((List.range n).map fun i => Value.bool (f i)).set j (.bool x) = (List.range n).map fun i => Value.bool (f' i) := by
    refine List.ext_getElem (by simp) fun t h1 h2 => ?_
    simp at h2
    rw [List.getElem_set]
    by_cases e : t = j
    · subst e; simp [hf t h2]
    · rw [if_neg fun h : j = t => e h.symm]; simp [hf t h2, e]
  rw [← e2]; exact e1
theorem BoolF.rdB {w : World} {base e g n : Nat} {f : Nat → Bool} (h : BoolF w base e g n f) (hn : n ≤ 1000000) : RdB w (.slice (some ⟨g, 0, none⟩) n n) ((List.range n).map f) := by
  have hl : ((List.range n).map f).length = n := by simp
  refine ⟨some ⟨g, 0, none⟩, n, by rw [hl], by rw [hl]; exact Nat.le_refl _, by unfold maxLen; omega, nofun, fun i hi => ?_⟩
  rw [hl] at hi
  refine ⟨g, 0, rfl, h.lt.2, ?_⟩
  rw [Nat.zero_add, h.cell hi]
  simp [hb, List.getD, hi]

end Go.Proofs.Ytkjolopdpihigaa.Gf

/-
  CONTRACTS AS THE STATEMENTS OF LAYER 6 NEED THEM.
-/



namespace Go.Proofs.Ytkjolopdpihigaa.Gf
set_option linter.unusedVariables false
set_option linter.unusedSimpArgs false
open Go.RowKit

theorem Rs.lenEq {w : World} {a : Option Addr} {n c : Nat} {L : List (List UInt8)} (h : Rs w (.slice a n c) L) : n = L.length := by
  obtain ⟨a', c', e⟩ := h.form
  simp at e
  exact e.2.1
theorem Rs.capLe {w : World} {a : Option Addr} {n c : Nat} {L : List (List UInt8)} (h : Rs w (.slice a n c) L) : L.length ≤ c ∧ c ≤ maxLen := by
  obtain ⟨a', c', e, h1, h2, _⟩ := h
  simp at e
  obtain ⟨_, _, rfl⟩ := e
  exact ⟨h1, h2⟩
theorem Os.somewhere {w : World} {base T u : Nat} {v : Value} {L : List (List UInt8)} (h : Os w base T u v L) (h0 : 0 < L.length) : ∃ G C, v = .slice (some ⟨G, 0, none⟩) L.length C ∧ base ≤ G ∧ G < w.heap.size := by
  obtain ⟨vals, hv, hr⟩ := h
  have hv' := hv
  obtain ⟨_, ⟨e, hn⟩ | ⟨G, cap, cur, e, _⟩⟩ := hv
  · omega
  · subst e
    have := World.ownsRow.lt hv' G rfl
    exact ⟨G, cap, rfl, this.1, this.2⟩
theorem same6_t {va vb : Value} {A B : List (List UInt8)} {w : World} (hA : Rs w va A) (hB : Rs w vb B) (h : A = B) : Calls Try.prog 14 #[va, vb] w fun e w' => e = .returned (.bool true) ∧ Below w.heap.size w w' :=
  (same6_any hA hB).mono fun e w' ⟨he, n, hw⟩ => ⟨by rw [he]; exact congrArg (fun b => Ending.returned (.bool b)) (decide_eq_true h), by rw [hw]; exact (Below.refl _ _).drewN n⟩
theorem same6_b {va vb : Value} {A B : List (List UInt8)} {w : World} (hA : Rs w va A) (hB : Rs w vb B) : Calls Try.prog 14 #[va, vb] w fun e w' => ∃ t, e = .returned (.bool t) ∧ Below w.heap.size w w' :=
  (same6_any hA hB).mono fun e w' ⟨he, n, hw⟩ => ⟨_, he, by rw [hw]; exact (Below.refl _ _).drewN n⟩
theorem fits_t {b : Nat} {k m : Nat} {v : Value} {L : List (List UInt8)} {w : World} (hF : FieldAt w b) (h1 : 1 ≤ k) (h2 : k + m ≤ 256) (hL : L.length = k) (hE : Even L) (hS : Small L) (h : Rs w v (encL m k (parF k) L)) {x y : Int} (hx : x = (k : Int)) (hy : y = (m : Int)) :
    Calls Try.prog 18 #[.pointer (some ⟨b, 0, none⟩), .int .i64 x, .int .i64 y, v] w (MakesB w true 0) := by
  have := fits_ok hF h1 h2 h (by rw [encL_length, hL]) (enc_even hE (by omega)) (enc_small hE (by omega) hS) hx hy
  rw [enc_take hL] at this
  have e : sameL (encL m k (parF k) L) (encL m k (parF k) L) = true := decide_eq_true rfl
  rwa [e] at this
theorem enc_zeroN {k m : Nat} {L : List (List UInt8)} (h : encX k m L = 0) : 1 ≤ k ∧ k + m ≤ 256 ∧ L.length = k ∧ Even L := by
  obtain ⟨k', m', e1, e2, h1, h2, h3, h4, _⟩ := enc_zero h
  have e1' : k = k' := by omega
  have e2' : m = m' := by omega
  subst e1' e2'
  exact ⟨h1, h2, h3, h4⟩

end Go.Proofs.Ytkjolopdpihigaa.Gf

/-
  WHAT THE STATEMENTS OF LAYER 7 NEED, together.
-/



namespace Go.Proofs.Ytkjolopdpihigaa.Gf

end Go.Proofs.Ytkjolopdpihigaa.Gf

