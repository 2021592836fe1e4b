/- TEXTS JOINED: VaApp, ArLL, StAp. -/
import Derived.Test.YtddnfhfangfgeaaGreatTome12
import Derived.Maps.AppendAt
import Derived.Test.YtddnfhfangfgeaaGreatTome15
import Derived.Test.YtddnfhfangfgeaaGreatTome14
import Derived.Test.YtddnfhfangfgeaaGreatTome22


namespace Go.Proofs.YtddnfhfangfgeaaGreat.Gf
set_option linter.unusedVariables false
set_option linter.unusedSimpArgs false
open Go.RowKit
theorem OwnH.rdA {w : World} {base : Nat} {v : Value} {L : List (Int × List UInt8)} (h : OwnH w base v L) (hl : L.length ≤ 100000) : RdH w v L := by
  obtain ⟨T, h1, h2⟩ := h
  exact ⟨T, h1, h2.rd (by rw [← h1, bareT_length] at hl; exact hl)⟩
theorem ToldH.form {w : World} {G : Nat → Prop} {v : Value} {L : List (Int × List UInt8)} (h : ToldH w G v L) : ∃ a c, v = .slice a L.length c := by
  obtain ⟨T, h1, h2⟩ := h
  obtain ⟨a, c, e⟩ := h2.rd.form
  exact ⟨a, c, by rw [e, ← h1, bareT_length]⟩
theorem ToldH.wide {w : World} {G G' : Nat → Prop} {v : Value} {L : List (Int × List UInt8)} (h : ToldH w G v L) (hg : ∀ k, G' k → G k) : ToldH w G' v L := by
  obtain ⟨T, h1, h2⟩ := h
  exact ⟨T, h1, h2.rd, fun x n c e => (h2.ap x n c e).imp id (fun h3 h4 => h3 (hg _ h4)), fun t ht x n c e => (h2.each t ht x n c e).imp id (fun h3 h4 => h3 (hg _ h4))⟩
/-- what may turn: the array's blocks, and both rows -/
def Hot2 (G : Nat → Prop) (v u : Value) : Nat → Prop := fun k => G k ∨ v.ownBlock = some k ∨ u.ownBlock = some k
structure Two (w : World) (base : Nat) (G : Nat → Prop) (v u : Value) (vs us : List Value) (L M : List (List (Int × List UInt8))) : Prop where
  rv : w.ownsRow base 59 1 v vs.length vs
  ru : w.ownsRow base 59 1 u us.length us
  lv : vs.length = L.length
  lu : us.length = M.length
  nv : ∀ k, v.ownBlock = some k → ¬ G k
  nu : ∀ k, u.ownBlock = some k → ¬ G k
  nn : ∀ k, v.ownBlock = some k → u.ownBlock ≠ some k
  ev : ∀ i, i < L.length → ToldH w (Hot2 G v u) (vs.getD i undef) (L.getD i [])
  eu : ∀ i, i < M.length → ToldH w (Hot2 G v u) (us.getD i undef) (M.getD i [])
section
variable {w w' w1 w2 : World} {base : Nat} {G G' : Nat → Prop} {v u v' x : Value} {vs us : List Value} {L M : List (List (Int × List UInt8))} {l : List (Int × List UInt8)}
theorem Two.nil (w : World) (base : Nat) (G : Nat → Prop) : Two w base G (.slice none 0 0) (.slice none 0 0) [] [] [] [] :=
  ⟨⟨rfl, Or.inl ⟨rfl, rfl⟩⟩, ⟨rfl, Or.inl ⟨rfl, rfl⟩⟩, rfl, rfl, (fun k h => by cases h), (fun k h => by cases h), (fun k h => by cases h), (fun i hi => absurd hi (Nat.not_lt_zero _)), (fun i hi => absurd hi (Nat.not_lt_zero _))⟩
theorem Two.below (h : Two w base G v u vs us L M) (hb : Below w.heap.size w w') : Two w' base G v u vs us L M :=
  ⟨owns_later h.rv hb, owns_later h.ru hb, h.lv, h.lu, h.nv, h.nu, h.nn, fun i hi => (h.ev i hi).below hb, fun i hi => (h.eu i hi).below hb⟩
theorem Two.lt (h : Two w base G v u vs us L M) (hG : ∀ k, G k → k < w.heap.size) : ∀ k, Hot2 G v u k → k < w.heap.size := by
  intro k hk
  rcases hk with h1 | h1 | h1
  · exact hG k h1
  · exact (row_at h.rv h1).2.1
  · exact (row_at h.ru h1).2.1
theorem Two.grew (h : Two w base G v u vs us L M) (g : Grew G w G' w') : Two w' base G' v u vs us L M := by
  have gg : Grew (Hot2 G v u) w (Hot2 G' v u) w' := by
    refine g.wide (fun k hk => Or.inl hk) (fun k hk => ?_)
    rcases hk with h1 | h1
    · rcases g.grow k h1 with h2 | h2
      · exact Or.inl (Or.inl h2)
      · exact Or.inr h2
    · exact Or.inl (Or.inr h1)
  refine ⟨owns_block h.rv (fun k hk => g.turn.block k (row_at h.rv hk).2.1 (h.nv k hk)), owns_block h.ru (fun k hk => g.turn.block k (row_at h.ru hk).2.1 (h.nu k hk)), h.lv, h.lu, fun k hk => g.off (row_at h.rv hk).2.1 (h.nv k hk), fun k hk => g.off (row_at h.ru hk).2.1 (h.nu k hk), h.nn, fun i hi => (h.ev i hi).grew gg, fun i hi => (h.eu i hi).grew gg⟩
theorem getD_snoc {α : Type} {l : List α} {x d : α} {i : Nat} : (l ++ [x]).getD i d = if i < l.length then l.getD i d else if i = l.length then x else d := by
  by_cases h : i < l.length
  · rw [if_pos h]; simp [List.getD, h, List.getElem?_append_left]
  · rw [if_neg h]
    by_cases h2 : i = l.length
    · subst h2; simp [List.getD]
    · rw [if_neg h2]
      have : (l ++ [x])[i]? = none := List.getElem?_eq_none (by simp; omega)
      simp [List.getD, this]
/-- a list is appended to the first row -/
theorem Two.push (h : Two w base G v u vs us L M) (hG : ∀ k, G k → k < w.heap.size) (hx : ToldH w (Hot2 G v u) x l) (hr : w2.ownsRow base 59 1 v' (vs.length + 1) (vs ++ [x])) (g : w.grownBy w2 v.ownBlock) (hv : v'.ownBlock = v.ownBlock ∨ v'.ownBlock = some w.heap.size) : Two w2 base G v' u (vs ++ [x]) us (L ++ [l]) M := by
  have t : TurnG (fun k => v.ownBlock = some k) w w2 := ⟨g.os, g.tape, g.output, g.size, fun k hk hn => g.block k hk (fun e => hn e.symm)⟩
  have gg : Grew (Hot2 G v u) w (Hot2 G v' u) w2 := by
    refine Grew.wide ⟨t, fun k hk => Or.inl hk⟩ (fun k hk => Or.inr (Or.inl hk)) (fun k hk => ?_)
    rcases hk with h1 | h1 | h1
    · exact Or.inl (Or.inl h1)
    · rcases hv with e | e
      · rw [e] at h1; exact Or.inl (Or.inr (Or.inl h1))
      · rw [e] at h1; cases h1; exact Or.inr (Nat.le_refl _)
    · exact Or.inl (Or.inr (Or.inr h1))
  have hl : (vs ++ [x]).length = vs.length + 1 := by simp
  refine ⟨by rw [hl]; exact hr, owns_block h.ru (fun k hk => t.block k (row_at h.ru hk).2.1 (fun e => h.nn k e hk)), by simp [h.lv], h.lu, fun k hk => ?_, h.nu, fun k hk => ?_, fun i hi => ?_, fun i hi => (h.eu i hi).grew gg⟩
  · rcases hv with e | e
    · rw [e] at hk; exact h.nv k hk
    · rw [e] at hk; cases hk; intro h1; have := hG _ h1; omega
  · rcases hv with e | e
    · rw [e] at hk; exact h.nn k hk
    · rw [e] at hk; cases hk; intro h1; have := (row_at h.ru h1).2.1; omega
  · rw [getD_snoc, getD_snoc, h.lv]
    have hi2 : i < L.length + 1 := by simpa using hi
    by_cases e : i < L.length
    · rw [if_pos e, if_pos e]
      exact (h.ev i e).grew gg
    · rw [if_neg e, if_neg e, if_pos (by omega), if_pos (by omega)]
      exact hx.grew gg
theorem Two.gg (h : Two w base G v u vs us L M) (g : w.grownBy w2 v.ownBlock) (hv : v'.ownBlock = v.ownBlock ∨ v'.ownBlock = some w.heap.size) : Grew (Hot2 G v u) w (Hot2 G v' u) w2 := by
  have t : TurnG (fun k => v.ownBlock = some k) w w2 := ⟨g.os, g.tape, g.output, g.size, fun k hk hn => g.block k hk (fun e => hn e.symm)⟩
  refine Grew.wide ⟨t, fun k hk => Or.inl hk⟩ (fun k hk => Or.inr (Or.inl hk)) (fun k hk => ?_)
  rcases hk with h1 | h1 | h1
  · exact Or.inl (Or.inl h1)
  · rcases hv with e | e
    · rw [e] at h1; exact Or.inl (Or.inr (Or.inl h1))
    · rw [e] at h1; cases h1; exact Or.inr (Nat.le_refl _)
  · exact Or.inl (Or.inr (Or.inr h1))
theorem ArB.grown {N ab : Nat} {a : ArS} (h : ArB w N ab G a) (hn : ∀ k, v.ownBlock = some k → ¬ G k) (g : w.grownBy w2 v.ownBlock) : ArB w2 N ab G a :=
  ⟨h.at_.keep (fun k hk => g.block k (h.at_.lt k hk) (fun e => hn k e.symm hk)) g.size, h.low, Nat.le_trans h.size g.size⟩
theorem Two.bel {B0 : World} (h : Two w base G v u vs us L M) (hb : Below base B0 w) (hs : base ≤ w.heap.size) (g : w.grownBy w2 v.ownBlock) : Below base B0 w2 := hb.grown g hs (fun q hq => (row_at h.rv hq).1)
/-- an entry of the first row -/
theorem Two.at (h : Two w base G v u vs us L M) {i : Nat} (hi : i < L.length) : ∃ g c, v = .slice (some ⟨g, 0, none⟩) L.length c ∧ w.cell? ⟨g, i, none⟩ = some (vs.getD i undef) := by
  have hn : vs.length ≠ 0 := by rw [h.lv]; omega
  obtain ⟨g, c, e, _, h2⟩ := owns_formD h.rv hn
  refine ⟨g, c, by rw [e, h.lv], ?_⟩
  have hi2 : i < vs.length := by rw [h.lv]; exact hi
  rw [World.ownsRow.cellAt h2 i (by omega)]
  simp [List.getD, hi2]
end
end Go.Proofs.YtddnfhfangfgeaaGreat.Gf

namespace Go.Proofs.YtddnfhfangfgeaaGreat.Gf
set_option linter.unusedVariables false
set_option linter.unusedSimpArgs false
theorem heldL_len (f : Int → Option (List UInt8)) (s : Nat) : (heldL f s).length = cnt (fun i => (f (i : Int)).isSome) s := by
  induction s with
  | zero => rfl
  | succ s ih =>
    unfold heldL at ih ⊢
    rw [List.range_succ, List.filterMap_append, List.length_append, ih]
    show _ = cnt (fun i => (f (i : Int)).isSome) s + (if (f (s : Int)).isSome then 1 else 0)
    cases h : f (s : Int) with
    | none => simp [h]
    | some b => simp [h]
theorem held_two {x y s : Nat} {p q : List UInt8} (hx : x < s) (hy : y < s) (hne : x ≠ y) : (heldL (putB (putB noneI (x : Int) p) (y : Int) q) s).length = 2 := by
  rw [heldL_len, cnt_congr (q := fun i => decide (i = x) || decide (i = y)) fun i hi => ?_, cnt_or_eq _ _ _ (fun i hi h => ?_), cnt_one15 hx, cnt_one15 hy]
  · have e1 := of_decide_eq_true h
    exact decide_eq_false (by omega)
  · by_cases e1 : i = y
    · rw [e1]; simp [putB]
    · by_cases e2 : i = x
      · rw [e2]
        have : ¬ (x : Int) = (y : Int) := by omega
        simp [putB, this]
      · have h1 : ¬ (i : Int) = (y : Int) := by omega
        have h2 : ¬ (i : Int) = (x : Int) := by omega
        simp [putB, noneI, h1, h2, e1, e2]
theorem held_none15 (s : Nat) : heldL noneI s = [] := by
  refine List.length_eq_zero_iff.1 ?_
  rw [heldL_len]
  exact cnt_none fun i _ => rfl
theorem rdH_nil15 (w : World) : RdH w (.slice none 0 0) [] := ⟨[], rfl, Or.inl ⟨none, 0, rfl, rfl⟩⟩
theorem heldT_nat {T : List TH} {f : Int → Option (List UInt8)} {s : Nat} (h : bareT T = heldL f s) {k : Nat} (hk : k < T.length) : ∃ q : Nat, (T.getD k default).1 = (q : Int) := by
  have hm : ((T.getD k default).1, (T.getD k default).2.1) ∈ heldL f s := by
    rw [← h]
    unfold bareT
    rw [show T.getD k default = T[k] by simp [List.getD, hk]]
    exact List.mem_map.2 ⟨T[k], List.getElem_mem hk, rfl⟩
  unfold heldL at hm
  obtain ⟨i, _, e⟩ := List.mem_filterMap.1 hm
  cases hf : f (i : Int) with
  | none => rw [hf] at e; cases e
  | some b =>
    rw [hf] at e
    simp at e
    exact ⟨i, e.1.symm⟩
section
variable {g : GeoS} {s t : Int} {X Y : List UInt8}
theorem apart15 {A0 A1 A2 : ArS} (hA0 : A0 = newA (nT g) (secG g).toNat) (hA1 : swS A0 g s 1 X = A1) (hA2 : swS A1 g t 2 Y = A2) (h1 : OkT g s 1) (hX : LenT g X) (h2 : OkT g t 2) (hY : LenT g Y) (hne : s ≠ t) :
    (rtX A2 g s 1 = 0 ∧ rtD A2 g s 1 = X) ∧ (rtX A2 g t 2 = 0 ∧ rtD A2 g t 2 = Y) ∧ A2.D.length = nT g ∧ (heldL (A2.D.getD 0 default).wait (A2.D.getD 0 default).s).length = 2 ∧ heldL (A2.D.getD 0 default).last (A2.D.getD 0 default).s = [] := by
  have hc : Calm A0 := by rw [hA0]; exact calm_new _ _
  have hw0 : ∀ i, i < nT g → WrT A0 g s i := fun i hi => by rw [hA0]; exact new_all h1.1 h1.2.1 h1.2.2.1 i hi
  obtain ⟨_, W1, P1⟩ := whole_write h1 hX hc hw0
  rw [hA1] at W1 P1
  have sec := sec_in h1.1
  have lt1 := h1.2.2.1
  have lt2 := h2.2.2.1
  have gt1 := h1.2.1
  have gt2 := h2.2.1
  have hl0 : A0.D.length = nT g := by rw [hA0]; exact newA_len _ _
  have d0 : ∀ j : Nat, j < nT g → A0.D.getD j default = newD (secG g).toNat := fun j hj => by rw [hA0]; simp [newA, List.getD, hj]
  have hw1 : ∀ i, i < nT g → WrT A1 g t i := fun i hi => by
    have din := diG_in h2.1 h2.2.1 h2.2.2.1 hi
    have kp := P1.keeps (d := diG g t (i : Int)) din.1
    have e0 : diA A0 (diG g t (i : Int)) = newD (secG g).toNat := d0 _ (by omega)
    refine ⟨⟨din.1, by rw [P1.len, hl0]; exact din.2⟩, ?_, ?_⟩
    · rw [kp.1, e0]; rfl
    · rw [kp.2, e0]
      have := stG_in h2.1 h2.2.1 h2.2.2.1
      show stG g t < (((secG g).toNat : Nat) : Int)
      omega
  obtain ⟨_, W2, P2⟩ := whole_write h2 hY W1.calm hw1
  rw [hA2] at W2 P2
  have hrow : ∀ {D : List UInt8}, LenT g D → ∀ i, i ∈ List.range (nT g) → (ro (shT g D) i).length ≤ 4096 := fun hD i hi => by
    rw [shT_row hD h1.1 (List.mem_range.1 hi)]
    have := okG_nat h1.1
    omega
  have hB2 : ∀ i, i ∈ List.range (nT g) → i < nT g ∧ WrT A1 g t i := fun i hi => ⟨List.mem_range.1 hi, hw1 i (List.mem_range.1 hi)⟩
  have W12 : WholeT A2 g s 1 X := by
    refine ⟨W2.calm, fun i hi => ?_, fun i hi => ?_⟩
    · rw [PutT.rb_other h2 W1.calm hB2 (hrow hY) P2 h1.2.1 h1.2.2.1 hne hi]
      exact W1.held i hi
    · have q := W1.wr i hi
      have kp := P2.keeps (d := diG g s (i : Int)) q.th.1
      exact ⟨⟨q.th.1, by rw [P2.len]; exact q.th.2⟩, by rw [kp.1]; exact q.al, by rw [kp.2]; exact q.rm⟩
  have r1 := whole_read h1 hX W12
  have r2 := whole_read h2 hY W2
  have hn1 := nT_pos h1.1
  obtain ⟨i1, hi1, e1⟩ := diG_of h1.1 h1.2.1 h1.2.2.1 (d := 0) (by omega) (by omega)
  obtain ⟨i2, hi2, e2⟩ := diG_of h2.1 h2.2.1 h2.2.2.1 (d := 0) (by omega) (by omega)
  have q1 := P1.at_ i1 (List.mem_range.2 hi1)
  have q2 := P2.at_ i2 (List.mem_range.2 hi2)
  have s1 := stG_in h1.1 h1.2.1 h1.2.2.1
  have s2 := stG_in h2.1 h2.2.1 h2.2.2.1
  have hz : ∀ {D : List UInt8} {i : Nat}, LenT g D → i < nT g → (ro (shT g D) i).length ≤ 4096 := fun hD hi => hrow hD _ (List.mem_range.2 hi)
  rw [e1, show diA A0 0 = newD (secG g).toNat from d0 0 (by omega), wrS_at rfl s1.2.1 (by show _ < (((secG g).toNat : Nat) : Int); omega) (pkT_okB (hz hX hi1))] at q1
  rw [e2, q1, wrS_at rfl s2.2.1 (by show _ < (((secG g).toNat : Nat) : Int); omega) (pkT_okB (hz hY hi2))] at q2
  have e9 : A2.D.getD 0 default = diA A2 0 := rfl
  rw [e9, q2]
  refine ⟨⟨r1.1, r1.2.1⟩, ⟨r2.1, r2.2.1⟩, by rw [P2.len, P1.len]; exact hl0, ?_, held_none15 _⟩
  have x1 : stG g s = (((stG g s).toNat : Nat) : Int) := by omega
  have x2 : stG g t = (((stG g t).toNat : Nat) : Int) := by omega
  show (heldL (putB (putB noneI (stG g s) _) (stG g t) _) (secG g).toNat).length = 2
  rw [x1, x2]
  exact held_two (by omega) (by omega) (by omega)
end
end Go.Proofs.YtddnfhfangfgeaaGreat.Gf

