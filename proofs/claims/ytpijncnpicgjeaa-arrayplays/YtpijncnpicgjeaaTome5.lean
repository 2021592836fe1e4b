/- TEXTS JOINED: PoSame, DkSame, DkLawN, DkLawM, DkLook, DkRa. -/
import Derived.Test.YtpijncnpicgjeaaTome1
import Derived.Test.YtpijncnpicgjeaaTome4
/-
  THE DOCUMENT's ANSWER FOR LAYER 2 (package aumbryref02) BY CONTRACT: 'Same' tells whether two lists of bytes are one.
-/

namespace Go.Proofs.Ytpijncnpicgjeaa.Gf
set_option linter.unusedVariables false
set_option linter.unusedSimpArgs false
open Go.RowKit

def sameB (p q : List UInt8) : Bool := decide (p = q)
theorem sameB_self (p : List UInt8) : sameB p p = true := decide_eq_true rfl
theorem sameB_of {p q : List UInt8} (h : p = q) : sameB p q = true := decide_eq_true h

set_option maxRecDepth 100000 in
set_option maxHeartbeats 1000000 in
/-- of unlike lengths -/
theorem same_len (a b : Option Addr) (n m c d : Nat) (w : World) (h : n ≠ m) :
    Calls Try.prog 36 #[.slice a n c, .slice b m d] w fun e w' => e = .returned (.bool false) ∧ w' = w := by
  have hb : ((n : Int) != (m : Int)) = true := by simp; omega
  go_enter Try.func36, Try.ntmps36
  go_wp2
  go_ret
  exact ⟨rfl, rfl⟩

set_option maxRecDepth 100000 in
set_option maxHeartbeats 1000000 in
/-- of nothing -/
theorem same_nil (a b : Option Addr) (c d : Nat) (w : World) :
    Calls Try.prog 36 #[.slice a 0 c, .slice b 0 d] w fun e w' => e = .returned (.bool true) ∧ w' = w := by
  go_enter Try.func36, Try.ntmps36
  go_wp2
  go_loop [5] (fun i => i = .int .i64 0) (fun _ => 0)
  case atStart => rfl
  case round =>
    subst hrel
    go_wp2
    go_ret
    exact ⟨rfl, rfl⟩

set_option maxRecDepth 100000 in
set_option maxHeartbeats 1000000 in
theorem same_main (b off b' off' c d : Nat) (p q : List UInt8) (w : World) (hl : q.length = p.length) (hm : p.length ≤ 9223372036854775807)
    (hp : ∀ i, i < p.length → w.cell? ⟨b, off + i, none⟩ = some (.int .u8 ((co p i).toNat : Nat)))
    (hq : ∀ i, i < p.length → w.cell? ⟨b', off' + i, none⟩ = some (.int .u8 ((co q i).toNat : Nat))) :
    Calls Try.prog 36 #[.slice (some ⟨b, off, none⟩) p.length c, .slice (some ⟨b', off', none⟩) p.length d] w fun e w' => e = .returned (.bool (sameB p q)) ∧ ∃ n, w' = w.drewN n := by
  have hb : ((p.length : Int) != (p.length : Int)) = false := by simp
  go_enter Try.func36, Try.ntmps36
  go_wp2
  clear hb
  go_loopw [5] (fun i wr => ∃ k : Nat, k ≤ p.length ∧ i = .int .i64 k ∧ Hid (∀ j, j < k → co p j = co q j) ∧ ∃ n, wr = w.drewN n) (fun i _ => p.length - (intOf i).toNat)
  case atStart => exact ⟨0, by omega, rfl, fun j hj => by omega, 0, rfl⟩
  case round =>
    obtain ⟨k, hk, rfl, hs, nd, rfl⟩ := hrel
    by_cases hlt : k < p.length
    · have c1 := hp k hlt
      have c2 := hq k hlt
      by_cases e : co p k = co q k
      · have hn : ((((co p k).toNat : Nat) : Int) != (((co q k).toNat : Nat) : Int)) = false := by rw [ne_u8]; simp [e]
        have HS : Hid (∀ j, j < k + 1 → co p j = co q j) := fun j hj => by
          by_cases e2 : j = k
          · rw [e2]; exact e
          · exact hs.out j (by omega)
        clear e hp hq hs
        go_wp2
        go_quiet (fail)
        go_wp2
        go_roundw
        case rel => exact ⟨k + 1, by omega, by go_num, HS, _, rfl⟩
        case measure => simp [intOf]; omega
      · have hn : ((((co p k).toNat : Nat) : Int) != (((co q k).toNat : Nat) : Int)) = true := by rw [ne_u8]; simp [e]
        have E : Hid (sameB p q = false) := by
          refine decide_eq_false (fun h => e ?_)
          rw [h]
        clear e hp hq hs
        go_wp2
        go_quiet (fail)
        go_wp2
        go_ret
        exact ⟨by rw [E.out]; rfl, _, World.drewN_drewN _ _ _⟩
    · have E : Hid (sameB p q = true) := sameB_of (co_ext hl.symm (fun i hi => hs.out i (by omega)))
      clear hp hq hs
      go_wp2
      go_ret
      exact ⟨by rw [E.out]; rfl, _, rfl⟩

theorem same_any {va vb : Value} {p q : List UInt8} {w : World} (hp : Rd w va p) (hq : Rd w vb q) :
    Calls Try.prog 36 #[va, vb] w fun e w' => e = .returned (.bool (sameB p q)) ∧ ∃ n, w' = w.drewN n := by
  have l1 := hp.len
  have l2 := hq.len
  unfold maxLen at l1 l2
  by_cases hl : p.length = q.length
  · rcases hp with ⟨a, c, rfl, rfl, _⟩ | ⟨b, off, c, hp0, rfl, _, _, _, hpc⟩
    · have : q = [] := List.length_eq_zero_iff.1 (by simpa using hl.symm)
      subst this
      rcases hq with ⟨a', c', _, rfl, _⟩ | ⟨_, _, _, h, _⟩
      · exact (same_nil a a' c c' w).mono fun e w' ⟨he, hw⟩ => ⟨by rw [he, sameB_self], 0, hw⟩
      · exact absurd rfl h
    · rcases hq with ⟨a', c', rfl, rfl, _⟩ | ⟨b', off', c', hq0, rfl, _, _, _, hqc⟩
      · exact absurd (List.length_eq_zero_iff.1 hl) hp0
      · rw [← hl]
        exact same_main b off b' off' c c' p q w hl.symm (by omega) hpc (fun i hi => hqc i (by omega))
  · have E : sameB p q = false := decide_eq_false (fun h => hl (by rw [h]))
    have key : ∃ a n c, va = .slice a n c ∧ n = p.length := by
      rcases hp with ⟨a, c, rfl, rfl, _⟩ | ⟨b, off, c, hp0, rfl, _⟩
      · exact ⟨_, _, _, rfl, rfl⟩
      · exact ⟨_, _, _, rfl, rfl⟩
    have key2 : ∃ a n c, vb = .slice a n c ∧ n = q.length := by
      rcases hq with ⟨a, c, rfl, rfl, _⟩ | ⟨b, off, c, hp0, rfl, _⟩
      · exact ⟨_, _, _, rfl, rfl⟩
      · exact ⟨_, _, _, rfl, rfl⟩
    obtain ⟨a, n, c, rfl, rfl⟩ := key
    obtain ⟨a', n', c', rfl, rfl⟩ := key2
    exact (same_len a a' _ _ c c' w hl).mono fun e w' ⟨he, hw⟩ => ⟨by rw [he, E], 0, hw⟩

/-- the same, for a caller: the world behind it is a new letter -/
theorem same_b {va vb : Value} {p q : List UInt8} {w : World} (hp : Rd w va p) (hq : Rd w vb q) :
    Calls Try.prog 36 #[va, vb] w fun e w' => e = .returned (.bool (sameB p q)) ∧ Below w.heap.size w w' :=
  (same_any hp hq).mono fun e w' ⟨he, n, hw⟩ => ⟨he, by rw [hw]; exact ⟨rfl, rfl, rfl, Nat.le_refl _, fun _ _ => rfl⟩⟩

end Go.Proofs.Ytpijncnpicgjeaa.Gf

/-
  LISTS OF WHAT IS HELD, AS THEY ARE READ: 'RdT w v T', 'RdH w v L'; the document's 'Same' of two of them.
-/

namespace Go.Proofs.Ytpijncnpicgjeaa.Gf
set_option linter.unusedVariables false
set_option linter.unusedSimpArgs false
open Go.RowKit

instance : Inhabited TH := ⟨(0, [], undef)⟩
structure HeldAt (w : World) (b off : Nat) (t : TH) : Prop where
  c0 : w.cell? ⟨b, off, none⟩ = some (.int .i64 t.1)
  c1 : w.cell? ⟨b, off + 1, none⟩ = some t.2.2
  rd : Rd w t.2.2 t.2.1
def RdT (w : World) (v : Value) (T : List TH) : Prop :=
  (∃ a c, T = [] ∧ v = .slice a 0 c) ∨ (∃ b off c, T ≠ [] ∧ v = .slice (some ⟨b, off, none⟩) T.length c ∧ T.length ≤ 100000 ∧ b < w.heap.size ∧ ∀ i, i < T.length → HeldAt w b (off + i * 2) (T.getD i default))
theorem RdT.below {w w' : World} {v : Value} {T : List TH} (h : RdT w v T) (hb : Below w.heap.size w w') : RdT w' v T := by
  rcases h with h | ⟨b, off, c, h1, h2, h3, h4, h5⟩
  · exact Or.inl h
  · refine Or.inr ⟨b, off, c, h1, h2, h3, Nat.lt_of_lt_of_le h4 hb.size, fun i hi => ?_⟩
    have h6 := h5 i hi
    exact ⟨(hb.cell (p := ⟨b, off + i * 2, none⟩) h4).trans h6.c0, (hb.cell (p := ⟨b, off + i * 2 + 1, none⟩) h4).trans h6.c1, h6.rd.below hb⟩
theorem RdT.form {w : World} {v : Value} {T : List TH} (h : RdT w v T) : ∃ a c, v = .slice a T.length c := by
  rcases h with ⟨a, c, rfl, rfl⟩ | ⟨b, off, c, _, rfl, _⟩
  · exact ⟨a, c, rfl⟩
  · exact ⟨_, c, rfl⟩
theorem RdT.len {w : World} {v : Value} {T : List TH} (h : RdT w v T) : T.length ≤ 100000 := by
  rcases h with ⟨a, c, rfl, rfl⟩ | ⟨b, off, c, _, rfl, h, _⟩
  · exact Nat.zero_le _
  · exact h
theorem RdT.at {w : World} {a : Option Addr} {c : Nat} {T : List TH} (h : RdT w (.slice a T.length c) T) {k : Nat} (hk : k < T.length) : ∃ b off, a = some ⟨b, off, none⟩ ∧ HeldAt w b (off + k * 2) (T.getD k default) := by
  rcases h with ⟨_, _, h1, _⟩ | ⟨b, off, c, h1, h2, h3, h4, h5⟩
  · rw [h1] at hk; simp at hk
  · simp at h2
    exact ⟨b, off, h2.1, h5 k hk⟩
theorem RdT.drewN {w : World} {v : Value} {T : List TH} (h : RdT w v T) (n : Nat) : RdT (w.drewN n) v T := h.below ((Below.refl _ _).drewN n)
/-- one of one's own -/
theorem cellsT_at (T : List TH) {i : Nat} (hi : i < T.length) : (cellsT T)[i * 2]? = some (.int .i64 (T.getD i default).1) ∧ (cellsT T)[i * 2 + 1]? = some (T.getD i default).2.2 := by
  induction T generalizing i with
  | nil => simp at hi
  | cons t T ih =>
    cases i with
    | zero => exact ⟨rfl, rfl⟩
    | succ i =>
      have h := ih (i := i) (by simpa using hi)
      have e : cellsT (t :: T) = .int .i64 t.1 :: t.2.2 :: cellsT T := by unfold cellsT; simp
      rw [e, show (i + 1) * 2 = i * 2 + 1 + 1 by omega]
      simp only [List.getElem?_cons_succ]
      exact h
theorem OwnT.rd {w : World} {base : Nat} {v : Value} {T : List TH} (h : OwnT w base v T) (hl : T.length ≤ 100000) : RdT w v T := by
  by_cases h0 : T = []
  · subst h0
    obtain ⟨a, c, e⟩ := owns_slice h.row
    exact Or.inl ⟨a, c, rfl, e⟩
  · obtain ⟨_, ⟨_, h1⟩ | ⟨g, cap, cur, hv, hg, hh, hc, hm, hs, ht⟩⟩ := h.row
    · exact absurd (List.length_eq_zero_iff.1 h1) h0
    · refine Or.inr ⟨g, 0, cap, h0, hv, hl, (Array.getElem?_eq_some_iff.1 hh).1, fun i hi => ?_⟩
      have ce : ∀ j, j < T.length * 2 → w.cell? ⟨g, j, none⟩ = (cellsT T)[j]? := by
        intro j hj
        rw [← ht, List.getElem?_take_of_lt hj]
        unfold World.cell?
        rw [hh]
        simp
      obtain ⟨e0, e1⟩ := cellsT_at T hi
      have hm : T.getD i default ∈ T := by
        rw [show T.getD i default = T[i] by simp [List.getD, hi]]
        exact List.getElem_mem hi
      refine ⟨?_, ?_, Rd.owned (h.each _ hm)⟩
      · rw [Nat.zero_add, ce _ (by omega), e0]
      · rw [Nat.zero_add, ce _ (by omega), e1]
def RdH (w : World) (v : Value) (L : List (Int × List UInt8)) : Prop := ∃ T, bareT T = L ∧ RdT w v T
theorem RdH.below {w w' : World} {v : Value} {L : List (Int × List UInt8)} (h : RdH w v L) (hb : Below w.heap.size w w') : RdH w' v L := by
  obtain ⟨T, h1, h2⟩ := h
  exact ⟨T, h1, h2.below hb⟩
theorem bareT_length (T : List TH) : (bareT T).length = T.length := by simp [bareT]
/-- a list that was told, apart from the disk -/
structure ToldT (w : World) (G : Nat → Prop) (v : Value) (T : List TH) : Prop where
  rd : RdT w v T
  ap : ApartG G v
  each : ∀ t ∈ T, ApartG G t.2.2
theorem ToldT.below {w w' : World} {G : Nat → Prop} {v : Value} {T : List TH} (h : ToldT w G v T) (hb : Below w.heap.size w w') : ToldT w' G v T := ⟨h.rd.below hb, h.ap, h.each⟩
theorem getD_mem12 {T : List TH} {i : Nat} (hi : i < T.length) : T.getD i default ∈ T := by
  rw [show T.getD i default = T[i] by simp [List.getD, hi]]
  exact List.getElem_mem hi
theorem ToldT.grew {w w' : World} {G G' : Nat → Prop} {v : Value} {T : List TH} (h : ToldT w G v T) (g : Grew G w G' w') : ToldT w' G' v T := by
  rcases h.rd with ⟨a, c, h1, h2⟩ | ⟨b, off, c, h1, h2, h3, h4, h5⟩
  · refine ⟨Or.inl ⟨a, c, h1, h2⟩, ?_, fun t ht => by rw [h1] at ht; cases ht⟩
    rw [h2]
    exact ApartG.nil _ _ _
  · have hb : ¬ G b := by
      rcases h.ap _ _ _ h2 with e | e
      · exact absurd (List.length_eq_zero_iff.1 e) h1
      · exact e
    refine ⟨Or.inr ⟨b, off, c, h1, h2, h3, Nat.lt_of_lt_of_le h4 g.turn.size, fun i hi => ?_⟩, ?_, fun t ht => ?_⟩
    · have h6 := h5 i hi
      exact ⟨(g.turn.cell (p := ⟨b, off + i * 2, none⟩) h4 hb).trans h6.c0, (g.turn.cell (p := ⟨b, off + i * 2 + 1, none⟩) h4 hb).trans h6.c1, h6.rd.grew (h.each _ (getD_mem12 hi)) g⟩
    · intro x n c' e
      rw [h2] at e
      simp at e
      obtain ⟨rfl, _, _⟩ := e
      exact Or.inr (g.off h4 hb)
    · obtain ⟨i, hi, e⟩ := List.getElem_of_mem ht
      have h6 := (h5 i hi).rd
      rw [show T.getD i default = T[i] by simp [List.getD, hi], e] at h6
      exact (h.each t ht).grew h6 g
theorem ToldT.own {w w' : World} {db : Nat} {G : Nat → Prop} {d : DkS} {v : Value} {T : List TH} (h : DiskAt w db G d) (ho : OwnT w' w.heap.size v T) (hl : T.length ≤ 100000) : ToldT w' G v T := by
  refine ⟨ho.rd hl, ?_, fun t ht => ApartG.own (ho.each t ht) h.lt⟩
  intro x n c e
  right
  intro hg
  have h1 := row_at ho.row (g := x.block) (by rw [e]; rfl)
  have h2 := h.lt _ hg
  omega
def ToldH (w : World) (G : Nat → Prop) (v : Value) (L : List (Int × List UInt8)) : Prop := ∃ T, bareT T = L ∧ ToldT w G v T
theorem ToldH.below {w w' : World} {G : Nat → Prop} {v : Value} {L : List (Int × List UInt8)} (h : ToldH w G v L) (hb : Below w.heap.size w w') : ToldH w' G v L := by
  obtain ⟨T, h1, h2⟩ := h
  exact ⟨T, h1, h2.below hb⟩
theorem ToldH.grew {w w' : World} {G G' : Nat → Prop} {v : Value} {L : List (Int × List UInt8)} (h : ToldH w G v L) (g : Grew G w G' w') : ToldH w' G' v L := by
  obtain ⟨T, h1, h2⟩ := h
  exact ⟨T, h1, h2.grew g⟩
theorem ToldH.own {w w' : World} {db : Nat} {G : Nat → Prop} {d : DkS} {v : Value} {L : List (Int × List UInt8)} (h : DiskAt w db G d) (ho : OwnH w' w.heap.size v L) (hl : L.length ≤ 100000) : ToldH w' G v L := by
  obtain ⟨T, h1, h2⟩ := ho
  exact ⟨T, h1, ToldT.own h h2 (by rw [← h1, bareT_length] at hl; exact hl)⟩
theorem ToldH.rd {w : World} {G : Nat → Prop} {v : Value} {L : List (Int × List UInt8)} (h : ToldH w G v L) : RdH w v L := by
  obtain ⟨T, h1, h2⟩ := h
  exact ⟨T, h1, h2.rd⟩
theorem bareT_eq {T U : List TH} (hl : T.length = U.length) : bareT T = bareT U ↔ ∀ i, i < T.length → (T.getD i default).1 = (U.getD i default).1 ∧ (T.getD i default).2.1 = (U.getD i default).2.1 := by
  constructor
  · intro h i hi
    have h1 := congrArg (fun l => l[i]?) h
    simp only [bareT, List.getElem?_map] at h1
    rw [List.getElem?_eq_getElem hi, List.getElem?_eq_getElem (by omega)] at h1
    simp at h1
    simp [List.getD, hi, show i < U.length by omega, h1]
  · intro h
    refine List.ext_getElem (by simp [bareT, hl]) fun i h1 h2 => ?_
    simp only [bareT_length] at h1 h2
    have h3 := h i h1
    simp [List.getD, h1, h2] at h3
    simp [bareT, h3]
set_option maxRecDepth 100000 in
set_option maxHeartbeats 1000000 in
theorem same12_any {w : World} {va vb : Value} {L M : List (Int × List UInt8)} (hL : RdH w va L) (hM : RdH w vb M) : Calls Try.prog 24 #[va, vb] w fun e w' => e = .returned (.bool (decide (L = M))) ∧ ∃ n, w' = w.drewN n := by
  obtain ⟨T, rfl, hT⟩ := hL
  obtain ⟨U, rfl, hU⟩ := hM
  have lt := hT.len
  have lu := hU.len
  obtain ⟨aa, ca, rfl⟩ := hT.form
  obtain ⟨ab, cb, rfl⟩ := hU.form
  by_cases hl : T.length = U.length
  · have q1 : ((T.length : Int) != (U.length : Int)) = false := by rw [hl]; simp
    have q1' : ((T.length : Int) == (U.length : Int)) = true := by rw [hl]; simp
    obtain ⟨X, hX⟩ : ∃ X, Hid (X = decide (bareT T = bareT U)) := ⟨_, rfl⟩
    rw [← hX.out]
    have hl' : Hid (T.length = U.length) := hl
    clear hl
    go_enter Try.func24, Try.ntmps24
    go_wp2
    go_loopw [5] (fun i wr => ∃ k : Nat, k ≤ T.length ∧ i = .int .i64 (k : Int) ∧ Hid (∀ j, j < k → (T.getD j default).1 = (U.getD j default).1 ∧ (T.getD j default).2.1 = (U.getD j default).2.1) ∧ ∃ m, Hid (wr = w.drewN m)) (fun i _ => T.length - (intOf i).toNat)
    case atStart => exact ⟨0, Nat.zero_le _, rfl, fun j hj => by omega, 0, rfl⟩
    case round =>
      obtain ⟨k, hk, rfl, hs, m, hd⟩ := hrel
      have hT' : RdT wr (.slice aa T.length ca) T := by rw [hd.out]; exact hT.drewN _
      have hU' : RdT wr (.slice ab U.length cb) U := by rw [hd.out]; exact hU.drewN _
      clear hT hU
      by_cases hlt : k < T.length
      · have hltU : k < U.length := by have := hl'.out; omega
        have hlt' : (k : Int) < (T.length : Int) := by omega
        have hlu' : (k : Int) < (U.length : Int) := by omega
        have g1 : IntKind.i64.wrap ((k : Int) + 1) = ((k + 1 : Nat) : Int) := by rw [IntKind.wrap_i64]; omega
        obtain ⟨b, off, rfl, c0, c1, r1⟩ := hT'.at hlt
        obtain ⟨b', off', rfl, d0, d1, r2⟩ := hU'.at hltU
        have NE : Hid (¬ ((T.getD k default).1 = (U.getD k default).1 ∧ (T.getD k default).2.1 = (U.getD k default).2.1) → X = false) := fun h => by
          rw [hX.out]
          exact decide_eq_false (fun e => h ((bareT_eq hl'.out).1 e k hlt))
        have EQ : Hid ((T.getD k default).1 = (U.getD k default).1 ∧ (T.getD k default).2.1 = (U.getD k default).2.1 → ∀ j, j < k + 1 → (T.getD j default).1 = (U.getD j default).1 ∧ (T.getD j default).2.1 = (U.getD j default).2.1) := fun h j hj => by
          by_cases e2 : j = k
          · rw [e2]; exact h
          · exact hs.out j (by omega)
        obtain ⟨t, ht⟩ : ∃ t, t = T.getD k default := ⟨_, rfl⟩
        obtain ⟨u, hu⟩ : ∃ u, u = U.getD k default := ⟨_, rfl⟩
        rw [← ht] at c0 c1 r1
        rw [← hu] at d0 d1 r2
        rw [← ht, ← hu] at NE EQ
        obtain ⟨t1, t2, t3⟩ := t
        obtain ⟨u1, u2, u3⟩ := u
        simp only at c0 c1 r1 d0 d1 r2
        obtain ⟨ta, tc, rfl⟩ := r1.form
        obtain ⟨ua, uc, rfl⟩ := r2.form
        clear ht hu hs hT' hU' hX
        by_cases e1 : t2 = u2
        · have hn : sameB t2 u2 = true := sameB_of e1
          by_cases e2 : t1 = u1
          · have E := EQ.out ⟨e2, e1⟩
            have HS : Hid (∀ j, j < k + 1 → (T.getD j default).1 = (U.getD j default).1 ∧ (T.getD j default).2.1 = (U.getD j default).2.1) := E
            have z1 : (t1 != u1) = false := by rw [e2]; simp
            have z2 : (t1 == u1) = true := by rw [e2]; simp
            clear E EQ NE e1 e2
            go_wp2
            go_quiet ((go_at_call 36; go_loud (exact Calls.quiet_of (same_any (r1.drewN _) (r2.drewN _)))))
            go_wp2
            go_quiet (fail)
            go_wp2
            go_roundw
            case rel => exact ⟨k + 1, by omega, by go_num, HS, _, by show _ = _; first | rw [hd.out, World.drewN_drewN, World.drewN_drewN] | rw [hd.out, World.drewN_drewN] | rw [World.drewN_drewN, hd.out, World.drewN_drewN]⟩
            case measure => simp [intOf]; omega
          · have E := NE.out (fun h => e2 h.1)
            have HE : Hid (X = false) := E
            have z1 : (t1 != u1) = true := by simp [e2]
            have z2 : (t1 == u1) = false := by simp [e2]
            clear E EQ NE e1 e2
            go_wp2
            go_quiet ((go_at_call 36; go_loud (exact Calls.quiet_of (same_any (r1.drewN _) (r2.drewN _)))))
            go_wp2
            go_quiet (fail)
            go_wp2
            go_ret
            exact ⟨by rw [HE.out]; rfl, _, by show _ = _; first | rw [hd.out, World.drewN_drewN, World.drewN_drewN] | rw [hd.out, World.drewN_drewN] | rw [World.drewN_drewN, hd.out, World.drewN_drewN]⟩
        · have hn : sameB t2 u2 = false := decide_eq_false e1
          have E := NE.out (fun h => e1 h.2)
          have HE : Hid (X = false) := E
          clear E EQ NE e1
          go_wp2
          go_quiet ((go_at_call 36; go_loud (exact Calls.quiet_of (same_any (r1.drewN _) (r2.drewN _)))))
          go_wp2
          go_quiet (fail)
          go_wp2
          go_ret
          exact ⟨by rw [HE.out]; rfl, _, by show _ = _; first | rw [hd.out, World.drewN_drewN, World.drewN_drewN] | rw [hd.out, World.drewN_drewN] | rw [World.drewN_drewN, hd.out, World.drewN_drewN]⟩
      · have HE : Hid (X = true) := by
          show X = true
          rw [hX.out]
          exact decide_eq_true ((bareT_eq hl'.out).2 fun i hi => hs.out i (by omega))
        have hge : ¬ (k : Int) < (T.length : Int) := by omega
        clear hs hT' hU' hX
        go_wp2
        go_ret
        exact ⟨by rw [HE.out]; rfl, _, hd.out⟩
  · have q1 : ((T.length : Int) != (U.length : Int)) = true := by simp; omega
    have q1' : ((T.length : Int) == (U.length : Int)) = false := by simp; omega
    have e : decide (bareT T = bareT U) = false := decide_eq_false (fun h => hl (by have := congrArg List.length h; simpa [bareT_length] using this))
    rw [e]
    clear e hT hU
    go_enter Try.func24, Try.ntmps24
    go_wp2
    go_ret
    exact ⟨rfl, 0, rfl⟩
end Go.Proofs.Ytpijncnpicgjeaa.Gf

/-
  WHAT THE STATEMENTS OF LAYER 12 ASK: what a flush, a crash, a failure leave; contracts with their answers written out.
-/

namespace Go.Proofs.Ytpijncnpicgjeaa.Gf
set_option linter.unusedVariables false
set_option linter.unusedSimpArgs false
open Go.RowKit

theorem fl_wait {d : DkS} (h : d.Ok) : (flS d).wait = noneI := by
  unfold flS
  by_cases hc : d.dead = true
  · rw [if_pos hc]; exact h.dw hc
  · rw [if_neg hc]
theorem fl_dead (d : DkS) : (flS d).dead = d.dead := by
  unfold flS
  by_cases hc : d.dead = true
  · rw [if_pos hc]
  · rw [if_neg hc]
theorem cr_none {d : DkS} (h : d.wait = noneI) (K : List Int) : crS d K = d := by
  unfold crS
  rw [h, onlyB_none, overB_none]
  obtain ⟨s, l, w, x⟩ := d
  simp at h
  rw [h]
theorem wr_no {d : DkS} {a : Int} {b : List UInt8} (h : wrX d a b ≠ 0) : wrS d a b = d := by
  unfold wrS
  rw [if_neg]
  rintro ⟨h1, h2⟩
  apply h
  unfold wrX
  rw [if_pos h1, if_pos h2]
theorem wr_cases (d : DkS) (a : Int) (b : List UInt8) : (wrX d a b = 0 ∧ faX d a = 0 ∧ OkB b) ∨ (wrX d a b = 120 ∧ d.dead = true) ∨ ((wrX d a b = 1 ∨ wrX d a b = 121) ∧ d.dead = false) := by
  unfold wrX
  by_cases h : faX d a = 0
  · rw [if_pos h]
    by_cases h2 : OkB b
    · rw [if_pos h2]; exact Or.inl ⟨rfl, h, h2⟩
    · rw [if_neg h2]; exact Or.inr (Or.inr ⟨Or.inl rfl, (faX_zero h).1⟩)
  · rw [if_neg h]
    by_cases hd : d.dead = true
    · exact Or.inr (Or.inl ⟨faX_dead hd a, hd⟩)
    · have hd' : d.dead = false := by simpa using hd
      by_cases h3 : 0 ≤ a ∧ a < (d.s : Int)
      · exact absurd (faX_ok hd' h3) h
      · exact Or.inr (Or.inr ⟨Or.inr (faX_out hd' h3), hd'⟩)
theorem wr_fa (d : DkS) (a : Int) (b : List UInt8) (x : Int) : faX (wrS d a b) x = faX d x := by
  unfold wrS
  split <;> rfl
theorem wr_dead (d : DkS) (a : Int) (b : List UInt8) : (wrS d a b).dead = d.dead := by
  unfold wrS
  split <;> rfl
theorem wr_rd {d : DkS} {a : Int} {b : List UInt8} (h : faX d a = 0) (hb : OkB b) : rdB (wrS d a b) a = b := by
  unfold rdB
  rw [wr_fa, if_pos h]
  unfold wrS atD
  rw [if_pos ⟨h, hb⟩]
  simp [putB]
theorem wr_other {d : DkS} {a x : Int} (b : List UInt8) (h : x ≠ a) : rdB (wrS d a b) x = rdB d x := by
  unfold rdB
  rw [wr_fa]
  have : atD (wrS d a b) x = atD d x := by
    unfold wrS
    by_cases hc : faX d a = 0 ∧ OkB b
    · rw [if_pos hc]
      show (match putB d.wait a b x with | some b => some b | none => d.last x) = atD d x
      rw [show putB d.wait a b x = d.wait x from if_neg h]
      rfl
    · rw [if_neg hc]
  rw [this]
theorem fa_read (d : DkS) (a : Int) : faX (faS d) a = 120 := faX_dead rfl a
theorem fa_rd (d : DkS) (a : Int) : rdB (faS d) a = [] := by unfold rdB; rw [fa_read]; rfl
theorem fa_wr (d : DkS) (a : Int) (b : List UInt8) : wrX (faS d) a b = 120 := by unfold wrX; rw [fa_read]; rfl
theorem fa_wrS (d : DkS) (a : Int) (b : List UInt8) : wrS (faS d) a b = faS d := wr_no (by rw [fa_wr]; decide)
theorem fa_fl (d : DkS) : flX (faS d) = 120 := rfl
theorem fa_flS (d : DkS) : flS (faS d) = faS d := rfl
theorem fa_cr (d : DkS) (L : List Int) : crS (faS d) L = faS d := cr_none rfl L
theorem re_read {d : DkS} {a : Int} (h : 0 ≤ a ∧ a < (d.s : Int)) : faX (reS (faS d)) a = 0 := faX_ok rfl h
theorem re_rd {d : DkS} {a : Int} (h : 0 ≤ a ∧ a < (d.s : Int)) : rdB (reS (faS d)) a = [] := by unfold rdB; rw [re_read h]; rfl
theorem re_wr {d : DkS} {a : Int} (h : 0 ≤ a ∧ a < (d.s : Int)) (b : List UInt8) : wrX (reS (faS d)) a b = if OkB b then 0 else 1 := by unfold wrX; rw [re_read h]; rfl
theorem re_last (d : DkS) (a : Int) (b : List UInt8) : (wrS (reS (faS d)) a b).last = noneI := by unfold wrS; split <;> rfl
theorem re_dead (d : DkS) (a : Int) (b : List UInt8) : (wrS (reS (faS d)) a b).dead = false := by unfold wrS; split <;> rfl
section
variable {w : World} {db : Nat} {G : Nat → Prop} {d : DkS}
theorem dcrash_is (h : DiskAt w db G d) {v : Value} {L : List Int} (hL : RdI w v L) (hw : ∀ z ∈ L, (Lit.int .i64 z).wf = true) (hA : ApartG G v) (hl : L.length ≤ 1000000) {d' : DkS} (hd : crS d L = d') :
    Calls Try.prog 54 #[.pointer (some ⟨db, 0, none⟩), v] w (Leaves w db G d' (.tuple #[])) := by
  rw [← hd]; exact dcrash_any h hL hw hA hl
theorem apart_old {w0 : World} {v : Value} {L : List Int} (h : DkB w w0.heap.size db G d) (hr : RdI w0 v L) : ApartG G v := by
  intro x n c e
  rcases hr with ⟨a, c', h1, h2⟩ | ⟨b, off, cap, h1, h2, h3, h4, h5⟩
  · subst h2; simp at e; exact Or.inl e.2.1.symm
  · subst h2
    simp at e
    obtain ⟨rfl, rfl, rfl⟩ := e
    exact Or.inr (fun h6 => by have := h.low _ h6; simp at this; omega)
end
end Go.Proofs.Ytpijncnpicgjeaa.Gf

/-
  WHAT THE STATEMENTS OF LAYER 12 ASK: what a flush, a crash, a failure leave; contracts with their answers written out.
-/

namespace Go.Proofs.Ytpijncnpicgjeaa.Gf
set_option linter.unusedVariables false
set_option linter.unusedSimpArgs false
open Go.RowKit

section
variable {w : World} {db : Nat} {G : Nat → Prop} {d : DkS}
theorem same12_is {va vb : Value} {L M : List (Int × List UInt8)} (hL : RdH w va L) (hM : RdH w vb M) {x : Bool} (hx : decide (L = M) = x) : Calls Try.prog 24 #[va, vb] w fun e w' => e = .returned (.bool x) ∧ ∃ n, w' = w.drewN n := by
  rw [← hx]; exact same12_any hL hM
theorem same_is {va vb : Value} {p q : List UInt8} (hp : Rd w va p) (hq : Rd w vb q) {x : Bool} (hx : sameB p q = x) : Calls Try.prog 36 #[va, vb] w fun e w' => e = .returned (.bool x) ∧ ∃ n, w' = w.drewN n := by
  rw [← hx]; exact same_any hp hq
theorem ToldH.none {v : Value} (h : ToldH w G v []) : ∃ a c, v = .slice a 0 c := by
  obtain ⟨T, h1, h2⟩ := h
  have : T = [] := by cases T with
    | nil => rfl
    | cons t T => cases h1
  subst this
  exact h2.rd.form
end
end Go.Proofs.Ytpijncnpicgjeaa.Gf

/-
  WHAT IS HELD AT A PLACE OF A LIST: 'lookL'. No program's function is named here.
-/

namespace Go.Proofs.Ytpijncnpicgjeaa.Gf
set_option linter.unusedVariables false
set_option linter.unusedSimpArgs false
open Go.RowKit

def lookL (L : List (Int × List UInt8)) (x : Int) : Option (List UInt8) := (L.find? fun t => t.1 == x).map (·.2)
theorem lookL_held {f : Int → Option (List UInt8)} {s : Nat} (hf : InS s f) (x : Int) : lookL (heldL f s) x = f x := by
  unfold lookL
  cases h : (heldL f s).find? fun t => t.1 == x with
  | none =>
    cases hx : f x with
    | none => rfl
    | some b =>
      have h1 := hf x b hx
      have h2 := (heldL_mem (f := f) (s := s)).2 ⟨h1.1, h1.2.1, hx⟩
      have h3 := List.find?_eq_none.1 h _ h2
      simp at h3
  | some t =>
    have h1 := List.find?_some h
    have h2 := List.mem_of_find?_eq_some h
    obtain ⟨y, b⟩ := t
    have h3 := heldL_mem.1 h2
    simp at h1
    subst h1
    exact h3.2.2.symm
theorem look_none {T : List TH} {x : Int} (h : ∀ j, j < T.length → (T.getD j default).1 ≠ x) : lookL (bareT T) x = none := by
  unfold lookL
  rw [List.find?_eq_none.2, Option.map_none]
  intro t ht
  unfold bareT at ht
  rw [List.mem_map] at ht
  obtain ⟨u, hu, rfl⟩ := ht
  obtain ⟨i, hi, e⟩ := List.getElem_of_mem hu
  have h1 := h i hi
  rw [show T.getD i default = T[i] by simp [List.getD, hi], e] at h1
  simpa using h1
theorem look_at {T : List TH} {x : Int} {k : Nat} (hk : k < T.length) (h : ∀ j, j < k → (T.getD j default).1 ≠ x) (hx : (T.getD k default).1 = x) : lookL (bareT T) x = some (T.getD k default).2.1 := by
  induction T generalizing k with
  | nil => simp at hk
  | cons t T ih =>
    cases k with
    | zero =>
      have hx' : t.1 = x := hx
      simp [lookL, bareT, hx']
    | succ k =>
      have h0 : t.1 ≠ x := h 0 (by omega)
      have h1 := ih (k := k) (by simpa using hk) (fun j hj => h (j + 1) (by omega)) hx
      have h2 : lookL (bareT (t :: T)) x = lookL (bareT T) x := by
        unfold lookL bareT
        rw [List.map_cons, List.find?_cons_of_neg (by simpa using h0)]
      rw [h2, h1]
      rfl
theorem mem_take {K : List Int} {j : Nat} (hj : j < K.length) (x : Int) : decide (x ∈ K.take (j + 1)) = (decide (x ∈ K.take j) || (K.getD j 0 == x)) := by
  have e : K.getD j 0 = K[j] := by simp [List.getD, hj]
  rw [List.take_add_one, List.getElem?_eq_getElem hj, e]
  simp only [Option.toList_some, List.mem_append, List.mem_singleton]
  by_cases h1 : x ∈ K.take j
  · simp [h1]
  · by_cases h2 : x = K[j]
    · rw [← h2]; simp [h1]
    · have h3 : ¬ K[j] = x := fun e => h2 e.symm
      simp [h1, h2, h3]
end Go.Proofs.Ytpijncnpicgjeaa.Gf

/-
  THE DOCUMENT's ANSWER FOR LAYER 12 (package aumbryref12) BY CONTRACT: 'find', 'with'; lists of what is held, appended.
-/

namespace Go.Proofs.Ytpijncnpicgjeaa.Gf
set_option linter.unusedVariables false
set_option linter.unusedSimpArgs false
open Go.RowKit

def CapOk (v : Value) : Prop := ∀ a n c, v = .slice a n c → n ≤ c ∧ (a = none → c = 0)
theorem newsT {W : World} {b off : Nat} {T : List TH} (h : ∀ i, i < T.length → HeldAt W b (off + i * 2) (T.getD i default)) : ∀ j u, (cellsT T)[j]? = some u → W.cell? ((⟨b, off, none⟩ : Addr).add j) = some u := by
  intro j u hj
  rw [add_at]
  have hl : j < T.length * 2 := by
    rw [← cellsT_length]
    by_cases hc : j < (cellsT T).length
    · exact hc
    · rw [List.getElem?_eq_none (by omega)] at hj; cases hj
  have hi : j / 2 < T.length := by omega
  have h1 := h (j / 2) hi
  obtain ⟨e0, e1⟩ := cellsT_at T hi
  by_cases hm : j % 2 = 0
  · have ej : j / 2 * 2 = j := by omega
    rw [ej] at e0
    rw [e0] at hj
    have := h1.c0
    rw [ej] at this
    rw [this]
    exact hj
  · have ej : j / 2 * 2 + 1 = j := by omega
    rw [ej] at e1
    rw [e1] at hj
    have := h1.c1
    rw [show off + j / 2 * 2 + 1 = off + j by omega] at this
    rw [this]
    exact hj
theorem cellsT_one (T : List TH) (h : ∀ t ∈ T, t.2.2.oneCell' = true) : ∀ u ∈ cellsT T, u.oneCell' = true := by
  intro u hu
  unfold cellsT at hu
  rw [List.mem_flatMap] at hu
  obtain ⟨t, ht, hu⟩ := hu
  simp at hu
  rcases hu with rfl | rfl
  · rfl
  · exact h t ht
theorem Rd.one {w : World} {v : Value} {p : List UInt8} (h : Rd w v p) : v.oneCell' = true := by
  obtain ⟨a, c, rfl⟩ := h.form
  rfl
theorem RdT.each {w : World} {v : Value} {T : List TH} (h : RdT w v T) : ∀ t ∈ T, Rd w t.2.2 t.2.1 := by
  intro t ht
  rcases h with ⟨a, c, rfl, _⟩ | ⟨b, off, c, h1, h2, h3, h4, h5⟩
  · cases ht
  · obtain ⟨i, hi, e⟩ := List.getElem_of_mem ht
    have h6 := (h5 i hi).rd
    rw [show T.getD i default = T[i] by simp [List.getD, hi], e] at h6
    exact h6
/-- 'append(s, l...)' of lists -/
theorem run_append_T (w : World) (ty base : Nat) {i : TypeInfo} (hi : Try.prog.info? 88 = some i) (hz : i.zero = some (.agg #[.int .i64 0, .slice none 0 0])) (hsize : i.size = 2) (hby : i.bytes = 32)
    {v : Value} {n : Nat} {xs : List Value} (hown : w.ownsRow base 88 2 v n xs) {va : Value} {T : List TH} (hr : RdT w va T) (hc : CapOk va) (hl : n + T.length ≤ 1000000) (hbase : base ≤ w.heap.size) :
    ∃ v' w', (Builtin.append_ #[44, 44] ty #[v, va]).run Try.prog w = .ok v' w' ∧ w'.ownsRow base 88 2 v' (n + T.length) (xs ++ cellsT T) ∧ w.grownBy w' v.ownBlock ∧ (v'.ownBlock = v.ownBlock ∨ v'.ownBlock = some w.heap.size) := by
  have hee := hr.each
  rcases hr with ⟨a, c, rfl, rfl⟩ | ⟨b, off, c, h1, rfl, h3, h4, h5⟩
  · rcases a with _ | ad
    · have := (hc none 0 c rfl).2 rfl
      subst this
      exact ⟨v, w, run_append_owned_none (P := Try.prog) (w := w) base 44 ty 88 i 2 Try.underlying44 hi v n xs hown, by simpa [cellsT] using hown, World.grownBy.refl _ _, Or.inl rfl⟩
    · obtain ⟨v', w', hr, h2, h3, _, h5⟩ := run_append_own_at (P := Try.prog) w base 44 ty 88 i _ 2 32 Try.underlying44 hi hz hsize hby rfl (by decide) v n xs hown ad 0 c [] rfl (by intro j u hj; simp at hj) (by intro u hu; simp at hu) (by unfold maxLen; omega) (by omega) hbase
      exact ⟨v', w', hr, by simpa [cellsT] using h2, h3, h5⟩
  · obtain ⟨v', w', hr, h2, h3, _, h6⟩ := run_append_own_at (P := Try.prog) w base 44 ty 88 i _ 2 32 Try.underlying44 hi hz hsize hby rfl (by decide) v n xs hown ⟨b, off, none⟩ T.length c (cellsT T) (cellsT_length T) (newsT h5) (cellsT_one T (fun t ht => (hee t ht).one)) (by unfold maxLen; omega) (by omega) hbase
    exact ⟨v', w', hr, h2, h3, h6⟩
/-- a list out of its row -/
theorem rdT_row {w : World} {base : Nat} {v : Value} {T : List TH} (h : w.ownsRow base 88 2 v T.length (cellsT T)) (he : ∀ t ∈ T, Rd w t.2.2 t.2.1) (hl : T.length ≤ 100000) : RdT w v T := by
  by_cases h0 : T = []
  · subst h0
    obtain ⟨a, c, e⟩ := owns_slice h
    exact Or.inl ⟨a, c, rfl, e⟩
  · obtain ⟨_, ⟨_, h1⟩ | ⟨g, cap, cur, hv, hg, hh, hc, hm, hs, ht⟩⟩ := h
    · exact absurd (List.length_eq_zero_iff.1 h1) h0
    · refine Or.inr ⟨g, 0, cap, h0, hv, hl, (Array.getElem?_eq_some_iff.1 hh).1, fun i hi => ?_⟩
      have ce : ∀ j, j < T.length * 2 → w.cell? ⟨g, j, none⟩ = (cellsT T)[j]? := by
        intro j hj
        rw [← ht, List.getElem?_take_of_lt hj]
        unfold World.cell?
        rw [hh]
        simp
      obtain ⟨e0, e1⟩ := cellsT_at T hi
      refine ⟨?_, ?_, he _ (getD_mem12 hi)⟩
      · rw [Nat.zero_add, ce _ (by omega), e0]
      · rw [Nat.zero_add, ce _ (by omega), e1]
theorem cap_row {w : World} {base : Nat} {v : Value} {n : Nat} {xs : List Value} (h : w.ownsRow base 88 2 v n xs) : CapOk v := by
  intro a n' c e
  obtain ⟨_, ⟨h1, _⟩ | ⟨g, cap, cur, hv, _, _, hle, _⟩⟩ := h
  · rw [h1] at e; simp at e; obtain ⟨rfl, rfl, rfl⟩ := e; exact ⟨Nat.le_refl _, fun _ => rfl⟩
  · rw [hv] at e; simp at e; obtain ⟨rfl, rfl, rfl⟩ := e; exact ⟨hle, fun h => by cases h⟩
theorem step_append_T {w : World} {ops : Array Oper} {o : Oper} {a : Act} {K : Act → World → Prop} {Q : Exit → Act → World → Prop} {E : Prop} (hgd : o.guard = none) (s x : Operand)
    (ho : o.op = .call { callee := .builtin .append, args := #[s, x], argTypes := #[44, 44] })
    (base : Nat) {i : TypeInfo} (hi : Try.prog.info? 88 = some i) (hz : i.zero = some (.agg #[.int .i64 0, .slice none 0 0])) (hsize : i.size = 2) (hby : i.bytes = 32)
    (v : Value) (n : Nat) (xs : List Value) (hs : a.eval s = v) (hown : w.ownsRow base 88 2 v n xs) (va : Value) (T : List TH) (hx : a.eval x = va) (hr : RdT w va T) (hc : CapOk va) (hl : n + T.length ≤ 1000000) (hbase : base ≤ w.heap.size)
    (h : ∀ v' w', w'.ownsRow base 88 2 v' (n + T.length) (xs ++ cellsT T) → w.grownBy w' v.ownBlock → K (a.put o.dst v') w') :
    if Region.wanted o (yielded ops a.tmps) = true then Oper.wp Try.prog o a w K Q else E := by
  have hw : Region.wanted o (yielded ops a.tmps) = true := by simp [Region.wanted, hgd]
  rw [if_pos hw]
  obtain ⟨v', w', hrun, h2, h3, _⟩ := run_append_T w o.type base hi hz hsize hby hown hr hc hl hbase
  unfold Oper.wp execOp
  simp only [ho, resolve, invoke, builtin, Sem.run_bind, Sem.run_pure, Result.andThen_ok, List.map_toArray, List.map_cons, List.map_nil, hs, hx, hrun]
  exact h v' w' h2 h3
/-- a list of one -/
theorem rdT_lit {w : World} {x : Int} {vb : Value} {p : List UInt8} (hp : Rd w vb p) : RdT (w.alloc (.cells #[.int .i64 x, vb] 88)) (.slice (some ⟨w.heap.size, 0, none⟩) 1 1) [(x, p, vb)] := by
  refine Or.inr ⟨w.heap.size, 0, 1, by simp, rfl, by simp, by simp, fun i hi => ?_⟩
  have : i = 0 := by simp at hi; exact hi
  subst this
  exact ⟨by simp, by simp, hp.below (belA _ _)⟩
/-- parts of a list -/
theorem RdT.take {w : World} {b off c n : Nat} {T : List TH} (h : RdT w (.slice (some ⟨b, off, none⟩) T.length c) T) {k c' : Nat} (hk : k ≤ T.length) (hn : n = k) : RdT w (.slice (some ⟨b, off, none⟩) n c') (T.take k) := by
  subst hn
  have hl : (T.take n).length = n := by rw [List.length_take]; omega
  by_cases h0 : n = 0
  · subst h0
    exact Or.inl ⟨_, c', by simp, rfl⟩
  · rcases h with ⟨_, _, h1, _⟩ | ⟨b', off', c2, h1, h2, h3, h4, h5⟩
    · rw [h1] at hk; simp at hk; omega
    · simp at h2
      obtain ⟨⟨rfl, rfl⟩, _⟩ := h2
      refine Or.inr ⟨b, off, c', fun e => by rw [e] at hl; simp at hl; omega, by rw [hl], by omega, h4, fun i hi => ?_⟩
      rw [hl] at hi
      have e : (T.take n).getD i default = T.getD i default := by simp [List.getD, List.getElem?_take_of_lt hi]
      rw [e]
      exact h5 i (by omega)
theorem RdT.drop {w : World} {b off c n : Nat} {T : List TH} (h : RdT w (.slice (some ⟨b, off, none⟩) T.length c) T) {k c' : Nat} (hk : k ≤ T.length) (hn : n = T.length - k) : RdT w (.slice (some ⟨b, off + k * 2, none⟩) n c') (T.drop k) := by
  subst hn
  by_cases h0 : k = T.length
  · subst h0
    exact Or.inl ⟨some ⟨b, off + T.length * 2, none⟩, c', by simp, by rw [Nat.sub_self]⟩
  rcases h with ⟨_, _, h1, _⟩ | ⟨b', off', c2, h1, h2, h3, h4, h5⟩
  · rw [h1] at hk h0; simp at hk; simp at h0; omega
  · simp at h2
    obtain ⟨⟨rfl, rfl⟩, _⟩ := h2
    refine Or.inr ⟨b, off + k * 2, c', fun e => by have := congrArg List.length e; simp at this; omega, by rw [List.length_drop], by rw [List.length_drop]; omega, h4, fun i hi => ?_⟩
    rw [List.length_drop] at hi
    have e : (T.drop k).getD i default = T.getD (k + i) default := by simp [List.getD]
    rw [e, show off + k * 2 + i * 2 = off + (k + i) * 2 by omega]
    exact h5 (k + i) (by omega)
end Go.Proofs.Ytpijncnpicgjeaa.Gf

