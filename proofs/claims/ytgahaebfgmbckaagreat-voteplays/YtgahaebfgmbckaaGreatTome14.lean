/- TEXTS JOINED: DkSame, DkLawM, DkLook, DkRa. -/
import Derived.Test.YtgahaebfgmbckaaGreatTome13
import Derived.Test.YtgahaebfgmbckaaGreatTome12
namespace Go.Proofs.YtgahaebfgmbckaaGreat.Gf
set_option linter.unusedVariables false
set_option linter.unusedSimpArgs false
open Go.RowKit
instance : Inhabited TH := ⟨(0, [], undef)⟩
structure HeldAt (w : World) (b off : Nat) (t : TH) : Prop where
  c0 : w.cell? ⟨b, off, none⟩ = some (.int .i64 t.1)
  c1 : w.cell? ⟨b, off + 1, none⟩ = some t.2.2
  rd : Rd w t.2.2 t.2.1
def RdT (w : World) (v : Value) (T : List TH) : Prop :=
  (∃ a c, T = [] ∧ v = .slice a 0 c) ∨ (∃ b off c, T ≠ [] ∧ v = .slice (some ⟨b, off, none⟩) T.length c ∧ T.length ≤ 100000 ∧ b < w.heap.size ∧ ∀ i, i < T.length → HeldAt w b (off + i * 2) (T.getD i default))
theorem RdT.below {w w' : World} {v : Value} {T : List TH} (h : RdT w v T) (hb : Below w.heap.size w w') : RdT w' v T := by
  rcases h with h | ⟨b, off, c, h1, h2, h3, h4, h5⟩
  · exact Or.inl h
  · refine Or.inr ⟨b, off, c, h1, h2, h3, Nat.lt_of_lt_of_le h4 hb.size, fun i hi => ?_⟩
    have h6 := h5 i hi
    exact ⟨(hb.cell (p := ⟨b, off + i * 2, none⟩) h4).trans h6.c0, (hb.cell (p := ⟨b, off + i * 2 + 1, none⟩) h4).trans h6.c1, h6.rd.below hb⟩
theorem RdT.form {w : World} {v : Value} {T : List TH} (h : RdT w v T) : ∃ a c, v = .slice a T.length c := by
  rcases h with ⟨a, c, rfl, rfl⟩ | ⟨b, off, c, _, rfl, _⟩
  · exact ⟨a, c, rfl⟩
  · exact ⟨_, c, rfl⟩
theorem RdT.len {w : World} {v : Value} {T : List TH} (h : RdT w v T) : T.length ≤ 100000 := by
  rcases h with ⟨a, c, rfl, rfl⟩ | ⟨b, off, c, _, rfl, h, _⟩
  · exact Nat.zero_le _
  · exact h
theorem RdT.at {w : World} {a : Option Addr} {c : Nat} {T : List TH} (h : RdT w (.slice a T.length c) T) {k : Nat} (hk : k < T.length) : ∃ b off, a = some ⟨b, off, none⟩ ∧ HeldAt w b (off + k * 2) (T.getD k default) := by
  rcases h with ⟨_, _, h1, _⟩ | ⟨b, off, c, h1, h2, h3, h4, h5⟩
  · rw [h1] at hk; simp at hk
  · simp at h2
    exact ⟨b, off, h2.1, h5 k hk⟩
theorem RdT.drewN {w : World} {v : Value} {T : List TH} (h : RdT w v T) (n : Nat) : RdT (w.drewN n) v T := h.below ((Below.refl _ _).drewN n)
/-- one of one's own -/
theorem cellsT_at (T : List TH) {i : Nat} (hi : i < T.length) : (cellsT T)[i * 2]? = some (.int .i64 (T.getD i default).1) ∧ (cellsT T)[i * 2 + 1]? = some (T.getD i default).2.2 := by
  induction T generalizing i with
  | nil => simp at hi
  | cons t T ih =>
    cases i with
    | zero => exact ⟨rfl, rfl⟩
    | succ i =>
      have h := ih (i := i) (by simpa using hi)
      have e : cellsT (t :: T) = .int .i64 t.1 :: t.2.2 :: cellsT T := by unfold cellsT; simp
      rw [e, show (i + 1) * 2 = i * 2 + 1 + 1 by omega]
      simp only [List.getElem?_cons_succ]
      exact h
theorem OwnT.rd {w : World} {base : Nat} {v : Value} {T : List TH} (h : OwnT w base v T) (hl : T.length ≤ 100000) : RdT w v T := by
  by_cases h0 : T = []
  · subst h0
    obtain ⟨a, c, e⟩ := owns_slice h.row
    exact Or.inl ⟨a, c, rfl, e⟩
  · obtain ⟨_, ⟨_, h1⟩ | ⟨g, cap, cur, hv, hg, hh, hc, hm, hs, ht⟩⟩ := h.row
    · exact absurd (List.length_eq_zero_iff.1 h1) h0
    · refine Or.inr ⟨g, 0, cap, h0, hv, hl, (Array.getElem?_eq_some_iff.1 hh).1, fun i hi => ?_⟩
      have ce : ∀ j, j < T.length * 2 → w.cell? ⟨g, j, none⟩ = (cellsT T)[j]? := by
        intro j hj
        rw [← ht, List.getElem?_take_of_lt hj]
        unfold World.cell?
        rw [hh]
        simp
      obtain ⟨e0, e1⟩ := cellsT_at T hi
      have hm : T.getD i default ∈ T := by
        rw [show T.getD i default = T[i] by simp [List.getD, hi]]
        exact List.getElem_mem hi
      refine ⟨?_, ?_, Rd.owned (h.each _ hm)⟩
      · rw [Nat.zero_add, ce _ (by omega), e0]
      · rw [Nat.zero_add, ce _ (by omega), e1]
def RdH (w : World) (v : Value) (L : List (Int × List UInt8)) : Prop := ∃ T, bareT T = L ∧ RdT w v T
theorem bareT_length (T : List TH) : (bareT T).length = T.length := by simp [bareT]
/-- a list that was told, apart from the disk -/
structure ToldT (w : World) (G : Nat → Prop) (v : Value) (T : List TH) : Prop where
  rd : RdT w v T
  ap : ApartG G v
  each : ∀ t ∈ T, ApartG G t.2.2
theorem ToldT.below {w w' : World} {G : Nat → Prop} {v : Value} {T : List TH} (h : ToldT w G v T) (hb : Below w.heap.size w w') : ToldT w' G v T := ⟨h.rd.below hb, h.ap, h.each⟩
theorem getD_mem12 {T : List TH} {i : Nat} (hi : i < T.length) : T.getD i default ∈ T := by
  rw [show T.getD i default = T[i] by simp [List.getD, hi]]
  exact List.getElem_mem hi
theorem ToldT.grew {w w' : World} {G G' : Nat → Prop} {v : Value} {T : List TH} (h : ToldT w G v T) (g : Grew G w G' w') : ToldT w' G' v T := by
  rcases h.rd with ⟨a, c, h1, h2⟩ | ⟨b, off, c, h1, h2, h3, h4, h5⟩
  · refine ⟨Or.inl ⟨a, c, h1, h2⟩, ?_, fun t ht => by rw [h1] at ht; cases ht⟩
    rw [h2]
    exact ApartG.nil _ _ _
  · have hb : ¬ G b := by
      rcases h.ap _ _ _ h2 with e | e
      · exact absurd (List.length_eq_zero_iff.1 e) h1
      · exact e
    refine ⟨Or.inr ⟨b, off, c, h1, h2, h3, Nat.lt_of_lt_of_le h4 g.turn.size, fun i hi => ?_⟩, ?_, fun t ht => ?_⟩
    · have h6 := h5 i hi
      exact ⟨(g.turn.cell (p := ⟨b, off + i * 2, none⟩) h4 hb).trans h6.c0, (g.turn.cell (p := ⟨b, off + i * 2 + 1, none⟩) h4 hb).trans h6.c1, h6.rd.grew (h.each _ (getD_mem12 hi)) g⟩
    · intro x n c' e
      rw [h2] at e
      simp at e
      obtain ⟨rfl, _, _⟩ := e
      exact Or.inr (g.off h4 hb)
    · obtain ⟨i, hi, e⟩ := List.getElem_of_mem ht
      have h6 := (h5 i hi).rd
      rw [show T.getD i default = T[i] by simp [List.getD, hi], e] at h6
      exact (h.each t ht).grew h6 g
theorem bareT_eq {T U : List TH} (hl : T.length = U.length) : bareT T = bareT U ↔ ∀ i, i < T.length → (T.getD i default).1 = (U.getD i default).1 ∧ (T.getD i default).2.1 = (U.getD i default).2.1 := by
  constructor
  · intro h i hi
    have h1 := congrArg (fun l => l[i]?) h
    simp only [bareT, List.getElem?_map] at h1
    rw [List.getElem?_eq_getElem hi, List.getElem?_eq_getElem (by omega)] at h1
    simp at h1
    simp [List.getD, hi, show i < U.length by omega, h1]
  · intro h
    refine List.ext_getElem (by simp [bareT, hl]) fun i h1 h2 => ?_
    simp only [bareT_length] at h1 h2
    have h3 := h i h1
    simp [List.getD, h1, h2] at h3
    simp [bareT, h3]
set_option maxRecDepth 100000 in
set_option maxHeartbeats 1000000 in
theorem same12_any {w : World} {va vb : Value} {L M : List (Int × List UInt8)} (hL : RdH w va L) (hM : RdH w vb M) : Calls Tryz.prog 21 #[va, vb] w fun e w' => e = .returned (.bool (decide (L = M))) ∧ ∃ n, w' = w.drewN n := by
  obtain ⟨T, rfl, hT⟩ := hL
  obtain ⟨U, rfl, hU⟩ := hM
  have lt := hT.len
  have lu := hU.len
  obtain ⟨aa, ca, rfl⟩ := hT.form
  obtain ⟨ab, cb, rfl⟩ := hU.form
  by_cases hl : T.length = U.length
  · have q1 : ((T.length : Int) != (U.length : Int)) = false := by rw [hl]; simp
    have q1' : ((T.length : Int) == (U.length : Int)) = true := by rw [hl]; simp
    obtain ⟨X, hX⟩ : ∃ X, Hid (X = decide (bareT T = bareT U)) := ⟨_, rfl⟩
    rw [← hX.out]
    have hl' : Hid (T.length = U.length) := hl
    clear hl
    go_enter Tryz.func21, Tryz.ntmps21
    go_wp2
    go_loopw [5] (fun i wr => ∃ k : Nat, k ≤ T.length ∧ i = .int .i64 (k : Int) ∧ Hid (∀ j, j < k → (T.getD j default).1 = (U.getD j default).1 ∧ (T.getD j default).2.1 = (U.getD j default).2.1) ∧ ∃ m, Hid (wr = w.drewN m)) (fun i _ => T.length - (intOf i).toNat)
    case atStart => exact ⟨0, Nat.zero_le _, rfl, fun j hj => by omega, 0, rfl⟩
    case round =>
      obtain ⟨k, hk, rfl, hs, m, hd⟩ := hrel
      have hT' : RdT wr (.slice aa T.length ca) T := by rw [hd.out]; exact hT.drewN _
      have hU' : RdT wr (.slice ab U.length cb) U := by rw [hd.out]; exact hU.drewN _
      clear hT hU
      by_cases hlt : k < T.length
      · have hltU : k < U.length := by have := hl'.out; omega
        have hlt' : (k : Int) < (T.length : Int) := by omega
        have hlu' : (k : Int) < (U.length : Int) := by omega
        have g1 : IntKind.i64.wrap ((k : Int) + 1) = ((k + 1 : Nat) : Int) := by rw [IntKind.wrap_i64]; omega
        obtain ⟨b, off, rfl, c0, c1, r1⟩ := hT'.at hlt
        obtain ⟨b', off', rfl, d0, d1, r2⟩ := hU'.at hltU
        have NE : Hid (¬ ((T.getD k default).1 = (U.getD k default).1 ∧ (T.getD k default).2.1 = (U.getD k default).2.1) → X = false) := fun h => by
          rw [hX.out]
          exact decide_eq_false (fun e => h ((bareT_eq hl'.out).1 e k hlt))
        have EQ : Hid ((T.getD k default).1 = (U.getD k default).1 ∧ (T.getD k default).2.1 = (U.getD k default).2.1 → ∀ j, j < k + 1 → (T.getD j default).1 = (U.getD j default).1 ∧ (T.getD j default).2.1 = (U.getD j default).2.1) := fun h j hj => by
          by_cases e2 : j = k
          · rw [e2]; exact h
          · exact hs.out j (by omega)
        obtain ⟨t, ht⟩ : ∃ t, t = T.getD k default := ⟨_, rfl⟩
        obtain ⟨u, hu⟩ : ∃ u, u = U.getD k default := ⟨_, rfl⟩
        rw [← ht] at c0 c1 r1
        rw [← hu] at d0 d1 r2
        rw [← ht, ← hu] at NE EQ
        obtain ⟨t1, t2, t3⟩ := t
        obtain ⟨u1, u2, u3⟩ := u
        simp only at c0 c1 r1 d0 d1 r2
        obtain ⟨ta, tc, rfl⟩ := r1.form
        obtain ⟨ua, uc, rfl⟩ := r2.form
        clear ht hu hs hT' hU' hX
        by_cases e1 : t2 = u2
        · have hn : sameB t2 u2 = true := sameB_of e1
          by_cases e2 : t1 = u1
          · have E := EQ.out ⟨e2, e1⟩
            have HS : Hid (∀ j, j < k + 1 → (T.getD j default).1 = (U.getD j default).1 ∧ (T.getD j default).2.1 = (U.getD j default).2.1) := E
            have z1 : (t1 != u1) = false := by rw [e2]; simp
            have z2 : (t1 == u1) = true := by rw [e2]; simp
            clear E EQ NE e1 e2
            go_wp2
            go_quiet ((go_at_call 42; go_loud (exact Calls.quiet_of (same_any (r1.drewN _) (r2.drewN _)))))
            go_wp2
            go_quiet (fail)
            go_wp2
            go_roundw
            case rel => exact ⟨k + 1, by omega, by go_num, HS, _, by show _ = _; first | rw [hd.out, World.drewN_drewN, World.drewN_drewN] | rw [hd.out, World.drewN_drewN] | rw [World.drewN_drewN, hd.out, World.drewN_drewN]⟩
            case measure => simp [intOf]; omega
          · have E := NE.out (fun h => e2 h.1)
            have HE : Hid (X = false) := E
            have z1 : (t1 != u1) = true := by simp [e2]
            have z2 : (t1 == u1) = false := by simp [e2]
            clear E EQ NE e1 e2
            go_wp2
            go_quiet ((go_at_call 42; go_loud (exact Calls.quiet_of (same_any (r1.drewN _) (r2.drewN _)))))
            go_wp2
            go_quiet (fail)
            go_wp2
            go_ret
            exact ⟨by rw [HE.out]; rfl, _, by show _ = _; first | rw [hd.out, World.drewN_drewN, World.drewN_drewN] | rw [hd.out, World.drewN_drewN] | rw [World.drewN_drewN, hd.out, World.drewN_drewN]⟩
        · have hn : sameB t2 u2 = false := decide_eq_false e1
          have E := NE.out (fun h => e1 h.2)
          have HE : Hid (X = false) := E
          clear E EQ NE e1
          go_wp2
          go_quiet ((go_at_call 42; go_loud (exact Calls.quiet_of (same_any (r1.drewN _) (r2.drewN _)))))
          go_wp2
          go_quiet (fail)
          go_wp2
          go_ret
          exact ⟨by rw [HE.out]; rfl, _, by show _ = _; first | rw [hd.out, World.drewN_drewN, World.drewN_drewN] | rw [hd.out, World.drewN_drewN] | rw [World.drewN_drewN, hd.out, World.drewN_drewN]⟩
      · have HE : Hid (X = true) := by
          show X = true
          rw [hX.out]
          exact decide_eq_true ((bareT_eq hl'.out).2 fun i hi => hs.out i (by omega))
        have hge : ¬ (k : Int) < (T.length : Int) := by omega
        clear hs hT' hU' hX
        go_wp2
        go_ret
        exact ⟨by rw [HE.out]; rfl, _, hd.out⟩
  · have q1 : ((T.length : Int) != (U.length : Int)) = true := by simp; omega
    have q1' : ((T.length : Int) == (U.length : Int)) = false := by simp; omega
    have e : decide (bareT T = bareT U) = false := decide_eq_false (fun h => hl (by have := congrArg List.length h; simpa [bareT_length] using this))
    rw [e]
    clear e hT hU
    go_enter Tryz.func21, Tryz.ntmps21
    go_wp2
    go_ret
    exact ⟨rfl, 0, rfl⟩
end Go.Proofs.YtgahaebfgmbckaaGreat.Gf

namespace Go.Proofs.YtgahaebfgmbckaaGreat.Gf
set_option linter.unusedVariables false
set_option linter.unusedSimpArgs false
open Go.RowKit
section
variable {w : World} {db : Nat} {G : Nat → Prop} {d : DkS}
theorem same12_is {va vb : Value} {L M : List (Int × List UInt8)} (hL : RdH w va L) (hM : RdH w vb M) {x : Bool} (hx : decide (L = M) = x) : Calls Tryz.prog 21 #[va, vb] w fun e w' => e = .returned (.bool x) ∧ ∃ n, w' = w.drewN n := by
  rw [← hx]; exact same12_any hL hM
theorem same_is {va vb : Value} {p q : List UInt8} (hp : Rd w va p) (hq : Rd w vb q) {x : Bool} (hx : sameB p q = x) : Calls Tryz.prog 42 #[va, vb] w fun e w' => e = .returned (.bool x) ∧ ∃ n, w' = w.drewN n := by
  rw [← hx]; exact same_any hp hq
end
end Go.Proofs.YtgahaebfgmbckaaGreat.Gf

namespace Go.Proofs.YtgahaebfgmbckaaGreat.Gf
set_option linter.unusedVariables false
set_option linter.unusedSimpArgs false
open Go.RowKit
def lookL (L : List (Int × List UInt8)) (x : Int) : Option (List UInt8) := (L.find? fun t => t.1 == x).map (·.2)
theorem lookL_held {f : Int → Option (List UInt8)} {s : Nat} (hf : InS s f) (x : Int) : lookL (heldL f s) x = f x := by
  unfold lookL
  cases h : (heldL f s).find? fun t => t.1 == x with
  | none =>
    cases hx : f x with
    | none => rfl
    | some b =>
      have h1 := hf x b hx
      have h2 := (heldL_mem (f := f) (s := s)).2 ⟨h1.1, h1.2.1, hx⟩
      have h3 := List.find?_eq_none.1 h _ h2
      simp at h3
  | some t =>
    have h1 := List.find?_some h
    have h2 := List.mem_of_find?_eq_some h
    obtain ⟨y, b⟩ := t
    have h3 := heldL_mem.1 h2
    simp at h1
    subst h1
    exact h3.2.2.symm
theorem look_none {T : List TH} {x : Int} (h : ∀ j, j < T.length → (T.getD j default).1 ≠ x) : lookL (bareT T) x = none := by
  unfold lookL
  rw [List.find?_eq_none.2, Option.map_none]
  intro t ht
  unfold bareT at ht
  rw [List.mem_map] at ht
  obtain ⟨u, hu, rfl⟩ := ht
  obtain ⟨i, hi, e⟩ := List.getElem_of_mem hu
  have h1 := h i hi
  rw [show T.getD i default = T[i] by simp [List.getD, hi], e] at h1
  simpa using h1
theorem look_at {T : List TH} {x : Int} {k : Nat} (hk : k < T.length) (h : ∀ j, j < k → (T.getD j default).1 ≠ x) (hx : (T.getD k default).1 = x) : lookL (bareT T) x = some (T.getD k default).2.1 := by
  induction T generalizing k with
  | nil => simp at hk
  | cons t T ih =>
    cases k with
    | zero =>
      have hx' : t.1 = x := hx
      simp [lookL, bareT, hx']
    | succ k =>
      have h0 : t.1 ≠ x := h 0 (by omega)
      have h1 := ih (k := k) (by simpa using hk) (fun j hj => h (j + 1) (by omega)) hx
      have h2 : lookL (bareT (t :: T)) x = lookL (bareT T) x := by
        unfold lookL bareT
        rw [List.map_cons, List.find?_cons_of_neg (by simpa using h0)]
      rw [h2, h1]
      rfl
theorem mem_take {K : List Int} {j : Nat} (hj : j < K.length) (x : Int) : decide (x ∈ K.take (j + 1)) = (decide (x ∈ K.take j) || (K.getD j 0 == x)) := by
  have e : K.getD j 0 = K[j] := by simp [List.getD, hj]
  rw [List.take_add_one, List.getElem?_eq_getElem hj, e]
  simp only [Option.toList_some, List.mem_append, List.mem_singleton]
  by_cases h1 : x ∈ K.take j
  · simp [h1]
  · by_cases h2 : x = K[j]
    · rw [← h2]; simp [h1]
    · have h3 : ¬ K[j] = x := fun e => h2 e.symm
      simp [h1, h2, h3]
end Go.Proofs.YtgahaebfgmbckaaGreat.Gf

namespace Go.Proofs.YtgahaebfgmbckaaGreat.Gf
set_option linter.unusedVariables false
set_option linter.unusedSimpArgs false
open Go.RowKit
def CapOk (v : Value) : Prop := ∀ a n c, v = .slice a n c → n ≤ c ∧ (a = none → c = 0)
theorem newsT {W : World} {b off : Nat} {T : List TH} (h : ∀ i, i < T.length → HeldAt W b (off + i * 2) (T.getD i default)) : ∀ j u, (cellsT T)[j]? = some u → W.cell? ((⟨b, off, none⟩ : Addr).add j) = some u := by
  intro j u hj
  rw [add_at]
  have hl : j < T.length * 2 := by
    rw [← cellsT_length]
    by_cases hc : j < (cellsT T).length
    · exact hc
    · rw [List.getElem?_eq_none (by omega)] at hj; cases hj
  have hi : j / 2 < T.length := by omega
  have h1 := h (j / 2) hi
  obtain ⟨e0, e1⟩ := cellsT_at T hi
  by_cases hm : j % 2 = 0
  · have ej : j / 2 * 2 = j := by omega
    rw [ej] at e0
    rw [e0] at hj
    have := h1.c0
    rw [ej] at this
    rw [this]
    exact hj
  · have ej : j / 2 * 2 + 1 = j := by omega
    rw [ej] at e1
    rw [e1] at hj
    have := h1.c1
    rw [show off + j / 2 * 2 + 1 = off + j by omega] at this
    rw [this]
    exact hj
theorem cellsT_one (T : List TH) (h : ∀ t ∈ T, t.2.2.oneCell' = true) : ∀ u ∈ cellsT T, u.oneCell' = true := by
  intro u hu
  unfold cellsT at hu
  rw [List.mem_flatMap] at hu
  obtain ⟨t, ht, hu⟩ := hu
  simp at hu
  rcases hu with rfl | rfl
  · rfl
  · exact h t ht
theorem Rd.one {w : World} {v : Value} {p : List UInt8} (h : Rd w v p) : v.oneCell' = true := by
  obtain ⟨a, c, rfl⟩ := h.form
  rfl
theorem RdT.each {w : World} {v : Value} {T : List TH} (h : RdT w v T) : ∀ t ∈ T, Rd w t.2.2 t.2.1 := by
  intro t ht
  rcases h with ⟨a, c, rfl, _⟩ | ⟨b, off, c, h1, h2, h3, h4, h5⟩
  · cases ht
  · obtain ⟨i, hi, e⟩ := List.getElem_of_mem ht
    have h6 := (h5 i hi).rd
    rw [show T.getD i default = T[i] by simp [List.getD, hi], e] at h6
    exact h6
/-- 'append(s, l...)' of lists -/
theorem run_append_T (w : World) (ty base : Nat) {i : TypeInfo} (hi : Tryz.prog.info? 112 = some i) (hz : i.zero = some (.agg #[.int .i64 0, .slice none 0 0])) (hsize : i.size = 2) (hby : i.bytes = 32)
    {v : Value} {n : Nat} {xs : List Value} (hown : w.ownsRow base 112 2 v n xs) {va : Value} {T : List TH} (hr : RdT w va T) (hc : CapOk va) (hl : n + T.length ≤ 1000000) (hbase : base ≤ w.heap.size) :
    ∃ v' w', (Builtin.append_ #[71, 71] ty #[v, va]).run Tryz.prog w = .ok v' w' ∧ w'.ownsRow base 112 2 v' (n + T.length) (xs ++ cellsT T) ∧ w.grownBy w' v.ownBlock ∧ (v'.ownBlock = v.ownBlock ∨ v'.ownBlock = some w.heap.size) := by
  have hee := hr.each
  rcases hr with ⟨a, c, rfl, rfl⟩ | ⟨b, off, c, h1, rfl, h3, h4, h5⟩
  · rcases a with _ | ad
    · have := (hc none 0 c rfl).2 rfl
      subst this
      exact ⟨v, w, run_append_owned_none (P := Tryz.prog) (w := w) base 71 ty 112 i 2 Tryz.underlying71 hi v n xs hown, by simpa [cellsT] using hown, World.grownBy.refl _ _, Or.inl rfl⟩
    · obtain ⟨v', w', hr, h2, h3, _, h5⟩ := run_append_own_at (P := Tryz.prog) w base 71 ty 112 i _ 2 32 Tryz.underlying71 hi hz hsize hby rfl (by decide) v n xs hown ad 0 c [] rfl (by intro j u hj; simp at hj) (by intro u hu; simp at hu) (by unfold maxLen; omega) (by omega) hbase
      exact ⟨v', w', hr, by simpa [cellsT] using h2, h3, h5⟩
  · obtain ⟨v', w', hr, h2, h3, _, h6⟩ := run_append_own_at (P := Tryz.prog) w base 71 ty 112 i _ 2 32 Tryz.underlying71 hi hz hsize hby rfl (by decide) v n xs hown ⟨b, off, none⟩ T.length c (cellsT T) (cellsT_length T) (newsT h5) (cellsT_one T (fun t ht => (hee t ht).one)) (by unfold maxLen; omega) (by omega) hbase
    exact ⟨v', w', hr, h2, h3, h6⟩
/-- a list out of its row -/
theorem rdT_row {w : World} {base : Nat} {v : Value} {T : List TH} (h : w.ownsRow base 112 2 v T.length (cellsT T)) (he : ∀ t ∈ T, Rd w t.2.2 t.2.1) (hl : T.length ≤ 100000) : RdT w v T := by
  by_cases h0 : T = []
  · subst h0
    obtain ⟨a, c, e⟩ := owns_slice h
    exact Or.inl ⟨a, c, rfl, e⟩
  · obtain ⟨_, ⟨_, h1⟩ | ⟨g, cap, cur, hv, hg, hh, hc, hm, hs, ht⟩⟩ := h
    · exact absurd (List.length_eq_zero_iff.1 h1) h0
    · refine Or.inr ⟨g, 0, cap, h0, hv, hl, (Array.getElem?_eq_some_iff.1 hh).1, fun i hi => ?_⟩
      have ce : ∀ j, j < T.length * 2 → w.cell? ⟨g, j, none⟩ = (cellsT T)[j]? := by
        intro j hj
        rw [← ht, List.getElem?_take_of_lt hj]
        unfold World.cell?
        rw [hh]
        simp
      obtain ⟨e0, e1⟩ := cellsT_at T hi
      refine ⟨?_, ?_, he _ (getD_mem12 hi)⟩
      · rw [Nat.zero_add, ce _ (by omega), e0]
      · rw [Nat.zero_add, ce _ (by omega), e1]
theorem cap_row {w : World} {base : Nat} {v : Value} {n : Nat} {xs : List Value} (h : w.ownsRow base 112 2 v n xs) : CapOk v := by
  intro a n' c e
  obtain ⟨_, ⟨h1, _⟩ | ⟨g, cap, cur, hv, _, _, hle, _⟩⟩ := h
  · rw [h1] at e; simp at e; obtain ⟨rfl, rfl, rfl⟩ := e; exact ⟨Nat.le_refl _, fun _ => rfl⟩
  · rw [hv] at e; simp at e; obtain ⟨rfl, rfl, rfl⟩ := e; exact ⟨hle, fun h => by cases h⟩
theorem step_append_T {w : World} {ops : Array Oper} {o : Oper} {a : Act} {K : Act → World → Prop} {Q : Exit → Act → World → Prop} {E : Prop} (hgd : o.guard = none) (s x : Operand)
    (ho : o.op = .call { callee := .builtin .append, args := #[s, x], argTypes := #[71, 71] })
    (base : Nat) {i : TypeInfo} (hi : Tryz.prog.info? 112 = some i) (hz : i.zero = some (.agg #[.int .i64 0, .slice none 0 0])) (hsize : i.size = 2) (hby : i.bytes = 32)
    (v : Value) (n : Nat) (xs : List Value) (hs : a.eval s = v) (hown : w.ownsRow base 112 2 v n xs) (va : Value) (T : List TH) (hx : a.eval x = va) (hr : RdT w va T) (hc : CapOk va) (hl : n + T.length ≤ 1000000) (hbase : base ≤ w.heap.size)
    (h : ∀ v' w', w'.ownsRow base 112 2 v' (n + T.length) (xs ++ cellsT T) → w.grownBy w' v.ownBlock → K (a.put o.dst v') w') :
    if Region.wanted o (yielded ops a.tmps) = true then Oper.wp Tryz.prog o a w K Q else E := by
  have hw : Region.wanted o (yielded ops a.tmps) = true := by simp [Region.wanted, hgd]
  rw [if_pos hw]
  obtain ⟨v', w', hrun, h2, h3, _⟩ := run_append_T w o.type base hi hz hsize hby hown hr hc hl hbase
  unfold Oper.wp execOp
  simp only [ho, resolve, invoke, builtin, Sem.run_bind, Sem.run_pure, Result.andThen_ok, List.map_toArray, List.map_cons, List.map_nil, hs, hx, hrun]
  exact h v' w' h2 h3
/-- a list of one -/
theorem rdT_lit {w : World} {x : Int} {vb : Value} {p : List UInt8} (hp : Rd w vb p) : RdT (w.alloc (.cells #[.int .i64 x, vb] 112)) (.slice (some ⟨w.heap.size, 0, none⟩) 1 1) [(x, p, vb)] := by
  refine Or.inr ⟨w.heap.size, 0, 1, by simp, rfl, by simp, by simp, fun i hi => ?_⟩
  have : i = 0 := by simp at hi; exact hi
  subst this
  exact ⟨by simp, by simp, hp.below (belA _ _)⟩
/-- parts of a list -/
theorem RdT.take {w : World} {b off c n : Nat} {T : List TH} (h : RdT w (.slice (some ⟨b, off, none⟩) T.length c) T) {k c' : Nat} (hk : k ≤ T.length) (hn : n = k) : RdT w (.slice (some ⟨b, off, none⟩) n c') (T.take k) := by
  subst hn
  have hl : (T.take n).length = n := by rw [List.length_take]; omega
  by_cases h0 : n = 0
  · subst h0
    exact Or.inl ⟨_, c', by simp, rfl⟩
  · rcases h with ⟨_, _, h1, _⟩ | ⟨b', off', c2, h1, h2, h3, h4, h5⟩
    · rw [h1] at hk; simp at hk; omega
    · simp at h2
      obtain ⟨⟨rfl, rfl⟩, _⟩ := h2
      refine Or.inr ⟨b, off, c', fun e => by rw [e] at hl; simp at hl; omega, by rw [hl], by omega, h4, fun i hi => ?_⟩
      rw [hl] at hi
      have e : (T.take n).getD i default = T.getD i default := by simp [List.getD, List.getElem?_take_of_lt hi]
      rw [e]
      exact h5 i (by omega)
theorem RdT.drop {w : World} {b off c n : Nat} {T : List TH} (h : RdT w (.slice (some ⟨b, off, none⟩) T.length c) T) {k c' : Nat} (hk : k ≤ T.length) (hn : n = T.length - k) : RdT w (.slice (some ⟨b, off + k * 2, none⟩) n c') (T.drop k) := by
  subst hn
  by_cases h0 : k = T.length
  · subst h0
    exact Or.inl ⟨some ⟨b, off + T.length * 2, none⟩, c', by simp, by rw [Nat.sub_self]⟩
  rcases h with ⟨_, _, h1, _⟩ | ⟨b', off', c2, h1, h2, h3, h4, h5⟩
  · rw [h1] at hk h0; simp at hk; simp at h0; omega
  · simp at h2
    obtain ⟨⟨rfl, rfl⟩, _⟩ := h2
    refine Or.inr ⟨b, off + k * 2, c', fun e => by have := congrArg List.length e; simp at this; omega, by rw [List.length_drop], by rw [List.length_drop]; omega, h4, fun i hi => ?_⟩
    rw [List.length_drop] at hi
    have e : (T.drop k).getD i default = T.getD (k + i) default := by simp [List.getD]
    rw [e, show off + k * 2 + i * 2 = off + (k + i) * 2 by omega]
    exact h5 (k + i) (by omega)
end Go.Proofs.YtgahaebfgmbckaaGreat.Gf
