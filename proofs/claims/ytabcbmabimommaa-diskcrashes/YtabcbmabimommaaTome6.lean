/- TEXTS JOINED: DkHeld. -/
import Derived.Test.YtabcbmabimommaaTome5
/-
  THE STATEMENTS' HELPERS OF LAYER 12: 'held' (what is held at a place).
-/

namespace Go.Proofs.Ytabcbmabimommaa.Gf
set_option linter.unusedVariables false
set_option linter.unusedSimpArgs false
open Go.RowKit

def lookL (L : List (Int × List UInt8)) (x : Int) : Option (List UInt8) := (L.find? fun t => t.1 == x).map (·.2)
theorem lookL_held {f : Int → Option (List UInt8)} {s : Nat} (hf : InS s f) (x : Int) : lookL (heldL f s) x = f x := by
  unfold lookL
  cases h : (heldL f s).find? fun t => t.1 == x with
  | none =>
    cases hx : f x with
    | none => rfl
    | some b =>
      have h1 := hf x b hx
      have h2 := (heldL_mem (f := f) (s := s)).2 ⟨h1.1, h1.2.1, hx⟩
      have h3 := List.find?_eq_none.1 h _ h2
      simp at h3
  | some t =>
    have h1 := List.find?_some h
    have h2 := List.mem_of_find?_eq_some h
    obtain ⟨y, b⟩ := t
    have h3 := heldL_mem.1 h2
    simp at h1
    subst h1
    exact h3.2.2.symm
theorem look_none {T : List TH} {x : Int} (h : ∀ j, j < T.length → (T.getD j default).1 ≠ x) : lookL (bareT T) x = none := by
  unfold lookL
  rw [List.find?_eq_none.2, Option.map_none]
  intro t ht
  unfold bareT at ht
  rw [List.mem_map] at ht
  obtain ⟨u, hu, rfl⟩ := ht
  obtain ⟨i, hi, e⟩ := List.getElem_of_mem hu
  have h1 := h i hi
  rw [show T.getD i default = T[i] by simp [List.getD, hi], e] at h1
  simpa using h1
theorem look_at {T : List TH} {x : Int} {k : Nat} (hk : k < T.length) (h : ∀ j, j < k → (T.getD j default).1 ≠ x) (hx : (T.getD k default).1 = x) : lookL (bareT T) x = some (T.getD k default).2.1 := by
  induction T generalizing k with
  | nil => simp at hk
  | cons t T ih =>
    cases k with
    | zero =>
      have hx' : t.1 = x := hx
      simp [lookL, bareT, hx']
    | succ k =>
      have h0 : t.1 ≠ x := h 0 (by omega)
      have h1 := ih (k := k) (by simpa using hk) (fun j hj => h (j + 1) (by omega)) hx
      have h2 : lookL (bareT (t :: T)) x = lookL (bareT T) x := by
        unfold lookL bareT
        rw [List.map_cons, List.find?_cons_of_neg (by simpa using h0)]
      rw [h2, h1]
      rfl
def HeldD (w : World) (o : Option (List UInt8)) (e : Ending) (w' : World) : Prop := ∃ v, e = .returned (.tuple #[v, .bool o.isSome]) ∧ Rd w v (o.getD []) ∧ w' = w
set_option maxRecDepth 100000 in
set_option maxHeartbeats 1000000 in
theorem held_any {w : World} {v : Value} {L : List (Int × List UInt8)} (h : RdH w v L) {x : Int} : Calls Try.prog 21 #[v, .int .i64 x] w (HeldD w (lookL L x)) := by
  obtain ⟨T, rfl, hT⟩ := h
  have lt := hT.len
  obtain ⟨aa, ca, rfl⟩ := hT.form
  go_enter Try.func21, Try.ntmps21
  go_wp2
  go_loopw [6] (fun i wr => ∃ k : Nat, k ≤ T.length ∧ i = .int .i64 (k : Int) ∧ Hid (∀ j, j < k → (T.getD j default).1 ≠ x) ∧ Hid (wr = w)) (fun i _ => T.length - (intOf i).toNat)
  case atStart => exact ⟨0, Nat.zero_le _, rfl, fun j hj => by omega, rfl⟩
  case round =>
    obtain ⟨k, hk, rfl, hs, hd⟩ := hrel
    have hT' : RdT wr (.slice aa T.length ca) T := by rw [hd.out]; exact hT
    clear hT
    by_cases hlt : k < T.length
    · have hlt' : (k : Int) < (T.length : Int) := by omega
      have g1 : IntKind.i64.wrap ((k : Int) + 1) = ((k + 1 : Nat) : Int) := by rw [IntKind.wrap_i64]; omega
      obtain ⟨b, off, rfl, c0, c1, r1⟩ := hT'.at hlt
      by_cases e : (T.getD k default).1 = x
      · have HL : Hid (lookL (bareT T) x = some (T.getD k default).2.1) := look_at hlt hs.out e
        have z1 : ((T.getD k default).1 == x) = true := beq_iff_eq.2 e
        obtain ⟨t, ht⟩ : ∃ t, t = T.getD k default := ⟨_, rfl⟩
        rw [← ht] at c0 c1 r1 HL z1
        obtain ⟨t1, t2, t3⟩ := t
        simp only at c0 c1 r1 z1
        obtain ⟨ta, tc, rfl⟩ := r1.form
        have RR : Hid (Rd wr (.slice ta t2.length tc) t2) := r1
        clear ht hs hT' e r1
        go_wp2
        refine bodyPost_ret (v := .tuple #[.slice ta t2.length tc, .bool true]) (by simp [results, Try.results21, go_sem]) rfl ?_
        unfold HeldD
        rw [HL.out]
        exact ⟨_, rfl, by rw [hd.out] at RR; exact RR.out, hd.out⟩
      · have z1 : ((T.getD k default).1 == x) = false := beq_eq_false_iff_ne.2 e
        have HS : Hid (∀ j, j < k + 1 → (T.getD j default).1 ≠ x) := fun j hj => by
          by_cases e2 : j = k
          · rw [e2]; exact e
          · exact hs.out j (by omega)
        obtain ⟨t, ht⟩ : ∃ t, t = T.getD k default := ⟨_, rfl⟩
        rw [← ht] at c0 c1 r1 z1
        obtain ⟨t1, t2, t3⟩ := t
        simp only at c0 c1 r1 z1
        clear ht hs hT' e r1
        go_wp2
        go_roundw
        case rel => exact ⟨k + 1, by omega, by go_num, HS, hd⟩
        case measure => simp [intOf]; omega
    · have hge : ¬ (k : Int) < (T.length : Int) := by omega
      have HL : Hid (lookL (bareT T) x = none) := look_none (fun j hj => hs.out j (by omega))
      clear hs hT'
      go_wp2
      refine bodyPost_ret (v := .tuple #[.slice none 0 0, .bool false]) (by simp [results, Try.results21, go_sem]) rfl ?_
      unfold HeldD
      rw [HL.out]
      exact ⟨_, rfl, Or.inl ⟨none, 0, rfl, rfl, Nat.zero_le _, fun _ => rfl⟩, hd.out⟩
/-- DiskCrashes under way: what lasted and waited, and what lasts now -/
structure CrI (u1 wr : World) (db : Nat) (G : Nat → Prop) (d e : DkS) (vl vw vn : Value) : Prop where
  D : DkB wr u1.heap.size db G e
  l : ToldH wr G vl (heldL d.last d.s)
  t : ToldH wr G vw (heldL d.wait d.s)
  n : ToldH wr G vn (heldL e.last d.s)
  B : Below u1.heap.size u1 wr
theorem CrI.below {u1 wr wr' : World} {db : Nat} {G : Nat → Prop} {d e : DkS} {vl vw vn : Value} (h : CrI u1 wr db G d e vl vw vn) (hb : Below wr.heap.size wr wr') : CrI u1 wr' db G d e vl vw vn :=
  ⟨h.D.below hb, h.l.below hb, h.t.below hb, h.n.below hb, h.B.step12 hb h.B.size⟩
theorem CrI.drewN {u1 wr : World} {db : Nat} {G : Nat → Prop} {d e : DkS} {vl vw vn : Value} (h : CrI u1 wr db G d e vl vw vn) (n : Nat) : CrI u1 (wr.drewN n) db G d e vl vw vn := h.below ((Below.refl _ _).drewN n)
theorem held_is {w : World} {v : Value} {L : List (Int × List UInt8)} (h : RdH w v L) {x : Int} {o : Option (List UInt8)} (ho : lookL L x = o) : Calls Try.prog 21 #[v, .int .i64 x] w (HeldD w o) := by
  rw [← ho]; exact held_any h
theorem mem_take {K : List Int} {j : Nat} (hj : j < K.length) (x : Int) : decide (x ∈ K.take (j + 1)) = (decide (x ∈ K.take j) || (K.getD j 0 == x)) := by
  have e : K.getD j 0 = K[j] := by simp [List.getD, hj]
  rw [List.take_add_one, List.getElem?_eq_getElem hj, e]
  simp only [Option.toList_some, List.mem_append, List.mem_singleton]
  by_cases h1 : x ∈ K.take j
  · simp [h1]
  · by_cases h2 : x = K[j]
    · rw [← h2]; simp [h1]
    · have h3 : ¬ K[j] = x := fun e => h2 e.symm
      simp [h1, h2, h3]
end Go.Proofs.Ytabcbmabimommaa.Gf

