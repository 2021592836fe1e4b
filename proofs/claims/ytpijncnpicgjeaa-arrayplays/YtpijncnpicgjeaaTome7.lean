/- TEXTS JOINED: DkRm, DkOwnL, DkRc, DkRd, ArRef, ArAt, ArRm, ArCA. -/
import Derived.Test.YtpijncnpicgjeaaTome5
import Derived.Test.YtpijncnpicgjeaaTome6
import Derived.Test.YtpijncnpicgjeaaTome2
/-
  PLAIN MATHEMATICS OF LISTS OF WHAT IS HELD: one more in the place of one of its place; what some of them leave. No program's function is named here.
-/

namespace Go.Proofs.Ytpijncnpicgjeaa.Gf
set_option linter.unusedVariables false
set_option linter.unusedSimpArgs false
open Go.RowKit

abbrev Sorted12 (L : List (Int × List UInt8)) : Prop := L.Pairwise fun a b => a.1 < b.1
theorem heldL_sorted (f : Int → Option (List UInt8)) (s : Nat) : Sorted12 (heldL f s) := by
  induction s with
  | zero => exact List.Pairwise.nil
  | succ s ih =>
    rw [heldL_succ]
    refine List.pairwise_append.2 ⟨ih, ?_, fun a ha b hb => ?_⟩
    · cases f (s : Int) <;> simp
    · have h1 := (heldL_mem (x := a.1) (b := a.2)).1 ha
      cases hf : f (s : Int) with
      | none => rw [hf] at hb; cases hb
      | some q =>
        rw [hf] at hb
        simp at hb
        subst hb
        exact h1.2.1
theorem sorted_ext {L M : List (Int × List UInt8)} (hL : Sorted12 L) (hM : Sorted12 M) (h : ∀ z, z ∈ L ↔ z ∈ M) : L = M := by
  refine List.Perm.eq_of_pairwise (le := fun a b => a.1 < b.1) (fun a b _ _ h1 h2 => by omega) hL hM ?_
  refine (List.perm_ext_iff_of_nodup (hL.imp fun h e => ?_) (hM.imp fun h e => ?_)).2 h
  · rw [e] at h; omega
  · rw [e] at h; omega
theorem place_of (T : List TH) (x : Int) : ∃ k0, k0 ≤ T.length ∧ (∀ j, j < k0 → (T.getD j default).1 < x) ∧ (k0 = T.length ∨ (k0 < T.length ∧ x ≤ (T.getD k0 default).1)) := by
  induction T with
  | nil => exact ⟨0, Nat.le_refl _, fun j hj => by omega, Or.inl rfl⟩
  | cons t T ih =>
    by_cases h : t.1 < x
    · obtain ⟨k, h1, h2, h3⟩ := ih
      refine ⟨k + 1, by simpa using h1, fun j hj => ?_, ?_⟩
      · cases j with
        | zero => exact h
        | succ j => exact h2 j (by omega)
      · rcases h3 with h3 | ⟨h3, h4⟩
        · exact Or.inl (by simp [h3])
        · exact Or.inr ⟨by simpa using h3, h4⟩
    · exact ⟨0, Nat.zero_le _, fun j hj => by omega, Or.inr ⟨by simp, by show x ≤ t.1; omega⟩⟩
theorem bare_at {T : List TH} {i : Nat} (h : i < (bareT T).length) : (bareT T)[i] = ((T.getD i default).1, (T.getD i default).2.1) := by
  have h' : i < T.length := by rw [bareT_length] at h; exact h
  simp [bareT, List.getD, h']
/-- where 'with' puts one -/
theorem with_place {f : Int → Option (List UInt8)} {s : Nat} {T : List TH} (hT : bareT T = heldL f s) {x : Int} (h0 : 0 ≤ x) (h1 : x < (s : Int)) (p : List UInt8) (vb : Value) :
    ∃ k0 k1, k0 ≤ T.length ∧ (∀ j, j < k0 → (T.getD j default).1 < x) ∧ ((k0 = T.length ∧ k1 = k0) ∨ (k0 < T.length ∧ (T.getD k0 default).1 = x ∧ k1 = k0 + 1) ∨ (k0 < T.length ∧ x < (T.getD k0 default).1 ∧ k1 = k0)) ∧
      bareT (T.take k0 ++ (x, p, vb) :: T.drop k1) = heldL (putB f x p) s := by
  obtain ⟨k0, hk, hlo, hhi⟩ := place_of T x
  have hs : Sorted12 (bareT T) := by rw [hT]; exact heldL_sorted f s
  have hsi := List.pairwise_iff_getElem.1 hs
  have hl := bareT_length T
  obtain ⟨k1, hc⟩ : ∃ k1, (k0 = T.length ∧ k1 = k0) ∨ (k0 < T.length ∧ (T.getD k0 default).1 = x ∧ k1 = k0 + 1) ∨ (k0 < T.length ∧ x < (T.getD k0 default).1 ∧ k1 = k0) := by
    rcases hhi with h | ⟨h, h2⟩
    · exact ⟨k0, Or.inl ⟨h, rfl⟩⟩
    · by_cases e : (T.getD k0 default).1 = x
      · exact ⟨k0 + 1, Or.inr (Or.inl ⟨h, e, rfl⟩)⟩
      · exact ⟨k0, Or.inr (Or.inr ⟨h, by omega, rfl⟩)⟩
  refine ⟨k0, k1, hk, hlo, hc, ?_⟩
  have key : ∀ i (h : i < (bareT T).length), (bareT T)[i].1 = (T.getD i default).1 := fun i h => by rw [bare_at h]
  have lowT : ∀ z ∈ (bareT T).take k0, z.1 < x := by
    intro z hz
    obtain ⟨i, hi, e⟩ := List.getElem_of_mem hz
    have hi' : i < k0 ∧ i < (bareT T).length := by rw [List.length_take] at hi; omega
    rw [List.getElem_take] at e
    rw [← e, key i hi'.2]
    exact hlo i hi'.1
  have highT : ∀ z ∈ (bareT T).drop k1, x < z.1 := by
    intro z hz
    obtain ⟨i, hi, e⟩ := List.getElem_of_mem hz
    rw [List.length_drop] at hi
    rw [List.getElem_drop] at e
    rw [← e]
    have hi2 : k1 + i < (bareT T).length := by omega
    rcases hc with ⟨e1, e2⟩ | ⟨e1, e3, e2⟩ | ⟨e1, e3, e2⟩
    · omega
    · have h4 := hsi k0 (k1 + i) (by omega) hi2 (by omega)
      rw [key k0 (by omega), e3] at h4
      exact h4
    · by_cases h5 : k1 + i = k0
      · have h6 := key (k1 + i) hi2
        rw [h6, h5]
        exact e3
      · have h4 := hsi k0 (k1 + i) (by omega) hi2 (by omega)
        rw [key k0 (by omega)] at h4
        omega
  have hb : bareT (T.take k0 ++ (x, p, vb) :: T.drop k1) = (bareT T).take k0 ++ (x, p) :: (bareT T).drop k1 := by simp [bareT]
  rw [hb]
  refine sorted_ext ?_ (heldL_sorted _ _) fun z => ?_
  · refine List.pairwise_append.2 ⟨hs.sublist (List.take_sublist _ _), List.pairwise_cons.2 ⟨fun a ha => highT a ha, hs.sublist (List.drop_sublist _ _)⟩, fun a ha b hb2 => ?_⟩
    have h5 := lowT a ha
    rcases List.mem_cons.1 hb2 with e | h6
    · rw [e]; exact h5
    · have := highT b h6
      omega
  · obtain ⟨y, q⟩ := z
    rw [heldL_mem, List.mem_append, List.mem_cons]
    have inT : ∀ y q, (y, q) ∈ bareT T ↔ 0 ≤ y ∧ y < (s : Int) ∧ f y = some q := fun y q => by rw [hT]; exact heldL_mem
    have split : (y, q) ∈ bareT T ↔ ((y, q) ∈ (bareT T).take k0 ∨ (y, q) ∈ (bareT T).drop k0) := by
      rw [← List.mem_append, List.take_append_drop]
    by_cases hy : y = x
    · subst hy
      constructor
      · rintro (h | h | h)
        · have := lowT _ h; simp at this
        · cases h
          exact ⟨h0, h1, if_pos rfl⟩
        · have := highT _ h; simp at this
      · rintro ⟨_, _, h⟩
        have h2 : putB f y p y = some p := if_pos rfl
        rw [h2] at h
        cases h
        exact Or.inr (Or.inl rfl)
    · have h2 : putB f x p y = f y := if_neg hy
      rw [h2, ← inT y q, split]
      have hd : (y, q) ∈ (bareT T).drop k0 ↔ (y, q) ∈ (bareT T).drop k1 := by
        rcases hc with ⟨e1, e2⟩ | ⟨e1, e3, e2⟩ | ⟨e1, e3, e2⟩
        · rw [e2]
        · have hk2 : k0 < (bareT T).length := by omega
          rw [List.drop_eq_getElem_cons hk2, List.mem_cons, e2]
          constructor
          · rintro (h | h)
            · have h7 := key k0 hk2
              rw [← h, e3] at h7
              exact absurd h7 hy
            · exact h
          · exact Or.inr
        · rw [e2]
      constructor
      · rintro (h | h | h)
        · exact Or.inl h
        · cases h; exact absurd rfl hy
        · exact Or.inr (hd.2 h)
      · rintro (h | h)
        · exact Or.inl h
        · exact Or.inr (Or.inr (hd.1 h))
end Go.Proofs.Ytpijncnpicgjeaa.Gf

/-
  WHAT A CALLER DOES TO WHAT A DISK TOLD: bytes that are written in blocks that are not the disk's.
-/

namespace Go.Proofs.Ytpijncnpicgjeaa.Gf
set_option linter.unusedVariables false
set_option linter.unusedSimpArgs false
open Go.RowKit

section
variable {w : World} {N db : Nat} {G : Nat → Prop} {d : DkS}
theorem setC_block (w : World) (g j : Nat) (u : Value) {k : Nat} (h : k ≠ g) : (w.setCell ⟨g, j, none⟩ u).heap[k]? = w.heap[k]? := Below.heap_setCell w ⟨g, j, none⟩ u k h
/-- the disk, behind a byte that was written elsewhere -/
theorem DkB.off (h : DkB w N db G d) {g : Nat} (hg : ¬ G g) (j : Nat) (u : Value) : DkB (w.setCell ⟨g, j, none⟩ u) N db G d :=
  ⟨h.at_.keep (fun k hk => setC_block w g j u (fun e => hg (by rw [← e]; exact hk))) (by simp), h.low, by simpa using h.size⟩
theorem set_below {g : Nat} (hg : N ≤ g) (j : Nat) (u : Value) : Below N w (w.setCell ⟨g, j, none⟩ u) := (Below.refl _ _).setCell hg u
/-- a list whose bytes may have been changed -/
structure LoT (w : World) (base : Nat) (v : Value) (T : List TH) : Prop where
  row : w.ownsRow base 88 2 v T.length (cellsT T)
  each : ∀ t ∈ T, ∃ q : List UInt8, q.length = t.2.1.length ∧ w.ownsRow base 5 1 t.2.2 q.length (q.map vb)
theorem OwnT.loose {base : Nat} {v : Value} {T : List TH} (h : OwnT w base v T) : LoT w base v T := ⟨h.row, fun t ht => ⟨t.2.1, rfl, h.each t ht⟩⟩
theorem LoT.after {base : Nat} {v : Value} {T : List TH} {w' : World} (h : LoT w base v T) (hb : Below w.heap.size w w') : LoT w' base v T :=
  ⟨owns_after h.row hb, fun t ht => by obtain ⟨q, h1, h2⟩ := h.each t ht; exact ⟨q, h1, owns_after h2 hb⟩⟩
theorem LoT.set {base : Nat} {v : Value} {T : List TH} (h : LoT w base v T) {t : TH} (ht : t ∈ T) {g n c : Nat} (hv : t.2.2 = .slice (some ⟨g, 0, none⟩) n c) (y : UInt8) : LoT (w.setCell ⟨g, 0, none⟩ (vb y)) base v T := by
  obtain ⟨q0, _, hq0⟩ := h.each t ht
  have hg0 := row_at hq0 (g := g) (by rw [hv]; rfl)
  refine ⟨owns_block h.row (fun k hk => setC_block w g 0 _ (fun e => ?_)), fun t' ht' => ?_⟩
  · obtain ⟨_, _, cur, h1⟩ := row_at h.row hk
    obtain ⟨_, _, cur', h2⟩ := hg0
    rw [e, h2] at h1
    simp at h1
  · obtain ⟨q, h1, h2⟩ := h.each t' ht'
    by_cases e : t'.2.2.ownBlock = some g
    · obtain ⟨a', c', e'⟩ := owns_slice h2
      have hz : ∃ c2, t'.2.2 = .slice (some ⟨g, 0, none⟩) q.length c2 := by
        obtain ⟨_, ⟨h3, _⟩ | ⟨g', cap, cur, h3, _⟩⟩ := h2
        · rw [h3] at e; cases e
        · rw [h3] at e
          cases e
          exact ⟨cap, h3⟩
      obtain ⟨c2, e2⟩ := hz
      rw [e2] at h2 ⊢
      have h4 := (World.ownsRow.stored h2 0 (vb y)).1
      refine ⟨q.set 0 y, by rw [List.length_set]; exact h1, ?_⟩
      rw [List.length_set, List.map_set]
      exact h4
    · exact ⟨q, h1, owns_block h2 (fun k hk => setC_block w g 0 _ (fun e2 => e (by rw [hk, e2])))⟩
/-- an element, and its first byte -/
theorem LoT.at {base : Nat} {a : Option Addr} {c : Nat} {T : List TH} (h : LoT w base (.slice a T.length c) T) {k : Nat} (hk : k < T.length) : ∃ g, a = some ⟨g, 0, none⟩ ∧ w.cell? ⟨g, k * 2 + 1, none⟩ = some (T.getD k default).2.2 ∧ w.cell? ⟨g, k * 2, none⟩ = some (.int .i64 (T.getD k default).1) := by
  obtain ⟨_, ⟨h1, h2⟩ | ⟨g, cap, cur, hv, hg, hh, hc, hm, hs, ht⟩⟩ := h.row
  · omega
  · have e : a = some ⟨g, 0, none⟩ := by simp at hv; exact hv.1
    obtain ⟨e0, e1⟩ := cellsT_at T hk
    have ce : ∀ j, j < T.length * 2 → w.cell? ⟨g, j, none⟩ = (cellsT T)[j]? := by
      intro j hj
      rw [← ht, List.getElem?_take_of_lt hj]
      unfold World.cell?
      rw [hh]
      simp
    exact ⟨g, e, by rw [ce _ (by omega), e1], by rw [ce _ (by omega), e0]⟩
end
end Go.Proofs.Ytpijncnpicgjeaa.Gf

/-
  THE DOCUMENT's ANSWER FOR LAYER 12 (package aumbryref12) BY CONTRACT: 'find', 'changed'.
-/


namespace Go.Proofs.Ytpijncnpicgjeaa.Gf
set_option linter.unusedVariables false
set_option linter.unusedSimpArgs false
open Go.RowKit

/-- the place in a list, or -1 -/
def FindD (w : World) (T : List TH) (x : Int) (e : Ending) (w' : World) : Prop := w' = w ∧ ((e = .returned (.int .i64 (-1)) ∧ lookL (bareT T) x = none) ∨ ∃ k : Nat, e = .returned (.int .i64 (k : Int)) ∧ k < T.length ∧ lookL (bareT T) x = some (T.getD k default).2.1)
set_option maxRecDepth 100000 in
set_option maxHeartbeats 1000000 in
theorem find_any {w : World} {v : Value} {T : List TH} (hT : RdT w v T) {x : Int} : Calls Try.prog 75 #[v, .int .i64 x] w (FindD w T x) := by
  have lt := hT.len
  obtain ⟨aa, ca, rfl⟩ := hT.form
  go_enter Try.func75, Try.ntmps75
  go_wp2
  go_loopw [5] (fun i wr => ∃ k : Nat, k ≤ T.length ∧ i = .int .i64 (k : Int) ∧ Hid (∀ j, j < k → (T.getD j default).1 ≠ x) ∧ Hid (wr = w)) (fun i _ => T.length - (intOf i).toNat)
  case atStart => exact ⟨0, Nat.zero_le _, rfl, fun j hj => by omega, rfl⟩
  case round =>
    obtain ⟨k, hk, rfl, hs, hd⟩ := hrel
    have hT' : RdT wr (.slice aa T.length ca) T := by rw [hd.out]; exact hT
    clear hT
    by_cases hlt : k < T.length
    · have hlt' : (k : Int) < (T.length : Int) := by omega
      have g1 : IntKind.i64.wrap ((k : Int) + 1) = ((k + 1 : Nat) : Int) := by rw [IntKind.wrap_i64]; omega
      obtain ⟨b, off, rfl, c0, c1, r1⟩ := hT'.at hlt
      by_cases e : (T.getD k default).1 = x
      · have HL : Hid (lookL (bareT T) x = some (T.getD k default).2.1) := look_at hlt hs.out e
        have z1 : ((T.getD k default).1 == x) = true := beq_iff_eq.2 e
        obtain ⟨t1, ht⟩ : ∃ t, t = (T.getD k default).1 := ⟨_, rfl⟩
        rw [← ht] at c0 z1
        clear ht hs hT' e r1 c1
        go_wp2
        go_ret
        exact ⟨hd.out, Or.inr ⟨k, rfl, hlt, HL.out⟩⟩
      · have z1 : ((T.getD k default).1 == x) = false := beq_eq_false_iff_ne.2 e
        have HS : Hid (∀ j, j < k + 1 → (T.getD j default).1 ≠ x) := fun j hj => by
          by_cases e2 : j = k
          · rw [e2]; exact e
          · exact hs.out j (by omega)
        obtain ⟨t1, ht⟩ : ∃ t, t = (T.getD k default).1 := ⟨_, rfl⟩
        rw [← ht] at c0 z1
        clear ht hs hT' e r1 c1
        go_wp2
        go_roundw
        case rel => exact ⟨k + 1, by omega, by go_num, HS, hd⟩
        case measure => simp [intOf]; omega
    · have hge : ¬ (k : Int) < (T.length : Int) := by omega
      have HL : Hid (lookL (bareT T) x = none) := look_none (fun j hj => hs.out j (by omega))
      clear hs hT'
      go_wp2
      go_ret
      exact ⟨hd.out, Or.inl ⟨rfl, HL.out⟩⟩
set_option maxRecDepth 100000 in
set_option maxHeartbeats 2000000 in
theorem changed_any {w : World} {v : Value} {p : List UInt8} (hp : Rd w v p) (h1 : 1 ≤ p.length) (h2 : p.length ≤ 100000) {at_ : Int} (hat : (Lit.int .i64 at_).wf = true) (y : UInt8) :
    Calls Try.prog 76 #[v, .int .i64 at_, .int .u8 ((y.toNat : Nat) : Int)] w fun e w' => ∃ v', e = .returned v' ∧ w'.ownsRow w.heap.size 5 1 v' p.length ((chB p at_ y).map vb) ∧ Below w.heap.size w w' := by
  obtain ⟨aa, ca, rfl⟩ := hp.form
  obtain ⟨i0, hi, hz0, hz1, hz2⟩ := info_parts info_u8
  have B1 : Below w.heap.size w (w.alloc (.cells #[] 5)) := belA _ _
  have O1 := own_new12 w 5
  have hp1 := hp.below B1
  have hsz : w.heap.size ≤ (w.alloc (.cells #[] 5)).heap.size := B1.size
  obtain ⟨j, hj⟩ : ∃ j, Hid (j = atN at_ p.length) := ⟨_, rfl⟩
  have hjl : j < p.length := by rw [hj.out]; exact Nat.mod_lt _ (by omega)
  have hCh : Hid (chB p at_ y = p.set j (co p j ^^^ y)) := by show _ = _; unfold chB; rw [hj.out]
  by_cases hneg : at_ < 0
  · obtain ⟨M, hM⟩ : ∃ M : Nat, at_ = -((M : Int) + 1) := ⟨(-(at_ + 1)).toNat, by omega⟩
    have hb := bounds_i64 hat
    have hjM : j = M % p.length := by rw [hj.out]; unfold atN; rw [if_pos hneg]; congr 1; omega
    have Z1 : wrap64 (at_ + 1) = -(M : Int) := by unfold wrap64; omega
    have Z2 : wrap64 (M : Int) = (M : Int) := by unfold wrap64; omega
    have Tm : ((M : Int)).tmod (p.length : Int) = (j : Int) := by rw [hjM]; exact (Int.ofNat_tmod M p.length).symm
    clear hjM hM hb hat hj
    go_enter Try.func76, Try.ntmps76
    go_wp2_with (at_builtin; go_loud (refine wpList_append_rd _ rfl (.tmp 13) (.tmp 14) 32 rfl w.heap.size 5 i0 Try.underlying32 hi hz0 hz1 hz2 (.slice (some ⟨w.heap.size, 0, none⟩) 0 0) 0 [] rfl O1 (.slice aa p.length ca) p rfl hp1 (by omega) hsz ?_); intro v' w9 hv9 hg9)
    have O9 : w9.ownsRow w.heap.size 5 1 v' p.length (p.map vb) := by rw [Nat.zero_add, List.nil_append] at hv9; exact hv9
    have B9 : Below w.heap.size w w9 := B1.grown hg9 hsz (fun q hq => by cases hq; exact Nat.le_refl _)
    obtain ⟨g9, c9, rfl, hg, _⟩ := owns_form O9 (by omega)
    have cj : w9.cell? ⟨g9, j, none⟩ = some (.int .u8 (((co p j).toNat : Nat) : Int)) := by
      rw [World.ownsRow.cellAt O9 j (by omega), List.getElem?_map, List.getElem?_eq_getElem hjl, co_lt hjl]
      rfl
    have fj : w9.frozen? ⟨g9, j, none⟩ = false := World.ownsRow.frozenAt O9 j
    obtain ⟨y0, hy0⟩ : ∃ y, Hid (y = co p j) := ⟨_, rfl⟩
    obtain ⟨y1, hy1⟩ : ∃ z, Hid (z = co p j ^^^ y) := ⟨_, rfl⟩
    have X : bits .xor .u8 (((co p j).toNat : Nat) : Int) ((y.toNat : Nat) : Int) = ((y1.toNat : Nat) : Int) := by rw [hy1.out]; exact xor_u8 _ _
    rw [← hy0.out] at cj X
    have FIN : Hid ((w9.setCell ⟨g9, j, none⟩ (.int .u8 ((y1.toNat : Nat) : Int))).drew.ownsRow w.heap.size 5 1 (.slice (some ⟨g9, 0, none⟩) p.length c9) p.length ((chB p at_ y).map vb) ∧ Below w.heap.size w (w9.setCell ⟨g9, j, none⟩ (.int .u8 ((y1.toNat : Nat) : Int))).drew) := by
      refine ⟨World.ownsRow.drew ?_, (B9.trans (set_below hg j _)).drew⟩
      have h3 := owns_set (j := j) O9 y1
      rw [hCh.out, ← hy1.out]
      rw [List.length_set] at h3
      exact h3
    have zp : ¬ p.length = 0 := by omega
    have zp' : ((p.length : Int) == 0) = false := beq_eq_false_iff_ne.2 (by omega)
    have jl1 : (j : Int) < (p.length : Int) := by omega
    have jl0 : (0 : Int) ≤ (j : Int) := by omega
    clear O9 B9 hv9 hg9 B1 O1 hp1 hp hCh hy0 hy1 hg hi hz0 hz1 hz2 hsz
    go_big_region
    go_wp2
    go_ret
    exact ⟨_, rfl, FIN.out⟩
  · obtain ⟨M, hM⟩ : ∃ M : Nat, at_ = (M : Int) := ⟨at_.toNat, by omega⟩
    have hjM : j = M % p.length := by rw [hj.out]; unfold atN; rw [if_neg hneg]; congr 1; omega
    have Tm : ((M : Int)).tmod (p.length : Int) = (j : Int) := by rw [hjM]; exact (Int.ofNat_tmod M p.length).symm
    subst hM
    clear hjM hat hj
    go_enter Try.func76, Try.ntmps76
    go_wp2_with (at_builtin; go_loud (refine wpList_append_rd _ rfl (.tmp 13) (.tmp 14) 32 rfl w.heap.size 5 i0 Try.underlying32 hi hz0 hz1 hz2 (.slice (some ⟨w.heap.size, 0, none⟩) 0 0) 0 [] rfl O1 (.slice aa p.length ca) p rfl hp1 (by omega) hsz ?_); intro v' w9 hv9 hg9)
    have O9 : w9.ownsRow w.heap.size 5 1 v' p.length (p.map vb) := by rw [Nat.zero_add, List.nil_append] at hv9; exact hv9
    have B9 : Below w.heap.size w w9 := B1.grown hg9 hsz (fun q hq => by cases hq; exact Nat.le_refl _)
    obtain ⟨g9, c9, rfl, hg, _⟩ := owns_form O9 (by omega)
    have cj : w9.cell? ⟨g9, j, none⟩ = some (.int .u8 (((co p j).toNat : Nat) : Int)) := by
      rw [World.ownsRow.cellAt O9 j (by omega), List.getElem?_map, List.getElem?_eq_getElem hjl, co_lt hjl]
      rfl
    have fj : w9.frozen? ⟨g9, j, none⟩ = false := World.ownsRow.frozenAt O9 j
    obtain ⟨y0, hy0⟩ : ∃ y, Hid (y = co p j) := ⟨_, rfl⟩
    obtain ⟨y1, hy1⟩ : ∃ z, Hid (z = co p j ^^^ y) := ⟨_, rfl⟩
    have X : bits .xor .u8 (((co p j).toNat : Nat) : Int) ((y.toNat : Nat) : Int) = ((y1.toNat : Nat) : Int) := by rw [hy1.out]; exact xor_u8 _ _
    rw [← hy0.out] at cj X
    have FIN : Hid ((w9.setCell ⟨g9, j, none⟩ (.int .u8 ((y1.toNat : Nat) : Int))).drew.ownsRow w.heap.size 5 1 (.slice (some ⟨g9, 0, none⟩) p.length c9) p.length ((chB p (M : Int) y).map vb) ∧ Below w.heap.size w (w9.setCell ⟨g9, j, none⟩ (.int .u8 ((y1.toNat : Nat) : Int))).drew) := by
      refine ⟨World.ownsRow.drew ?_, (B9.trans (set_below hg j _)).drew⟩
      have h3 := owns_set (j := j) O9 y1
      rw [hCh.out, ← hy1.out]
      rw [List.length_set] at h3
      exact h3
    have zp : ¬ p.length = 0 := by omega
    have zp' : ((p.length : Int) == 0) = false := beq_eq_false_iff_ne.2 (by omega)
    have jl1 : (j : Int) < (p.length : Int) := by omega
    have jl0 : (0 : Int) ≤ (j : Int) := by omega
    clear O9 B9 hv9 hg9 B1 O1 hp1 hp hCh hy0 hy1 hg hi hz0 hz1 hz2 hsz
    go_big_region
    go_wp2
    go_ret
    exact ⟨_, rfl, FIN.out⟩
end Go.Proofs.Ytpijncnpicgjeaa.Gf

/-
  THE DOCUMENT's DISK FOR LAYER 12 (package aumbryref12) IN MEMORY AND BY CONTRACT: 'RefAt'; New, fault, Fail, Replace.
-/

namespace Go.Proofs.Ytpijncnpicgjeaa.Gf
set_option linter.unusedVariables false
set_option linter.unusedSimpArgs false
open Go.RowKit

structure RefIn (w : World) (rb : Nat) (vl vw : Value) (Tl Tw : List TH) (H : Nat → Prop) (d : DkS) : Prop where
  c0 : w.cell? ⟨rb, 0, none⟩ = some (.int .i64 (d.s : Int))
  c1 : w.cell? ⟨rb, 1, none⟩ = some vl
  c2 : w.cell? ⟨rb, 2, none⟩ = some vw
  c3 : w.cell? ⟨rb, 3, none⟩ = some (.bool d.dead)
  f1 : w.frozen? ⟨rb, 1, none⟩ = false
  f2 : w.frozen? ⟨rb, 2, none⟩ = false
  f3 : w.frozen? ⟨rb, 3, none⟩ = false
  el : bareT Tl = heldL d.last d.s
  ew : bareT Tw = heldL d.wait d.s
  tl : ToldT w H vl Tl
  tw : ToldT w H vw Tw
  kl : CapOk vl
  kw : CapOk vw
  hr : H rb
  lt : ∀ k, H k → k < w.heap.size
  s2 : d.s ≤ 4096
def RefAt (w : World) (rb : Nat) (H : Nat → Prop) (d : DkS) : Prop := ∃ vl vw Tl Tw, RefIn w rb vl vw Tl Tw H d
def LeavesR (w : World) (rb : Nat) (H : Nat → Prop) (d' : DkS) (x : Value) (e : Ending) (w' : World) : Prop := e = .returned x ∧ RefAt w' rb H d' ∧ TurnG (fun k => k = rb) w w'
section
variable {w w' : World} {rb : Nat} {vl vw : Value} {Tl Tw : List TH} {H : Nat → Prop} {d : DkS}
theorem RefIn.len_l (h : RefIn w rb vl vw Tl Tw H d) : Tl.length ≤ 4096 := by
  rw [← bareT_length, h.el]
  exact Nat.le_trans (heldL_length _ _) h.s2
theorem RefIn.len_w (h : RefIn w rb vl vw Tl Tw H d) : Tw.length ≤ 4096 := by
  rw [← bareT_length, h.ew]
  exact Nat.le_trans (heldL_length _ _) h.s2
theorem RefIn.below (h : RefIn w rb vl vw Tl Tw H d) (hb : Below w.heap.size w w') : RefIn w' rb vl vw Tl Tw H d :=
  have l := h.lt rb h.hr
  ⟨(hb.cell (p := ⟨rb, 0, none⟩) l).trans h.c0, (hb.cell (p := ⟨rb, 1, none⟩) l).trans h.c1, (hb.cell (p := ⟨rb, 2, none⟩) l).trans h.c2, (hb.cell (p := ⟨rb, 3, none⟩) l).trans h.c3,
   (hb.frozen (p := ⟨rb, 1, none⟩) l).trans h.f1, (hb.frozen (p := ⟨rb, 2, none⟩) l).trans h.f2, (hb.frozen (p := ⟨rb, 3, none⟩) l).trans h.f3, h.el, h.ew, h.tl.below hb, h.tw.below hb, h.kl, h.kw, h.hr, fun k hk => Nat.lt_of_lt_of_le (h.lt k hk) hb.size, h.s2⟩
theorem RefAt.below (h : RefAt w rb H d) (hb : Below w.heap.size w w') : RefAt w' rb H d := by
  obtain ⟨vl, vw, Tl, Tw, h⟩ := h
  exact ⟨vl, vw, Tl, Tw, h.below hb⟩
/-- behind what another disk has done -/
theorem RefAt.grew {G G' : Nat → Prop} (h : RefAt w rb (fun k => k = rb ∨ G k) d) (hn : ¬ G rb) (g : Grew G w G' w') (hl : ∀ k, G' k → k < w'.heap.size) : RefAt w' rb (fun k => k = rb ∨ G' k) d ∧ ¬ G' rb := by
  obtain ⟨vl, vw, Tl, Tw, h⟩ := h
  have l := h.lt rb (Or.inl rfl)
  have gg : Grew (fun k => k = rb ∨ G k) w (fun k => k = rb ∨ G' k) w' := ⟨⟨g.turn.os, g.turn.tape, g.turn.output, g.turn.size, fun k hk hn2 => g.turn.block k hk (fun e => hn2 (Or.inr e))⟩, fun k hk => hk.elim (fun e => Or.inl (Or.inl e)) (fun e => (g.grow k e).elim (fun e2 => Or.inl (Or.inr e2)) Or.inr)⟩
  refine ⟨⟨vl, vw, Tl, Tw, (g.turn.cell (p := ⟨rb, 0, none⟩) l hn).trans h.c0, (g.turn.cell (p := ⟨rb, 1, none⟩) l hn).trans h.c1, (g.turn.cell (p := ⟨rb, 2, none⟩) l hn).trans h.c2, (g.turn.cell (p := ⟨rb, 3, none⟩) l hn).trans h.c3,
    (g.turn.frozen (p := ⟨rb, 1, none⟩) l hn).trans h.f1, (g.turn.frozen (p := ⟨rb, 2, none⟩) l hn).trans h.f2, (g.turn.frozen (p := ⟨rb, 3, none⟩) l hn).trans h.f3, h.el, h.ew, h.tl.grew gg, h.tw.grew gg, h.kl, h.kw, Or.inl rfl, fun k hk => ?_, h.s2⟩, g.off l hn⟩
  rcases hk with e | e
  · rw [e]; exact Nat.lt_of_lt_of_le l g.turn.size
  · exact hl k e
theorem setR_grew (hr : H rb) (j : Nat) (v : Value) : Grew H w H (w.setCell ⟨rb, j, none⟩ v) := Grew.of_turn (Only.turnG ((Only.refl rb w).setCell j v) hr)
/-- the cells of the document's disk -/
theorem RefIn.setW (h : RefIn w rb vl vw Tl Tw H d) {v : Value} {T : List TH} {f : Int → Option (List UInt8)} (ht : ToldT w H v T) (hk : CapOk v) (he : bareT T = heldL f d.s) : RefIn (w.setCell ⟨rb, 2, none⟩ v) rb vl v Tl T H { d with wait := f } := by
  have g := setR_grew (w := w) h.hr 2 v
  have c2 := h.c2
  have f1 := h.f1
  have f2 := h.f2
  have f3 := h.f3
  refine ⟨?_, ?_, ?_, ?_, by simp [go_sem, f1], by simp [go_sem, f2], by simp [go_sem, f3], h.el, he, h.tl.grew g, ht.grew g, h.kl, hk, h.hr, fun k hk => by simpa using h.lt k hk, h.s2⟩
  · rw [← h.c0]; simp [go_sem]
  · rw [← h.c1]; simp [go_sem]
  · simp [go_sem, c2]
  · rw [← h.c3]; simp [go_sem]
theorem RefIn.setL (h : RefIn w rb vl vw Tl Tw H d) {v : Value} {T : List TH} {f : Int → Option (List UInt8)} (ht : ToldT w H v T) (hk : CapOk v) (he : bareT T = heldL f d.s) : RefIn (w.setCell ⟨rb, 1, none⟩ v) rb v vw T Tw H { d with last := f } := by
  have g := setR_grew (w := w) h.hr 1 v
  have c1 := h.c1
  have f1 := h.f1
  have f2 := h.f2
  have f3 := h.f3
  refine ⟨?_, ?_, ?_, ?_, by simp [go_sem, f1], by simp [go_sem, f2], by simp [go_sem, f3], he, h.ew, ht.grew g, h.tw.grew g, hk, h.kw, h.hr, fun k hk => by simpa using h.lt k hk, h.s2⟩
  · rw [← h.c0]; simp [go_sem]
  · simp [go_sem, c1]
  · rw [← h.c2]; simp [go_sem]
  · rw [← h.c3]; simp [go_sem]
theorem RefIn.setD (h : RefIn w rb vl vw Tl Tw H d) (x : Bool) : RefIn (w.setCell ⟨rb, 3, none⟩ (.bool x)) rb vl vw Tl Tw H { d with dead := x } := by
  have g := setR_grew (w := w) h.hr 3 (.bool x)
  have c3 := h.c3
  have f1 := h.f1
  have f2 := h.f2
  have f3 := h.f3
  refine ⟨?_, ?_, ?_, ?_, by simp [go_sem, f1], by simp [go_sem, f2], by simp [go_sem, f3], h.el, h.ew, h.tl.grew g, h.tw.grew g, h.kl, h.kw, h.hr, fun k hk => by simpa using h.lt k hk, h.s2⟩
  · rw [← h.c0]; simp [go_sem]
  · rw [← h.c1]; simp [go_sem]
  · rw [← h.c2]; simp [go_sem]
  · simp [go_sem, c3]
theorem told_nil (w : World) (H : Nat → Prop) : ToldT w H (.slice none 0 0) [] := ⟨Or.inl ⟨none, 0, rfl, rfl⟩, ApartG.nil _ _ _, fun t ht => by cases ht⟩
theorem cap_nil : CapOk (.slice none 0 0) := fun a n c e => by simp at e; obtain ⟨rfl, rfl, rfl⟩ := e; exact ⟨Nat.le_refl _, fun _ => rfl⟩
theorem turnR_set (j : Nat) (v : Value) : TurnG (fun k => k = rb) w (w.setCell ⟨rb, j, none⟩ v) := Only.turnG ((Only.refl rb w).setCell j v) rfl

theorem rfault_any (h : RefIn w rb vl vw Tl Tw H d) {a : Int} : Calls Try.prog 73 #[.pointer (some ⟨rb, 0, none⟩), .int .i64 a] w fun e w' => e = .returned (.int .i64 (faX d a)) ∧ w' = w := by
  have c0 := h.c0
  have c3 := h.c3
  clear h
  cases hd : d.dead with
  | true =>
    have e := faX_dead hd a
    rw [hd] at c3
    rw [e]
    clear e
    go_enter Try.func73, Try.ntmps73
    go_wp2
    go_ret
    exact ⟨rfl, rfl⟩
  | false =>
    rw [hd] at c3
    by_cases h0 : 0 ≤ a
    · have h0' : ¬ a < 0 := by omega
      by_cases h1 : a < (d.s : Int)
      · have e := faX_ok hd ⟨h0, h1⟩
        have h1' : ¬ a ≥ (d.s : Int) := by omega
        rw [e]
        clear e
        go_enter Try.func73, Try.ntmps73
        go_wp2
        go_ret
        exact ⟨rfl, rfl⟩
      · have e := faX_out hd (a := a) (fun h => h1 h.2)
        have h1' : a ≥ (d.s : Int) := by omega
        rw [e]
        clear e
        go_enter Try.func73, Try.ntmps73
        go_wp2
        go_ret
        exact ⟨rfl, rfl⟩
    · have e := faX_out hd (a := a) (fun h => h0 h.1)
      have h0' : a < 0 := by omega
      rw [e]
      clear e
      go_enter Try.func73, Try.ntmps73
      go_wp2
      go_ret
      exact ⟨rfl, rfl⟩
theorem rfail_any (h : RefIn w rb vl vw Tl Tw H d) : Calls Try.prog 63 #[.pointer (some ⟨rb, 0, none⟩)] w (LeavesR w rb H (faS d) (.tuple #[])) := by
  have I1 := h.setD true
  have I2 := I1.setL (told_nil _ H) cap_nil (f := noneI) (by rw [heldL_none]; rfl)
  have I3 := I2.setW (told_nil _ H) cap_nil (f := noneI) (by rw [heldL_none]; rfl)
  have FIN : Hid (RefAt (((w.setCell ⟨rb, 3, none⟩ (.bool true)).setCell ⟨rb, 1, none⟩ (.slice none 0 0)).setCell ⟨rb, 2, none⟩ (.slice none 0 0)) rb H (faS d) ∧ TurnG (fun k => k = rb) w (((w.setCell ⟨rb, 3, none⟩ (.bool true)).setCell ⟨rb, 1, none⟩ (.slice none 0 0)).setCell ⟨rb, 2, none⟩ (.slice none 0 0))) := ⟨⟨_, _, _, _, I3⟩, ((turnR_set 3 _).trans (turnR_set 1 _)).trans (turnR_set 2 _)⟩
  have c1 := h.c1
  have c2 := h.c2
  have c3 := h.c3
  have f1 := h.f1
  have f2 := h.f2
  have f3 := h.f3
  clear I1 I2 I3 h
  go_enter Try.func63, Try.ntmps63
  go_wp2
  go_end0
  exact ⟨rfl, FIN.out⟩
theorem rrepl_any (h : RefIn w rb vl vw Tl Tw H d) : Calls Try.prog 64 #[.pointer (some ⟨rb, 0, none⟩)] w (LeavesR w rb H (reS d) (.tuple #[])) := by
  have I1 := h.setD false
  have I2 := I1.setL (told_nil _ H) cap_nil (f := noneI) (by rw [heldL_none]; rfl)
  have I3 := I2.setW (told_nil _ H) cap_nil (f := noneI) (by rw [heldL_none]; rfl)
  have FIN : Hid (RefAt (((w.setCell ⟨rb, 3, none⟩ (.bool false)).setCell ⟨rb, 1, none⟩ (.slice none 0 0)).setCell ⟨rb, 2, none⟩ (.slice none 0 0)) rb H (reS d) ∧ TurnG (fun k => k = rb) w (((w.setCell ⟨rb, 3, none⟩ (.bool false)).setCell ⟨rb, 1, none⟩ (.slice none 0 0)).setCell ⟨rb, 2, none⟩ (.slice none 0 0))) := ⟨⟨_, _, _, _, I3⟩, ((turnR_set 3 _).trans (turnR_set 1 _)).trans (turnR_set 2 _)⟩
  have c1 := h.c1
  have c2 := h.c2
  have c3 := h.c3
  have f1 := h.f1
  have f2 := h.f2
  have f3 := h.f3
  clear I1 I2 I3 h
  go_enter Try.func64, Try.ntmps64
  go_wp2
  go_end0
  exact ⟨rfl, FIN.out⟩
end
theorem rnew_no {w : World} {n : Int} (h : ¬ (1 ≤ n ∧ n ≤ 4096)) : Calls Try.prog 33 #[.int .i64 n] w fun e w' => e = .returned (.tuple #[.pointer none, .int .i64 1]) ∧ w' = w := by
  by_cases h1 : n < 1
  · go_enter Try.func33, Try.ntmps33
    go_wp2
    refine bodyPost_ret (v := .tuple #[.pointer none, .int .i64 1]) (by simp [results, Try.results33, go_sem]) rfl ?_
    exact ⟨rfl, rfl⟩
  · have h2 : n > 4096 := by omega
    go_enter Try.func33, Try.ntmps33
    go_wp2
    refine bodyPost_ret (v := .tuple #[.pointer none, .int .i64 1]) (by simp [results, Try.results33, go_sem]) rfl ?_
    exact ⟨rfl, rfl⟩
theorem ref_new (w : World) {n : Int} (h1 : 1 ≤ n) (h2 : n ≤ 4096) {H : Nat → Prop} (hr : H w.heap.size) (hl : ∀ k, H k → k ≤ w.heap.size) : RefAt (w.alloc (.cells #[.int .i64 n, .slice none 0 0, .slice none 0 0, .bool false] 78)) w.heap.size H (newD n.toNat) := by
  have hn : ((n.toNat : Nat) : Int) = n := by omega
  refine ⟨.slice none 0 0, .slice none 0 0, [], [], ?_, ?_, ?_, ?_, by simp [go_sem], by simp [go_sem], by simp [go_sem], ?_, ?_, told_nil _ H, told_nil _ H, cap_nil, cap_nil, hr, fun k hk => by simp; have := hl k hk; omega, ?_⟩
  · rw [World.cell?_alloc_new]; show some (Value.int .i64 n) = some (.int .i64 ((n.toNat : Nat) : Int)); rw [hn]
  · rw [World.cell?_alloc_new]; rfl
  · rw [World.cell?_alloc_new]; rfl
  · rw [World.cell?_alloc_new]; rfl
  · exact (heldL_none _).symm
  · exact (heldL_none _).symm
  · show n.toNat ≤ 4096
    omega
theorem rnew_any {w : World} {n : Int} (h1 : 1 ≤ n) (h2 : n ≤ 4096) : Calls Try.prog 33 #[.int .i64 n] w fun e w' => e = .returned (.tuple #[.pointer (some ⟨w.heap.size, 0, none⟩), .int .i64 0]) ∧ w' = w.alloc (.cells #[.int .i64 n, .slice none 0 0, .slice none 0 0, .bool false] 78) := by
  have g1 : ¬ n < 1 := by omega
  have g2 : ¬ n > 4096 := by omega
  go_enter Try.func33, Try.ntmps33
  go_wp2
  refine bodyPost_ret (v := .tuple #[.pointer (some ⟨w.heap.size, 0, none⟩), .int .i64 0]) (by simp [results, Try.results33, go_sem]) rfl ?_
  exact ⟨rfl, rfl⟩
end Go.Proofs.Ytpijncnpicgjeaa.Gf

/-
  SEVERAL DISKS OF THE DOCUMENT AND OF THE PROGRAM IN ONE WORLD: what each is behind what was done to others. No program's function is named here.
-/

namespace Go.Proofs.Ytpijncnpicgjeaa.Gf
set_option linter.unusedVariables false
set_option linter.unusedSimpArgs false
open Go.RowKit

section
variable {w w' : World} {rb db : Nat} {H H' K K' G : Nat → Prop} {d : DkS}
/-- a disk of the document's, behind what was done to other blocks (K: those that have turned; H, H': all that may turn, ahead and behind) -/
theorem RefAt.grewH (h : RefAt w rb H d) (g : Grew K w K' w') (hK : ∀ k, K k → H k) (hn : ¬ K rb) (hH : ∀ k, H' k → H k ∨ w.heap.size ≤ k) (hr : H' rb) (hl : ∀ k, H' k → k < w'.heap.size) : RefAt w' rb H' d := by
  obtain ⟨vl, vw, Tl, Tw, h⟩ := h
  have l := h.lt rb h.hr
  have gg : Grew H w H' w' := ⟨⟨g.turn.os, g.turn.tape, g.turn.output, g.turn.size, fun k hk hn2 => g.turn.block k hk (fun e => hn2 (hK k e))⟩, hH⟩
  exact ⟨vl, vw, Tl, Tw, (g.turn.cell (p := ⟨rb, 0, none⟩) l hn).trans h.c0, (g.turn.cell (p := ⟨rb, 1, none⟩) l hn).trans h.c1, (g.turn.cell (p := ⟨rb, 2, none⟩) l hn).trans h.c2, (g.turn.cell (p := ⟨rb, 3, none⟩) l hn).trans h.c3,
    (g.turn.frozen (p := ⟨rb, 1, none⟩) l hn).trans h.f1, (g.turn.frozen (p := ⟨rb, 2, none⟩) l hn).trans h.f2, (g.turn.frozen (p := ⟨rb, 3, none⟩) l hn).trans h.f3, h.el, h.ew, h.tl.grew gg, h.tw.grew gg, h.kl, h.kw, hr, hl, h.s2⟩
/-- a disk of the program's, behind what was done to blocks that are not its own -/
theorem DiskAt.apart (h : DiskAt w db G d) (g : Grew K w K' w') (hn : ∀ k, K k → ¬ G k) : DiskAt w' db G d :=
  h.keep (fun k hk => g.turn.block k (h.lt k hk) (fun e => hn k e hk)) g.turn.size
theorem Grew.wide {K2 K2' : Nat → Prop} (g : Grew K w K' w') (h : ∀ k, K k → K2 k) (h2 : ∀ k, K2' k → K2 k ∨ w.heap.size ≤ k) : Grew K2 w K2' w' :=
  ⟨⟨g.turn.os, g.turn.tape, g.turn.output, g.turn.size, fun k hk hn => g.turn.block k hk (fun e => hn (h k e))⟩, h2⟩
end
end Go.Proofs.Ytpijncnpicgjeaa.Gf

/-
  AN ARRAY OF THE PROGRAM's IN MEMORY (package array): its three cells, its row of members (a disk, and how often it was born), its disks, apart from one another: 'ArM w ab mb db GD GA a'; 'ArAt w ab GA a'. No program's function is named here.
-/

namespace Go.Proofs.Ytpijncnpicgjeaa.Gf
set_option linter.unusedVariables false
set_option linter.unusedSimpArgs false
open Go.RowKit

/-- what is left, as the program keeps it -/
def leC (l : Int) : Int := if 0 < l then l else 0
structure ArM (w : World) (ab mb : Nat) (db : Nat → Nat) (GD : Nat → Nat → Prop) (GA : Nat → Prop) (a : ArS) : Prop where
  c0 : w.cell? ⟨ab, 0, none⟩ = some (.slice (some ⟨mb, 0, none⟩) a.D.length a.D.length)
  c1 : w.cell? ⟨ab, 1, none⟩ = some (.int .i64 (leC a.left))
  c2 : w.cell? ⟨ab, 2, none⟩ = some (.bool a.off)
  f1 : w.frozen? ⟨ab, 1, none⟩ = false
  f2 : w.frozen? ⟨ab, 2, none⟩ = false
  m0 : ∀ i, i < a.D.length → w.cell? ⟨mb, i * 2, none⟩ = some (.pointer (some ⟨db i, 0, none⟩))
  m1 : ∀ i, i < a.D.length → w.cell? ⟨mb, i * 2 + 1, none⟩ = some (.int .i64 (a.B.getD i 0))
  fm : ∀ i, i < a.D.length → w.frozen? ⟨mb, i * 2 + 1, none⟩ = false
  dk : ∀ i, i < a.D.length → DiskAt w (db i) (GD i) (a.D.getD i default)
  sep : ∀ i j, i < a.D.length → j < a.D.length → i ≠ j → ∀ k, GD i k → ¬ GD j k
  sa : ∀ i, i < a.D.length → ¬ GD i ab ∧ ¬ GD i mb
  ne : ab ≠ mb
  ga : GA ab
  gm : GA mb
  gd : ∀ i, i < a.D.length → ∀ k, GD i k → GA k
  lt : ∀ k, GA k → k < w.heap.size
  d1 : 1 ≤ a.D.length
  d2 : a.D.length ≤ 32
  b : a.B.length = a.D.length
  wl : (Lit.int .i64 a.left).wf = true
def ArIn (w : World) (ab mb : Nat) (db : Nat → Nat) (GD : Nat → Nat → Prop) (GA : Nat → Prop) (a : ArS) : Prop := ArM w ab mb db GD GA a ∧ a.Ok
def ArAt (w : World) (ab : Nat) (GA : Nat → Prop) (a : ArS) : Prop := ∃ mb db GD, ArIn w ab mb db GD GA a
/-- what a call on an array leaves -/
def LeavesA (w : World) (ab : Nat) (GA : Nat → Prop) (a' : ArS) (x : Value) (e : Ending) (w' : World) : Prop := e = .returned x ∧ ∃ GA', ArAt w' ab GA' a' ∧ Grew GA w GA' w'
section
variable {w w' : World} {ab mb : Nat} {db : Nat → Nat} {GD : Nat → Nat → Prop} {GA : Nat → Prop} {a : ArS}
theorem ArM.keep (h : ArM w ab mb db GD GA a) (hk : ∀ k, GA k → w'.heap[k]? = w.heap[k]?) (hs : w.heap.size ≤ w'.heap.size) : ArM w' ab mb db GD GA a where
  c0 := (World.cell?_of_block (w := w) (hk ab h.ga)).trans h.c0
  c1 := (World.cell?_of_block (w := w) (hk ab h.ga)).trans h.c1
  c2 := (World.cell?_of_block (w := w) (hk ab h.ga)).trans h.c2
  f1 := (World.frozen?_of_block (w := w) (hk ab h.ga)).trans h.f1
  f2 := (World.frozen?_of_block (w := w) (hk ab h.ga)).trans h.f2
  m0 := fun i hi => (World.cell?_of_block (w := w) (hk mb h.gm)).trans (h.m0 i hi)
  m1 := fun i hi => (World.cell?_of_block (w := w) (hk mb h.gm)).trans (h.m1 i hi)
  fm := fun i hi => (World.frozen?_of_block (w := w) (hk mb h.gm)).trans (h.fm i hi)
  dk := fun i hi => (h.dk i hi).keep (fun k hk2 => hk k (h.gd i hi k hk2)) hs
  sep := h.sep
  sa := h.sa
  ne := h.ne
  ga := h.ga
  gm := h.gm
  gd := h.gd
  lt := fun k hk2 => Nat.lt_of_lt_of_le (h.lt k hk2) hs
  d1 := h.d1
  d2 := h.d2
  b := h.b
  wl := h.wl
theorem ArM.below (h : ArM w ab mb db GD GA a) (hb : Below w.heap.size w w') : ArM w' ab mb db GD GA a := h.keep (fun k hk => hb.block k (h.lt k hk)) hb.size
theorem ArIn.below (h : ArIn w ab mb db GD GA a) (hb : Below w.heap.size w w') : ArIn w' ab mb db GD GA a := ⟨h.1.below hb, h.2⟩
theorem ArAt.below (h : ArAt w ab GA a) (hb : Below w.heap.size w w') : ArAt w' ab GA a := by
  obtain ⟨mb, db, GD, h⟩ := h
  exact ⟨mb, db, GD, h.below hb⟩
theorem ArAt.keep (h : ArAt w ab GA a) (hk : ∀ k, GA k → w'.heap[k]? = w.heap[k]?) (hs : w.heap.size ≤ w'.heap.size) : ArAt w' ab GA a := by
  obtain ⟨mb, db, GD, h1, h2⟩ := h
  exact ⟨mb, db, GD, h1.keep hk hs, h2⟩
theorem ArAt.lt (h : ArAt w ab GA a) : ∀ k, GA k → k < w.heap.size := by
  obtain ⟨mb, db, GD, h, _⟩ := h
  exact h.lt
theorem ArAt.ok (h : ArAt w ab GA a) : a.Ok := by
  obtain ⟨mb, db, GD, _, h⟩ := h
  exact h
theorem getD_set {α : Type} {l : List α} {i j : Nat} {x d : α} (hi : i < l.length) : (l.set i x).getD j d = if j = i then x else l.getD j d := by
  by_cases e : j = i
  · subst e
    simp [List.getD, hi]
  · simp only [List.getD, List.getElem?_set, if_neg (fun h => e (h.symm) : ¬ i = j), if_neg e]
/-- a disk of the array was changed -/
theorem ArM.disk (h : ArM w ab mb db GD GA a) {i : Nat} (hi : i < a.D.length) {G' : Nat → Prop} {d' : DkS} (hD : DiskAt w' (db i) G' d') (g : Grew (GD i) w G' w') :
    ArM w' ab mb db (fun j => if j = i then G' else GD j) (fun k => GA k ∨ G' k) { a with D := a.D.set i d' } ∧ Grew GA w (fun k => GA k ∨ G' k) w' := by
  have na : ¬ GD i ab := (h.sa i hi).1
  have nm : ¬ GD i mb := (h.sa i hi).2
  have la := h.lt _ h.ga
  have lm := h.lt _ h.gm
  have hl : (a.D.set i d').length = a.D.length := by simp
  have hS : ∀ k, G' k → GD i k ∨ w.heap.size ≤ k := g.grow
  refine ⟨⟨?_, ?_, ?_, ?_, ?_, ?_, ?_, ?_, ?_, ?_, ?_, h.ne, Or.inl h.ga, Or.inl h.gm, ?_, ?_, ?_, ?_, ?_, h.wl⟩, ?_⟩
  · show _ = some (Value.slice _ (a.D.set i d').length (a.D.set i d').length)
    rw [hl]; exact (g.turn.cell (p := ⟨ab, 0, none⟩) la na).trans h.c0
  · exact (g.turn.cell (p := ⟨ab, 1, none⟩) la na).trans h.c1
  · exact (g.turn.cell (p := ⟨ab, 2, none⟩) la na).trans h.c2
  · exact (g.turn.frozen (p := ⟨ab, 1, none⟩) la na).trans h.f1
  · exact (g.turn.frozen (p := ⟨ab, 2, none⟩) la na).trans h.f2
  · intro j hj
    exact (g.turn.cell (p := ⟨mb, j * 2, none⟩) lm nm).trans (h.m0 j (hl ▸ hj))
  · intro j hj
    exact (g.turn.cell (p := ⟨mb, j * 2 + 1, none⟩) lm nm).trans (h.m1 j (hl ▸ hj))
  · intro j hj
    exact (g.turn.frozen (p := ⟨mb, j * 2 + 1, none⟩) lm nm).trans (h.fm j (hl ▸ hj))
  · intro j hj
    have hj2 : j < a.D.length := hl ▸ hj
    show DiskAt w' (db j) (if j = i then G' else GD j) ((a.D.set i d').getD j default)
    rw [getD_set hi]
    by_cases e : j = i
    · subst e
      rw [if_pos rfl, if_pos rfl]
      exact hD
    · rw [if_neg e, if_neg e]
      exact (h.dk j hj2).apart g (fun k hk hk2 => h.sep i j hi hj2 (fun e2 => e e2.symm) k hk hk2)
  · intro j l hj hl2 hne k hk hk2
    have hj2 : j < a.D.length := hl ▸ hj
    have hl3 : l < a.D.length := hl ▸ hl2
    replace hk : (if j = i then G' else GD j) k := hk
    replace hk2 : (if l = i then G' else GD l) k := hk2
    by_cases e : j = i
    · rw [if_pos e] at hk
      rw [if_neg (fun e2 => hne (e.trans e2.symm))] at hk2
      rcases hS k hk with h1 | h1
      · exact h.sep i l hi hl3 (fun e2 => hne (e.trans e2)) k h1 hk2
      · have := h.lt k (h.gd l hl3 k hk2); omega
    · rw [if_neg e] at hk
      by_cases e2 : l = i
      · rw [if_pos e2] at hk2
        rcases hS k hk2 with h1 | h1
        · exact h.sep j i hj2 hi e k hk h1
        · have := h.lt k (h.gd j hj2 k hk); omega
      · rw [if_neg e2] at hk2
        exact h.sep j l hj2 hl3 hne k hk hk2
  · intro j hj
    have hj2 : j < a.D.length := hl ▸ hj
    show ¬ (if j = i then G' else GD j) ab ∧ ¬ (if j = i then G' else GD j) mb
    by_cases e : j = i
    · rw [if_pos e]
      exact ⟨g.off la na, g.off lm nm⟩
    · rw [if_neg e]
      exact h.sa j hj2
  · intro j hj k hk
    have hj2 : j < a.D.length := hl ▸ hj
    replace hk : (if j = i then G' else GD j) k := hk
    by_cases e : j = i
    · rw [if_pos e] at hk; exact Or.inr hk
    · rw [if_neg e] at hk; exact Or.inl (h.gd j hj2 k hk)
  · intro k hk
    rcases hk with h1 | h1
    · exact Nat.lt_of_lt_of_le (h.lt k h1) g.turn.size
    · exact hD.lt k h1
  · show 1 ≤ (a.D.set i d').length
    rw [hl]; exact h.d1
  · show (a.D.set i d').length ≤ 32
    rw [hl]; exact h.d2
  · show a.B.length = (a.D.set i d').length
    rw [hl]; exact h.b
  · refine g.wide (fun k hk => h.gd i hi k hk) (fun k hk => ?_)
    rcases hk with h1 | h1
    · exact Or.inl h1
    · rcases g.grow k h1 with h2 | h2
      · exact Or.inl (h.gd i hi k h2)
      · exact Or.inr h2
/-- cells of the array's own: what stands in other blocks stands -/
theorem ArM.own (h : ArM w ab mb db GD GA a) {g j : Nat} {v : Value} (hg : g = ab ∨ g = mb) {i : Nat} (hi : i < a.D.length) : DiskAt (w.setCell ⟨g, j, none⟩ v) (db i) (GD i) (a.D.getD i default) :=
  (h.dk i hi).keep (fun k hk => Below.heap_setCell w ⟨g, j, none⟩ v k (fun e => by
    have e2 : k = g := e
    subst e2
    rcases hg with e3 | e3
    · rw [e3] at hk; exact (h.sa i hi).1 hk
    · rw [e3] at hk; exact (h.sa i hi).2 hk)) (by simp)
theorem ArM.setLeft (h : ArM w ab mb db GD GA a) {l : Int} (hl : (Lit.int .i64 l).wf = true) : ArM (w.setCell ⟨ab, 1, none⟩ (.int .i64 (leC l))) ab mb db GD GA { a with left := l } := by
  have c1 := h.c1
  have f1 := h.f1
  have hb : ∀ k, k ≠ ab → (w.setCell ⟨ab, 1, none⟩ (.int .i64 (leC l))).heap[k]? = w.heap[k]? := fun k hk => Below.heap_setCell w ⟨ab, 1, none⟩ _ k hk
  have hm := hb mb h.ne.symm
  refine ⟨?_, ?_, ?_, ?_, ?_, fun i hi => (World.cell?_of_block (w := w) hm).trans (h.m0 i hi), fun i hi => (World.cell?_of_block (w := w) hm).trans (h.m1 i hi), fun i hi => (World.frozen?_of_block (w := w) hm).trans (h.fm i hi), fun i hi => h.own (Or.inl rfl) hi, h.sep, h.sa, h.ne, h.ga, h.gm, h.gd, fun k hk => by simpa using h.lt k hk, h.d1, h.d2, h.b, hl⟩
  · rw [← h.c0]; simp [go_sem]
  · simp [go_sem, c1]
  · rw [← h.c2]; simp [go_sem]
  · simp [go_sem, f1]
  · rw [← h.f2]; simp [go_sem]
theorem ArM.setOff (h : ArM w ab mb db GD GA a) (x : Bool) : ArM (w.setCell ⟨ab, 2, none⟩ (.bool x)) ab mb db GD GA { a with off := x } := by
  have c2 := h.c2
  have f2 := h.f2
  have hb : ∀ k, k ≠ ab → (w.setCell ⟨ab, 2, none⟩ (.bool x)).heap[k]? = w.heap[k]? := fun k hk => Below.heap_setCell w ⟨ab, 2, none⟩ _ k hk
  have hm := hb mb h.ne.symm
  refine ⟨?_, ?_, ?_, ?_, ?_, fun i hi => (World.cell?_of_block (w := w) hm).trans (h.m0 i hi), fun i hi => (World.cell?_of_block (w := w) hm).trans (h.m1 i hi), fun i hi => (World.frozen?_of_block (w := w) hm).trans (h.fm i hi), fun i hi => h.own (Or.inl rfl) hi, h.sep, h.sa, h.ne, h.ga, h.gm, h.gd, fun k hk => by simpa using h.lt k hk, h.d1, h.d2, h.b, h.wl⟩
  · rw [← h.c0]; simp [go_sem]
  · rw [← h.c1]; simp [go_sem]
  · simp [go_sem, c2]
  · rw [← h.f1]; simp [go_sem]
  · simp [go_sem, f2]
theorem cell_set_ne (w : World) {g i j : Nat} (v : Value) (h : i ≠ j) : (w.setCell ⟨g, j, none⟩ v).cell? ⟨g, i, none⟩ = w.cell? ⟨g, i, none⟩ := by
  simp [go_sem, h]
theorem cell_set_eq {w : World} {g j : Nat} {u : Value} (v : Value) (h : w.cell? ⟨g, j, none⟩ = some u) : (w.setCell ⟨g, j, none⟩ v).cell? ⟨g, j, none⟩ = some v := by
  simp [go_sem, h]
theorem frozen_set (w : World) {g i j : Nat} (v : Value) : (w.setCell ⟨g, j, none⟩ v).frozen? ⟨g, i, none⟩ = w.frozen? ⟨g, i, none⟩ := by
  simp [go_sem]
/-- a birth more -/
theorem ArM.setBorn (h : ArM w ab mb db GD GA a) {i : Nat} (hi : i < a.D.length) (z : Int) : ArM (w.setCell ⟨mb, i * 2 + 1, none⟩ (.int .i64 z)) ab mb db GD GA { a with B := a.B.set i z } := by
  have hb : ∀ k, k ≠ mb → (w.setCell ⟨mb, i * 2 + 1, none⟩ (.int .i64 z)).heap[k]? = w.heap[k]? := fun k hk => Below.heap_setCell w ⟨mb, i * 2 + 1, none⟩ _ k hk
  have hm := hb ab h.ne
  have hB : i < a.B.length := by rw [h.b]; exact hi
  refine ⟨(World.cell?_of_block (w := w) hm).trans h.c0, (World.cell?_of_block (w := w) hm).trans h.c1, (World.cell?_of_block (w := w) hm).trans h.c2, (World.frozen?_of_block (w := w) hm).trans h.f1, (World.frozen?_of_block (w := w) hm).trans h.f2, fun j hj => ?_, fun j hj => ?_, fun j hj => ?_, fun i hi => h.own (Or.inr rfl) hi, h.sep, h.sa, h.ne, h.ga, h.gm, h.gd, fun k hk => by simpa using h.lt k hk, h.d1, h.d2, ?_, h.wl⟩
  · rw [cell_set_ne w _ (by omega)]; exact h.m0 j hj
  · show _ = some (Value.int .i64 ((a.B.set i z).getD j 0))
    rw [getD_set hB]
    by_cases e : j = i
    · subst e
      rw [if_pos rfl]
      exact cell_set_eq _ (h.m1 j hj)
    · rw [if_neg e, cell_set_ne w _ (by omega)]; exact h.m1 j hj
  · rw [frozen_set]; exact h.fm j hj
  · show (a.B.set i z).length = _
    simp; exact h.b
end
end Go.Proofs.Ytpijncnpicgjeaa.Gf

/-
  AN ARRAY OF THE DOCUMENT's IN MEMORY (package aumbryref13): its four cells, its row of disks, its row of births, beside an array of the program's (GA: that one's blocks): 'RaAt w rb HR GA a'. No program's function is named here.
-/

namespace Go.Proofs.Ytpijncnpicgjeaa.Gf
set_option linter.unusedVariables false
set_option linter.unusedSimpArgs false
open Go.RowKit

structure RaM (w : World) (rb xb yb cx cy : Nat) (rd : Nat → Nat) (HR GA : Nat → Prop) (a : ArS) : Prop where
  c0 : w.cell? ⟨rb, 0, none⟩ = some (.slice (some ⟨xb, 0, none⟩) a.D.length cx)
  c1 : w.cell? ⟨rb, 1, none⟩ = some (.slice (some ⟨yb, 0, none⟩) a.D.length cy)
  c2 : w.cell? ⟨rb, 2, none⟩ = some (.int .i64 a.left)
  c3 : w.cell? ⟨rb, 3, none⟩ = some (.bool a.off)
  f2 : w.frozen? ⟨rb, 2, none⟩ = false
  f3 : w.frozen? ⟨rb, 3, none⟩ = false
  x : ∀ i, i < a.D.length → w.cell? ⟨xb, i, none⟩ = some (.pointer (some ⟨rd i, 0, none⟩))
  y : ∀ i, i < a.D.length → w.cell? ⟨yb, i, none⟩ = some (.int .i64 (a.B.getD i 0))
  fy : ∀ i, i < a.D.length → w.frozen? ⟨yb, i, none⟩ = false
  dk : ∀ i, i < a.D.length → RefAt w (rd i) (fun k => HR k ∨ GA k) (a.D.getD i default)
  inj : ∀ i j, i < a.D.length → j < a.D.length → rd i = rd j → i = j
  off : ∀ i, i < a.D.length → rd i ≠ rb ∧ rd i ≠ xb ∧ rd i ≠ yb
  rx : rb ≠ xb
  ry : rb ≠ yb
  xy : xb ≠ yb
  hr : HR rb
  hx : HR xb
  hy : HR yb
  hd : ∀ i, i < a.D.length → HR (rd i)
  dis : ∀ k, HR k → ¬ GA k
  lt : ∀ k, HR k → k < w.heap.size
  lg : ∀ k, GA k → k < w.heap.size
  d1 : 1 ≤ a.D.length
  d2 : a.D.length ≤ 32
  b : a.B.length = a.D.length
  wl : (Lit.int .i64 a.left).wf = true
def RaIn (w : World) (rb xb yb cx cy : Nat) (rd : Nat → Nat) (HR GA : Nat → Prop) (a : ArS) : Prop := RaM w rb xb yb cx cy rd HR GA a ∧ a.Ok
def RaAt (w : World) (rb : Nat) (HR GA : Nat → Prop) (a : ArS) : Prop := ∃ xb yb cx cy rd, RaIn w rb xb yb cx cy rd HR GA a
def LeavesRA (w : World) (rb : Nat) (HR GA : Nat → Prop) (a' : ArS) (x : Value) (e : Ending) (w' : World) : Prop := e = .returned x ∧ RaAt w' rb HR GA a' ∧ TurnG HR w w'
section
variable {w w' : World} {rb xb yb cx cy : Nat} {rd : Nat → Nat} {HR GA GA' : Nat → Prop} {a : ArS}
theorem RaM.below (h : RaM w rb xb yb cx cy rd HR GA a) (hb : Below w.heap.size w w') : RaM w' rb xb yb cx cy rd HR GA a :=
  have l := h.lt rb h.hr
  have lx := h.lt xb h.hx
  have ly := h.lt yb h.hy
  ⟨(hb.cell (p := ⟨rb, 0, none⟩) l).trans h.c0, (hb.cell (p := ⟨rb, 1, none⟩) l).trans h.c1, (hb.cell (p := ⟨rb, 2, none⟩) l).trans h.c2, (hb.cell (p := ⟨rb, 3, none⟩) l).trans h.c3, (hb.frozen (p := ⟨rb, 2, none⟩) l).trans h.f2, (hb.frozen (p := ⟨rb, 3, none⟩) l).trans h.f3,
   fun i hi => (hb.cell (p := ⟨xb, i, none⟩) lx).trans (h.x i hi), fun i hi => (hb.cell (p := ⟨yb, i, none⟩) ly).trans (h.y i hi), fun i hi => (hb.frozen (p := ⟨yb, i, none⟩) ly).trans (h.fy i hi), fun i hi => (h.dk i hi).below hb,
   h.inj, h.off, h.rx, h.ry, h.xy, h.hr, h.hx, h.hy, h.hd, h.dis, fun k hk => Nat.lt_of_lt_of_le (h.lt k hk) hb.size, fun k hk => Nat.lt_of_lt_of_le (h.lg k hk) hb.size, h.d1, h.d2, h.b, h.wl⟩
theorem RaAt.below (h : RaAt w rb HR GA a) (hb : Below w.heap.size w w') : RaAt w' rb HR GA a := by
  obtain ⟨xb, yb, cx, cy, rd, h, ok⟩ := h
  exact ⟨xb, yb, cx, cy, rd, h.below hb, ok⟩
/-- behind what the program's array has done -/
theorem RaM.other (h : RaM w rb xb yb cx cy rd HR GA a) (g : Grew GA w GA' w') (hl : ∀ k, GA' k → k < w'.heap.size) : RaM w' rb xb yb cx cy rd HR GA' a := by
  have l := h.lt rb h.hr
  have lx := h.lt xb h.hx
  have ly := h.lt yb h.hy
  have nr := h.dis rb h.hr
  have nx := h.dis xb h.hx
  have ny := h.dis yb h.hy
  refine ⟨(g.turn.cell (p := ⟨rb, 0, none⟩) l nr).trans h.c0, (g.turn.cell (p := ⟨rb, 1, none⟩) l nr).trans h.c1, (g.turn.cell (p := ⟨rb, 2, none⟩) l nr).trans h.c2, (g.turn.cell (p := ⟨rb, 3, none⟩) l nr).trans h.c3, (g.turn.frozen (p := ⟨rb, 2, none⟩) l nr).trans h.f2, (g.turn.frozen (p := ⟨rb, 3, none⟩) l nr).trans h.f3,
   fun i hi => (g.turn.cell (p := ⟨xb, i, none⟩) lx nx).trans (h.x i hi), fun i hi => (g.turn.cell (p := ⟨yb, i, none⟩) ly ny).trans (h.y i hi), fun i hi => (g.turn.frozen (p := ⟨yb, i, none⟩) ly ny).trans (h.fy i hi), fun i hi => ?_,
   h.inj, h.off, h.rx, h.ry, h.xy, h.hr, h.hx, h.hy, h.hd, fun k hk => g.off (h.lt k hk) (h.dis k hk), fun k hk => Nat.lt_of_lt_of_le (h.lt k hk) g.turn.size, hl, h.d1, h.d2, h.b, h.wl⟩
  refine (h.dk i hi).grewH g (fun k hk => Or.inr hk) (h.dis _ (h.hd i hi)) (fun k hk => ?_) (Or.inl (h.hd i hi)) (fun k hk => ?_)
  · rcases hk with h1 | h1
    · exact Or.inl (Or.inl h1)
    · rcases g.grow k h1 with h2 | h2
      · exact Or.inl (Or.inr h2)
      · exact Or.inr h2
  · rcases hk with h1 | h1
    · exact Nat.lt_of_lt_of_le (h.lt k h1) g.turn.size
    · exact hl k h1
theorem RaAt.other (h : RaAt w rb HR GA a) (g : Grew GA w GA' w') (hl : ∀ k, GA' k → k < w'.heap.size) : RaAt w' rb HR GA' a := by
  obtain ⟨xb, yb, cx, cy, rd, h, ok⟩ := h
  exact ⟨xb, yb, cx, cy, rd, h.other g hl, ok⟩
theorem RaAt.dis (h : RaAt w rb HR GA a) : ∀ k, HR k → ¬ GA k := by
  obtain ⟨xb, yb, cx, cy, rd, h, ok⟩ := h
  exact h.dis
/-- the program's array behind what the document's has done -/
theorem ArAt.other {ab : Nat} {a' : ArS} (h : ArAt w ab GA a') (hd : ∀ k, HR k → ¬ GA k) (t : TurnG HR w w') : ArAt w' ab GA a' :=
  h.keep (fun k hk => t.block k (h.lt k hk) (fun e => hd k e hk)) t.size
/-- a disk of the document's array was changed -/
theorem RaM.disk (h : RaM w rb xb yb cx cy rd HR GA a) {i : Nat} (hi : i < a.D.length) {d' : DkS} (hD : RefAt w' (rd i) (fun k => HR k ∨ GA k) d') (t : TurnG (fun k => k = rd i) w w') :
    RaM w' rb xb yb cx cy rd HR GA { a with D := a.D.set i d' } := by
  have l := h.lt rb h.hr
  have lx := h.lt xb h.hx
  have ly := h.lt yb h.hy
  obtain ⟨o1, o2, o3⟩ := h.off i hi
  have nr : ¬ rb = rd i := fun e => o1 e.symm
  have nx : ¬ xb = rd i := fun e => o2 e.symm
  have ny : ¬ yb = rd i := fun e => o3 e.symm
  have hl : (a.D.set i d').length = a.D.length := by simp
  have up : ∀ k, HR k ∨ GA k → k < w.heap.size := fun k hk => hk.elim (h.lt k) (h.lg k)
  refine ⟨?_, ?_, (t.cell (p := ⟨rb, 2, none⟩) l nr).trans h.c2, (t.cell (p := ⟨rb, 3, none⟩) l nr).trans h.c3, (t.frozen (p := ⟨rb, 2, none⟩) l nr).trans h.f2, (t.frozen (p := ⟨rb, 3, none⟩) l nr).trans h.f3,
   fun j hj => (t.cell (p := ⟨xb, j, none⟩) lx nx).trans (h.x j (hl ▸ hj)), fun j hj => (t.cell (p := ⟨yb, j, none⟩) ly ny).trans (h.y j (hl ▸ hj)), fun j hj => (t.frozen (p := ⟨yb, j, none⟩) ly ny).trans (h.fy j (hl ▸ hj)), fun j hj => ?_,
   fun j k hj hk => h.inj j k (hl ▸ hj) (hl ▸ hk), fun j hj => h.off j (hl ▸ hj), h.rx, h.ry, h.xy, h.hr, h.hx, h.hy, fun j hj => h.hd j (hl ▸ hj), h.dis, fun k hk => Nat.lt_of_lt_of_le (h.lt k hk) t.size, fun k hk => Nat.lt_of_lt_of_le (h.lg k hk) t.size, ?_, ?_, ?_, h.wl⟩
  · show _ = some (Value.slice _ (a.D.set i d').length _)
    rw [hl]; exact (t.cell (p := ⟨rb, 0, none⟩) l nr).trans h.c0
  · show _ = some (Value.slice _ (a.D.set i d').length _)
    rw [hl]; exact (t.cell (p := ⟨rb, 1, none⟩) l nr).trans h.c1
  · have hj2 : j < a.D.length := hl ▸ hj
    show RefAt w' (rd j) _ ((a.D.set i d').getD j default)
    rw [getD_set hi]
    by_cases e : j = i
    · subst e
      rw [if_pos rfl]
      exact hD
    · rw [if_neg e]
      refine (h.dk j hj2).grewH (Grew.of_turn t) (fun k hk => ?_) (fun e2 => e (h.inj j i hj2 hi e2)) (fun k hk => Or.inl hk) (Or.inl (h.hd j hj2)) (fun k hk => Nat.lt_of_lt_of_le (up k hk) t.size)
      have : k = rd i := hk
      rw [this]
      exact Or.inl (h.hd i hi)
  · show 1 ≤ (a.D.set i d').length
    rw [hl]; exact h.d1
  · show (a.D.set i d').length ≤ 32
    rw [hl]; exact h.d2
  · show a.B.length = (a.D.set i d').length
    rw [hl]; exact h.b
theorem RaM.turnD (h : RaM w rb xb yb cx cy rd HR GA a) {i : Nat} (hi : i < a.D.length) (t : TurnG (fun k => k = rd i) w w') : TurnG HR w w' :=
  ⟨t.os, t.tape, t.output, t.size, fun k hk hn => t.block k hk (fun e => hn (by have e2 : k = rd i := e; rw [e2]; exact h.hd i hi))⟩
/-- a cell of the document's array's own is written -/
theorem RaM.own (h : RaM w rb xb yb cx cy rd HR GA a) {g j : Nat} {v : Value} (hg : g = rb ∨ g = yb) {i : Nat} (hi : i < a.D.length) : RefAt (w.setCell ⟨g, j, none⟩ v) (rd i) (fun k => HR k ∨ GA k) (a.D.getD i default) := by
  have t : TurnG (fun k => k = g) w (w.setCell ⟨g, j, none⟩ v) := setCell_turnG rfl
  obtain ⟨o1, o2, o3⟩ := h.off i hi
  have up : ∀ k, HR k ∨ GA k → k < w.heap.size := fun k hk => hk.elim (h.lt k) (h.lg k)
  refine (h.dk i hi).grewH (Grew.of_turn t) (fun k hk => ?_) (fun e => ?_) (fun k hk => Or.inl hk) (Or.inl (h.hd i hi)) (fun k hk => Nat.lt_of_lt_of_le (up k hk) t.size)
  · have : k = g := hk
    rw [this]
    rcases hg with e | e
    · rw [e]; exact Or.inl h.hr
    · rw [e]; exact Or.inl h.hy
  · have e2 : rd i = g := e
    rcases hg with e3 | e3
    · exact o1 (e2.trans e3)
    · exact o3 (e2.trans e3)
theorem RaM.setLeft (h : RaM w rb xb yb cx cy rd HR GA a) {l : Int} (hl : (Lit.int .i64 l).wf = true) : RaM (w.setCell ⟨rb, 2, none⟩ (.int .i64 l)) rb xb yb cx cy rd HR GA { a with left := l } := by
  have hb : ∀ k, k ≠ rb → (w.setCell ⟨rb, 2, none⟩ (.int .i64 l)).heap[k]? = w.heap[k]? := fun k hk => Below.heap_setCell w ⟨rb, 2, none⟩ _ k hk
  have hx := hb xb h.rx.symm
  have hy := hb yb h.ry.symm
  refine ⟨(cell_set_ne w _ (by decide)).trans h.c0, (cell_set_ne w _ (by decide)).trans h.c1, cell_set_eq _ h.c2, (cell_set_ne w _ (by decide)).trans h.c3, (frozen_set w _).trans h.f2, (frozen_set w _).trans h.f3,
   fun i hi => (World.cell?_of_block (w := w) hx).trans (h.x i hi), fun i hi => (World.cell?_of_block (w := w) hy).trans (h.y i hi), fun i hi => (World.frozen?_of_block (w := w) hy).trans (h.fy i hi), fun i hi => h.own (Or.inl rfl) hi,
   h.inj, h.off, h.rx, h.ry, h.xy, h.hr, h.hx, h.hy, h.hd, h.dis, fun k hk => by simpa using h.lt k hk, fun k hk => by simpa using h.lg k hk, h.d1, h.d2, h.b, hl⟩
theorem RaM.setOff (h : RaM w rb xb yb cx cy rd HR GA a) (z : Bool) : RaM (w.setCell ⟨rb, 3, none⟩ (.bool z)) rb xb yb cx cy rd HR GA { a with off := z } := by
  have hb : ∀ k, k ≠ rb → (w.setCell ⟨rb, 3, none⟩ (.bool z)).heap[k]? = w.heap[k]? := fun k hk => Below.heap_setCell w ⟨rb, 3, none⟩ _ k hk
  have hx := hb xb h.rx.symm
  have hy := hb yb h.ry.symm
  refine ⟨(cell_set_ne w _ (by decide)).trans h.c0, (cell_set_ne w _ (by decide)).trans h.c1, (cell_set_ne w _ (by decide)).trans h.c2, cell_set_eq _ h.c3, (frozen_set w _).trans h.f2, (frozen_set w _).trans h.f3,
   fun i hi => (World.cell?_of_block (w := w) hx).trans (h.x i hi), fun i hi => (World.cell?_of_block (w := w) hy).trans (h.y i hi), fun i hi => (World.frozen?_of_block (w := w) hy).trans (h.fy i hi), fun i hi => h.own (Or.inl rfl) hi,
   h.inj, h.off, h.rx, h.ry, h.xy, h.hr, h.hx, h.hy, h.hd, h.dis, fun k hk => by simpa using h.lt k hk, fun k hk => by simpa using h.lg k hk, h.d1, h.d2, h.b, h.wl⟩
theorem RaM.setBorn (h : RaM w rb xb yb cx cy rd HR GA a) {i : Nat} (hi : i < a.D.length) (z : Int) : RaM (w.setCell ⟨yb, i, none⟩ (.int .i64 z)) rb xb yb cx cy rd HR GA { a with B := a.B.set i z } := by
  have hb : ∀ k, k ≠ yb → (w.setCell ⟨yb, i, none⟩ (.int .i64 z)).heap[k]? = w.heap[k]? := fun k hk => Below.heap_setCell w ⟨yb, i, none⟩ _ k hk
  have hx := hb xb h.xy
  have hr := hb rb h.ry
  have hB : i < a.B.length := by rw [h.b]; exact hi
  refine ⟨(World.cell?_of_block (w := w) hr).trans h.c0, (World.cell?_of_block (w := w) hr).trans h.c1, (World.cell?_of_block (w := w) hr).trans h.c2, (World.cell?_of_block (w := w) hr).trans h.c3, (World.frozen?_of_block (w := w) hr).trans h.f2, (World.frozen?_of_block (w := w) hr).trans h.f3,
   fun j hj => (World.cell?_of_block (w := w) hx).trans (h.x j hj), fun j hj => ?_, fun j hj => (frozen_set w _).trans (h.fy j hj), fun j hj => h.own (Or.inr rfl) hj,
   h.inj, h.off, h.rx, h.ry, h.xy, h.hr, h.hx, h.hy, h.hd, h.dis, fun k hk => by simpa using h.lt k hk, fun k hk => by simpa using h.lg k hk, h.d1, h.d2, ?_, h.wl⟩
  · show _ = some (Value.int .i64 ((a.B.set i z).getD j 0))
    rw [getD_set hB]
    by_cases e : j = i
    · subst e
      rw [if_pos rfl]
      exact cell_set_eq _ (h.y j hj)
    · rw [if_neg e, cell_set_ne w _ e]; exact h.y j hj
  · show (a.B.set i z).length = _
    simp; exact h.b
end
end Go.Proofs.Ytpijncnpicgjeaa.Gf

/-
  THE PROGRAM's ARRAY BY CONTRACT (package array): member, refusal, powered, countWrite, CrashAfter, Down.
-/

namespace Go.Proofs.Ytpijncnpicgjeaa.Gf
set_option linter.unusedVariables false
set_option linter.unusedSimpArgs false
open Go.RowKit

section
variable {w : World} {ab mb : Nat} {db : Nat → Nat} {GD : Nat → Nat → Prop} {GA : Nat → Prop} {a : ArS}
theorem amem_at {n : Nat} (c0 : w.cell? ⟨ab, 0, none⟩ = some (.slice (some ⟨mb, 0, none⟩) n n)) {j : Nat} (hj : j < n) : Calls Try.prog 51 #[.pointer (some ⟨ab, 0, none⟩), .int .i64 (j : Int)] w fun e w' => e = .returned (.pointer (some ⟨mb, j * 2, none⟩)) ∧ w' = w := by
  have q1 : ¬ (j : Int) < 0 := by omega
  have q2 : ¬ (j : Int) ≥ (n : Int) := by omega
  have q3 : (j : Int) < (n : Int) := by omega
  go_enter Try.func51, Try.ntmps51
  go_wp2
  go_ret
  exact ⟨rfl, rfl⟩
theorem amem_no {n : Nat} (c0 : w.cell? ⟨ab, 0, none⟩ = some (.slice (some ⟨mb, 0, none⟩) n n)) {i : Int} (hi : ¬ (0 ≤ i ∧ i < (n : Int))) : Calls Try.prog 51 #[.pointer (some ⟨ab, 0, none⟩), .int .i64 i] w fun e w' => e = .returned (.pointer none) ∧ w' = w := by
  by_cases q1 : i < 0
  · go_enter Try.func51, Try.ntmps51
    go_wp2
    go_ret
    exact ⟨rfl, rfl⟩
  · have q2 : i ≥ (n : Int) := by omega
    go_enter Try.func51, Try.ntmps51
    go_wp2
    go_ret
    exact ⟨rfl, rfl⟩
theorem amem_nil {i : Int} : Calls Try.prog 51 #[.pointer none, .int .i64 i] w fun e w' => e = .returned (.pointer none) ∧ w' = w := by
  go_enter Try.func51, Try.ntmps51
  go_wp2
  go_ret
  exact ⟨rfl, rfl⟩
theorem aref_any {x : Bool} (c2 : w.cell? ⟨ab, 2, none⟩ = some (.bool x)) : Calls Try.prog 48 #[.pointer (some ⟨ab, 0, none⟩)] w fun e w' => e = .returned (.int .i64 (if x = true then 130 else 0)) ∧ w' = w := by
  cases x
  · go_enter Try.func48, Try.ntmps48
    go_wp2
    go_ret
    exact ⟨rfl, rfl⟩
  · go_enter Try.func48, Try.ntmps48
    go_wp2
    go_ret
    exact ⟨rfl, rfl⟩
theorem aref_nil : Calls Try.prog 48 #[.pointer none] w fun e w' => e = .returned (.int .i64 1) ∧ w' = w := by
  go_enter Try.func48, Try.ntmps48
  go_wp2
  go_ret
  exact ⟨rfl, rfl⟩
theorem apow_nil {i : Int} : Calls Try.prog 44 #[.pointer none, .int .i64 i] w fun e w' => e = .returned (.tuple #[.pointer none, .int .i64 1]) ∧ w' = w := by
  have K := @aref_nil w
  go_enter Try.func44, Try.ntmps44
  go_wp2_with fail
  refine K.mono ?_
  rintro _ wq ⟨rfl, hwq⟩
  rw [hwq]
  clear hwq wq K
  go_wp2
  refine bodyPost_ret (v := .tuple #[.pointer none, .int .i64 1]) (by simp [results, Try.results44, go_sem]) rfl ?_
  exact ⟨rfl, rfl⟩
theorem apow_off (c2 : w.cell? ⟨ab, 2, none⟩ = some (.bool true)) {i : Int} : Calls Try.prog 44 #[.pointer (some ⟨ab, 0, none⟩), .int .i64 i] w fun e w' => e = .returned (.tuple #[.pointer none, .int .i64 130]) ∧ w' = w := by
  have K := aref_any c2
  simp only [if_true] at K
  go_enter Try.func44, Try.ntmps44
  go_wp2_with fail
  refine K.mono ?_
  rintro _ wq ⟨rfl, hwq⟩
  rw [hwq]
  clear hwq wq K
  go_wp2
  refine bodyPost_ret (v := .tuple #[.pointer none, .int .i64 130]) (by simp [results, Try.results44, go_sem]) rfl ?_
  exact ⟨rfl, rfl⟩
theorem apow_no {n : Nat} (c0 : w.cell? ⟨ab, 0, none⟩ = some (.slice (some ⟨mb, 0, none⟩) n n)) (c2 : w.cell? ⟨ab, 2, none⟩ = some (.bool false)) {i : Int} (hi : ¬ (0 ≤ i ∧ i < (n : Int))) : Calls Try.prog 44 #[.pointer (some ⟨ab, 0, none⟩), .int .i64 i] w fun e w' => e = .returned (.tuple #[.pointer none, .int .i64 1]) ∧ w' = w := by
  have K := aref_any c2
  have KM := amem_no c0 hi
  simp only [Bool.false_eq_true, if_false] at K
  go_enter Try.func44, Try.ntmps44
  go_wp2_with fail
  refine K.mono ?_
  rintro _ wq ⟨rfl, hwq⟩
  rw [hwq]
  clear hwq wq K
  go_wp2_with fail
  refine KM.mono ?_
  rintro _ wq ⟨rfl, hwq⟩
  rw [hwq]
  clear hwq wq KM
  go_wp2
  refine bodyPost_ret (v := .tuple #[.pointer none, .int .i64 1]) (by simp [results, Try.results44, go_sem]) rfl ?_
  exact ⟨rfl, rfl⟩
theorem apow_at {n : Nat} (c0 : w.cell? ⟨ab, 0, none⟩ = some (.slice (some ⟨mb, 0, none⟩) n n)) (c2 : w.cell? ⟨ab, 2, none⟩ = some (.bool false)) {j : Nat} (hj : j < n) : Calls Try.prog 44 #[.pointer (some ⟨ab, 0, none⟩), .int .i64 (j : Int)] w fun e w' => e = .returned (.tuple #[.pointer (some ⟨mb, j * 2, none⟩), .int .i64 0]) ∧ w' = w := by
  have K := aref_any c2
  have KM := amem_at c0 hj
  simp only [Bool.false_eq_true, if_false] at K
  go_enter Try.func44, Try.ntmps44
  go_wp2_with fail
  refine K.mono ?_
  rintro _ wq ⟨rfl, hwq⟩
  rw [hwq]
  clear hwq wq K
  go_wp2_with fail
  refine KM.mono ?_
  rintro _ wq ⟨rfl, hwq⟩
  rw [hwq]
  clear hwq wq KM
  go_wp2
  refine bodyPost_ret (v := .tuple #[.pointer (some ⟨mb, j * 2, none⟩), .int .i64 0]) (by simp [results, Try.results44, go_sem]) rfl ?_
  exact ⟨rfl, rfl⟩
theorem leC_wf {l : Int} (h : (Lit.int .i64 l).wf = true) : (Lit.int .i64 (leC l)).wf = true := by
  unfold leC
  split
  · exact h
  · decide
/-- a write that was done is counted -/
theorem acount_any (h : ArM w ab mb db GD GA a) : Calls Try.prog 46 #[.pointer (some ⟨ab, 0, none⟩)] w fun e w' => e = .returned (.tuple #[]) ∧ ArM w' ab mb db GD GA (tickA a) ∧ TurnG GA w w' := by
  have c1 := h.c1
  have c2 := h.c2
  have f1 := h.f1
  have f2 := h.f2
  by_cases hl : 0 < a.left
  · have eL : leC a.left = a.left := if_pos hl
    have wb := bounds_i64 h.wl
    have hwf : (Lit.int .i64 (a.left - 1)).wf = true := by simp [Lit.wf, IntKind.min, IntKind.max, IntKind.signed, IntKind.bits]; omega
    have M1 := (h.setLeft hwf).setOff (decide (a.left - 1 = 0))
    have eL2 : leC (a.left - 1) = a.left - 1 := by unfold leC; split <;> omega
    have eT : tickA a = { { a with left := a.left - 1 } with off := decide (a.left - 1 = 0) } := if_pos hl
    rw [eL2] at M1
    have FIN : Hid (ArM ((w.setCell ⟨ab, 1, none⟩ (.int .i64 (a.left - 1))).setCell ⟨ab, 2, none⟩ (.bool (decide (a.left - 1 = 0)))) ab mb db GD GA (tickA a) ∧ TurnG GA w ((w.setCell ⟨ab, 1, none⟩ (.int .i64 (a.left - 1))).setCell ⟨ab, 2, none⟩ (.bool (decide (a.left - 1 = 0))))) := by
      rw [eT]
      exact ⟨M1, (setCell_turnG h.ga).trans (setCell_turnG h.ga)⟩
    clear M1 eT eL2 hwf
    rw [eL] at c1
    have q0 : ¬ a.left = 0 := by omega
    have q1 : (a.left == 0) = false := beq_eq_false_iff_ne.2 q0
    have g1 : IntKind.i64.wrap (a.left - 1) = a.left - 1 := by rw [IntKind.wrap_i64]; omega
    have q2 : (a.left - 1 == 0) = decide (a.left - 1 = 0) := by by_cases e : a.left - 1 = 0 <;> simp [e]
    clear h wb eL hl
    go_enter Try.func46, Try.ntmps46
    go_wp2
    go_end0
    exact ⟨rfl, FIN.out⟩
  · have eL : leC a.left = 0 := if_neg hl
    have eT : tickA a = a := if_neg hl
    have FIN : Hid (ArM w ab mb db GD GA (tickA a)) := by rw [eT]; exact h
    rw [eL] at c1
    clear h eT eL
    go_enter Try.func46, Try.ntmps46
    go_wp2
    refine bodyPost_ret (v := .tuple #[]) (by simp [results, Try.results46, go_sem]) rfl ?_
    exact ⟨rfl, FIN.out, TurnG.refl _ _⟩
theorem acount_ok {a : ArS} (ok : a.Ok) : (tickA a).Ok := tickA_ok ok
theorem adown_any (h : ArAt w ab GA a) : Calls Try.prog 19 #[.pointer (some ⟨ab, 0, none⟩)] w fun e w' => e = .returned (.bool a.off) ∧ w' = w := by
  obtain ⟨mb, db, GD, h, _⟩ := h
  have c2 := h.c2
  go_enter Try.func19, Try.ntmps19
  go_wp2
  go_ret
  exact ⟨rfl, rfl⟩
theorem adown_nil : Calls Try.prog 19 #[.pointer none] w fun e w' => e = .returned (.bool false) ∧ w' = w := by
  go_enter Try.func19, Try.ntmps19
  go_wp2
  go_ret
  exact ⟨rfl, rfl⟩
theorem aafter_nil {n : Int} : Calls Try.prog 15 #[.pointer none, .int .i64 n] w fun e w' => e = .returned (.tuple #[]) ∧ w' = w := by
  go_enter Try.func15, Try.ntmps15
  go_wp2
  refine bodyPost_ret (v := .tuple #[]) (by simp [results, Try.results15, go_sem]) rfl ?_
  exact ⟨rfl, rfl⟩
theorem aafter_any (h : ArAt w ab GA a) {n : Int} (hn : (Lit.int .i64 n).wf = true) : Calls Try.prog 15 #[.pointer (some ⟨ab, 0, none⟩), .int .i64 n] w (LeavesA w ab GA (caA a n) (.tuple #[])) := by
  obtain ⟨mb, db, GD, h, ok⟩ := h
  have c1 := h.c1
  have c2 := h.c2
  have f1 := h.f1
  have f2 := h.f2
  cases ho : a.off with
  | true =>
    have FIN : Hid (∃ GA', ArAt w ab GA' (caA a n) ∧ Grew GA w GA' w) := ⟨GA, ⟨mb, db, GD, by rw [show caA a n = a from if_pos ho]; exact ⟨h, ok⟩⟩, Grew.refl _ _⟩
    rw [ho] at c2
    clear h ok
    go_enter Try.func15, Try.ntmps15
    go_wp2
    refine bodyPost_ret (v := .tuple #[]) (by simp [results, Try.results15, go_sem]) rfl ?_
    exact ⟨rfl, FIN.out⟩
  | false =>
    have hwf : (Lit.int .i64 (if 0 ≤ n then n else -1)).wf = true := by
      split
      · exact hn
      · decide
    have M1 := (h.setLeft hwf).setOff (decide (n = 0))
    have eL : leC (if 0 ≤ n then n else -1) = max n 0 := by
      unfold leC
      split <;> split <;> omega
    have eT : caA a n = { { a with left := if 0 ≤ n then n else -1 } with off := decide (n = 0) } := if_neg (by rw [ho]; simp)
    have ok2 := caA_ok ok n
    rw [eT] at ok2
    rw [eL] at M1
    have FIN : Hid (∃ GA', ArAt ((w.setCell ⟨ab, 1, none⟩ (.int .i64 (max n 0))).setCell ⟨ab, 2, none⟩ (.bool (decide (n = 0)))) ab GA' (caA a n) ∧ Grew GA w GA' ((w.setCell ⟨ab, 1, none⟩ (.int .i64 (max n 0))).setCell ⟨ab, 2, none⟩ (.bool (decide (n = 0))))) := by
      rw [eT]
      exact ⟨GA, ⟨mb, db, GD, M1, ok2⟩, Grew.of_turn ((setCell_turnG h.ga).trans (setCell_turnG h.ga))⟩
    have q2 : (n == 0) = decide (n = 0) := by by_cases e : n = 0 <;> simp [e]
    rw [ho] at c2
    clear M1 eT eL hwf h ok ok2
    go_enter Try.func15, Try.ntmps15
    go_wp2
    go_end0
    exact ⟨rfl, FIN.out⟩
end
end Go.Proofs.Ytpijncnpicgjeaa.Gf

