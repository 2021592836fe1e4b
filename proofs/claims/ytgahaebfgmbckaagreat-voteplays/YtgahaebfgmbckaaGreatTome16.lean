/- TEXTS JOINED: DkRm, DkOwnL, DkRc, DkRd. -/
import Derived.Test.YtgahaebfgmbckaaGreatTome14
namespace Go.Proofs.YtgahaebfgmbckaaGreat.Gf
set_option linter.unusedVariables false
set_option linter.unusedSimpArgs false
open Go.RowKit
abbrev Sorted12 (L : List (Int × List UInt8)) : Prop := L.Pairwise fun a b => a.1 < b.1
theorem heldL_sorted (f : Int → Option (List UInt8)) (s : Nat) : Sorted12 (heldL f s) := by
  induction s with
  | zero => exact List.Pairwise.nil
  | succ s ih =>
    rw [heldL_succ]
    refine List.pairwise_append.2 ⟨ih, ?_, fun a ha b hb => ?_⟩
    · cases f (s : Int) <;> simp
    · have h1 := (heldL_mem (x := a.1) (b := a.2)).1 ha
      cases hf : f (s : Int) with
      | none => rw [hf] at hb; cases hb
      | some q =>
        rw [hf] at hb
        simp at hb
        subst hb
        exact h1.2.1
theorem sorted_ext {L M : List (Int × List UInt8)} (hL : Sorted12 L) (hM : Sorted12 M) (h : ∀ z, z ∈ L ↔ z ∈ M) : L = M := by
  refine List.Perm.eq_of_pairwise (le := fun a b => a.1 < b.1) (fun a b _ _ h1 h2 => by omega) hL hM ?_
  refine (List.perm_ext_iff_of_nodup (hL.imp fun h e => ?_) (hM.imp fun h e => ?_)).2 h
  · rw [e] at h; omega
  · rw [e] at h; omega
theorem place_of (T : List TH) (x : Int) : ∃ k0, k0 ≤ T.length ∧ (∀ j, j < k0 → (T.getD j default).1 < x) ∧ (k0 = T.length ∨ (k0 < T.length ∧ x ≤ (T.getD k0 default).1)) := by
  induction T with
  | nil => exact ⟨0, Nat.le_refl _, fun j hj => by omega, Or.inl rfl⟩
  | cons t T ih =>
    by_cases h : t.1 < x
    · obtain ⟨k, h1, h2, h3⟩ := ih
      refine ⟨k + 1, by simpa using h1, fun j hj => ?_, ?_⟩
      · cases j with
        | zero => exact h
        | succ j => exact h2 j (by omega)
      · rcases h3 with h3 | ⟨h3, h4⟩
        · exact Or.inl (by simp [h3])
        · exact Or.inr ⟨by simpa using h3, h4⟩
    · exact ⟨0, Nat.zero_le _, fun j hj => by omega, Or.inr ⟨by simp, by show x ≤ t.1; omega⟩⟩
theorem bare_at {T : List TH} {i : Nat} (h : i < (bareT T).length) : (bareT T)[i] = ((T.getD i default).1, (T.getD i default).2.1) := by
  have h' : i < T.length := by rw [bareT_length] at h; exact h
  simp [bareT, List.getD, h']
/-- where 'with' puts one -/
theorem with_place {f : Int → Option (List UInt8)} {s : Nat} {T : List TH} (hT : bareT T = heldL f s) {x : Int} (h0 : 0 ≤ x) (h1 : x < (s : Int)) (p : List UInt8) (vb : Value) :
    ∃ k0 k1, k0 ≤ T.length ∧ (∀ j, j < k0 → (T.getD j default).1 < x) ∧ ((k0 = T.length ∧ k1 = k0) ∨ (k0 < T.length ∧ (T.getD k0 default).1 = x ∧ k1 = k0 + 1) ∨ (k0 < T.length ∧ x < (T.getD k0 default).1 ∧ k1 = k0)) ∧
      bareT (T.take k0 ++ (x, p, vb) :: T.drop k1) = heldL (putB f x p) s := by
  obtain ⟨k0, hk, hlo, hhi⟩ := place_of T x
  have hs : Sorted12 (bareT T) := by rw [hT]; exact heldL_sorted f s
  have hsi := List.pairwise_iff_getElem.1 hs
  have hl := bareT_length T
  obtain ⟨k1, hc⟩ : ∃ k1, (k0 = T.length ∧ k1 = k0) ∨ (k0 < T.length ∧ (T.getD k0 default).1 = x ∧ k1 = k0 + 1) ∨ (k0 < T.length ∧ x < (T.getD k0 default).1 ∧ k1 = k0) := by
    rcases hhi with h | ⟨h, h2⟩
    · exact ⟨k0, Or.inl ⟨h, rfl⟩⟩
    · by_cases e : (T.getD k0 default).1 = x
      · exact ⟨k0 + 1, Or.inr (Or.inl ⟨h, e, rfl⟩)⟩
      · exact ⟨k0, Or.inr (Or.inr ⟨h, by omega, rfl⟩)⟩
  refine ⟨k0, k1, hk, hlo, hc, ?_⟩
  have key : ∀ i (h : i < (bareT T).length), (bareT T)[i].1 = (T.getD i default).1 := fun i h => by rw [bare_at h]
  have lowT : ∀ z ∈ (bareT T).take k0, z.1 < x := by
    intro z hz
    obtain ⟨i, hi, e⟩ := List.getElem_of_mem hz
    have hi' : i < k0 ∧ i < (bareT T).length := by rw [List.length_take] at hi; omega
    rw [List.getElem_take] at e
    rw [← e, key i hi'.2]
    exact hlo i hi'.1
  have highT : ∀ z ∈ (bareT T).drop k1, x < z.1 := by
    intro z hz
    obtain ⟨i, hi, e⟩ := List.getElem_of_mem hz
    rw [List.length_drop] at hi
    rw [List.getElem_drop] at e
    rw [← e]
    have hi2 : k1 + i < (bareT T).length := by omega
    rcases hc with ⟨e1, e2⟩ | ⟨e1, e3, e2⟩ | ⟨e1, e3, e2⟩
    · omega
    · have h4 := hsi k0 (k1 + i) (by omega) hi2 (by omega)
      rw [key k0 (by omega), e3] at h4
      exact h4
    · by_cases h5 : k1 + i = k0
      · have h6 := key (k1 + i) hi2
        rw [h6, h5]
        exact e3
      · have h4 := hsi k0 (k1 + i) (by omega) hi2 (by omega)
        rw [key k0 (by omega)] at h4
        omega
  have hb : bareT (T.take k0 ++ (x, p, vb) :: T.drop k1) = (bareT T).take k0 ++ (x, p) :: (bareT T).drop k1 := by simp [bareT]
  rw [hb]
  refine sorted_ext ?_ (heldL_sorted _ _) fun z => ?_
  · refine List.pairwise_append.2 ⟨hs.sublist (List.take_sublist _ _), List.pairwise_cons.2 ⟨fun a ha => highT a ha, hs.sublist (List.drop_sublist _ _)⟩, fun a ha b hb2 => ?_⟩
    have h5 := lowT a ha
    rcases List.mem_cons.1 hb2 with e | h6
    · rw [e]; exact h5
    · have := highT b h6
      omega
  · obtain ⟨y, q⟩ := z
    rw [heldL_mem, List.mem_append, List.mem_cons]
    have inT : ∀ y q, (y, q) ∈ bareT T ↔ 0 ≤ y ∧ y < (s : Int) ∧ f y = some q := fun y q => by rw [hT]; exact heldL_mem
    have split : (y, q) ∈ bareT T ↔ ((y, q) ∈ (bareT T).take k0 ∨ (y, q) ∈ (bareT T).drop k0) := by
      rw [← List.mem_append, List.take_append_drop]
    by_cases hy : y = x
    · subst hy
      constructor
      · rintro (h | h | h)
        · have := lowT _ h; simp at this
        · cases h
          exact ⟨h0, h1, if_pos rfl⟩
        · have := highT _ h; simp at this
      · rintro ⟨_, _, h⟩
        have h2 : putB f y p y = some p := if_pos rfl
        rw [h2] at h
        cases h
        exact Or.inr (Or.inl rfl)
    · have h2 : putB f x p y = f y := if_neg hy
      rw [h2, ← inT y q, split]
      have hd : (y, q) ∈ (bareT T).drop k0 ↔ (y, q) ∈ (bareT T).drop k1 := by
        rcases hc with ⟨e1, e2⟩ | ⟨e1, e3, e2⟩ | ⟨e1, e3, e2⟩
        · rw [e2]
        · have hk2 : k0 < (bareT T).length := by omega
          rw [List.drop_eq_getElem_cons hk2, List.mem_cons, e2]
          constructor
          · rintro (h | h)
            · have h7 := key k0 hk2
              rw [← h, e3] at h7
              exact absurd h7 hy
            · exact h
          · exact Or.inr
        · rw [e2]
      constructor
      · rintro (h | h | h)
        · exact Or.inl h
        · cases h; exact absurd rfl hy
        · exact Or.inr (hd.2 h)
      · rintro (h | h)
        · exact Or.inl h
        · exact Or.inr (Or.inr (hd.1 h))
end Go.Proofs.YtgahaebfgmbckaaGreat.Gf

namespace Go.Proofs.YtgahaebfgmbckaaGreat.Gf
set_option linter.unusedVariables false
set_option linter.unusedSimpArgs false
open Go.RowKit
section
variable {w : World} {N db : Nat} {G : Nat → Prop} {d : DkS}
theorem set_below {g : Nat} (hg : N ≤ g) (j : Nat) (u : Value) : Below N w (w.setCell ⟨g, j, none⟩ u) := (Below.refl _ _).setCell hg u
end
end Go.Proofs.YtgahaebfgmbckaaGreat.Gf

namespace Go.Proofs.YtgahaebfgmbckaaGreat.Gf
set_option linter.unusedVariables false
set_option linter.unusedSimpArgs false
open Go.RowKit
/-- the place in a list, or -1 -/
def FindD (w : World) (T : List TH) (x : Int) (e : Ending) (w' : World) : Prop := w' = w ∧ ((e = .returned (.int .i64 (-1)) ∧ lookL (bareT T) x = none) ∨ ∃ k : Nat, e = .returned (.int .i64 (k : Int)) ∧ k < T.length ∧ lookL (bareT T) x = some (T.getD k default).2.1)
set_option maxRecDepth 100000 in
set_option maxHeartbeats 1000000 in
theorem find_any {w : World} {v : Value} {T : List TH} (hT : RdT w v T) {x : Int} : Calls Tryz.prog 106 #[v, .int .i64 x] w (FindD w T x) := by
  have lt := hT.len
  obtain ⟨aa, ca, rfl⟩ := hT.form
  go_enter Tryz.func106, Tryz.ntmps106
  go_wp2
  go_loopw [5] (fun i wr => ∃ k : Nat, k ≤ T.length ∧ i = .int .i64 (k : Int) ∧ Hid (∀ j, j < k → (T.getD j default).1 ≠ x) ∧ Hid (wr = w)) (fun i _ => T.length - (intOf i).toNat)
  case atStart => exact ⟨0, Nat.zero_le _, rfl, fun j hj => by omega, rfl⟩
  case round =>
    obtain ⟨k, hk, rfl, hs, hd⟩ := hrel
    have hT' : RdT wr (.slice aa T.length ca) T := by rw [hd.out]; exact hT
    clear hT
    by_cases hlt : k < T.length
    · have hlt' : (k : Int) < (T.length : Int) := by omega
      have g1 : IntKind.i64.wrap ((k : Int) + 1) = ((k + 1 : Nat) : Int) := by rw [IntKind.wrap_i64]; omega
      obtain ⟨b, off, rfl, c0, c1, r1⟩ := hT'.at hlt
      by_cases e : (T.getD k default).1 = x
      · have HL : Hid (lookL (bareT T) x = some (T.getD k default).2.1) := look_at hlt hs.out e
        have z1 : ((T.getD k default).1 == x) = true := beq_iff_eq.2 e
        obtain ⟨t1, ht⟩ : ∃ t, t = (T.getD k default).1 := ⟨_, rfl⟩
        rw [← ht] at c0 z1
        clear ht hs hT' e r1 c1
        go_wp2
        go_ret
        exact ⟨hd.out, Or.inr ⟨k, rfl, hlt, HL.out⟩⟩
      · have z1 : ((T.getD k default).1 == x) = false := beq_eq_false_iff_ne.2 e
        have HS : Hid (∀ j, j < k + 1 → (T.getD j default).1 ≠ x) := fun j hj => by
          by_cases e2 : j = k
          · rw [e2]; exact e
          · exact hs.out j (by omega)
        obtain ⟨t1, ht⟩ : ∃ t, t = (T.getD k default).1 := ⟨_, rfl⟩
        rw [← ht] at c0 z1
        clear ht hs hT' e r1 c1
        go_wp2
        go_roundw
        case rel => exact ⟨k + 1, by omega, by go_num, HS, hd⟩
        case measure => simp [intOf]; omega
    · have hge : ¬ (k : Int) < (T.length : Int) := by omega
      have HL : Hid (lookL (bareT T) x = none) := look_none (fun j hj => hs.out j (by omega))
      clear hs hT'
      go_wp2
      go_ret
      exact ⟨hd.out, Or.inl ⟨rfl, HL.out⟩⟩
set_option maxRecDepth 100000 in
set_option maxHeartbeats 2000000 in
theorem changed_any {w : World} {v : Value} {p : List UInt8} (hp : Rd w v p) (h1 : 1 ≤ p.length) (h2 : p.length ≤ 100000) {at_ : Int} (hat : (Lit.int .i64 at_).wf = true) (y : UInt8) :
    Calls Tryz.prog 109 #[v, .int .i64 at_, .int .u8 ((y.toNat : Nat) : Int)] w fun e w' => ∃ v', e = .returned v' ∧ w'.ownsRow w.heap.size 5 1 v' p.length ((chB p at_ y).map vb) ∧ Below w.heap.size w w' := by
  obtain ⟨aa, ca, rfl⟩ := hp.form
  obtain ⟨i0, hi, hz0, hz1, hz2⟩ := info_parts info_u8
  have B1 : Below w.heap.size w (w.alloc (.cells #[] 5)) := belA _ _
  have O1 := own_new12 w 5
  have hp1 := hp.below B1
  have hsz : w.heap.size ≤ (w.alloc (.cells #[] 5)).heap.size := B1.size
  obtain ⟨j, hj⟩ : ∃ j, Hid (j = atN at_ p.length) := ⟨_, rfl⟩
  have hjl : j < p.length := by rw [hj.out]; exact Nat.mod_lt _ (by omega)
  have hCh : Hid (chB p at_ y = p.set j (co p j ^^^ y)) := by show _ = _; unfold chB; rw [hj.out]
  by_cases hneg : at_ < 0
  · obtain ⟨M, hM⟩ : ∃ M : Nat, at_ = -((M : Int) + 1) := ⟨(-(at_ + 1)).toNat, by omega⟩
    have hb := bounds_i64 hat
    have hjM : j = M % p.length := by rw [hj.out]; unfold atN; rw [if_pos hneg]; congr 1; omega
    have Z1 : wrap64 (at_ + 1) = -(M : Int) := by unfold wrap64; omega
    have Z2 : wrap64 (M : Int) = (M : Int) := by unfold wrap64; omega
    have Tm : ((M : Int)).tmod (p.length : Int) = (j : Int) := by rw [hjM]; exact (Int.ofNat_tmod M p.length).symm
    clear hjM hM hb hat hj
    go_enter Tryz.func109, Tryz.ntmps109
    go_wp2_with (at_builtin; go_loud (refine wpList_append_rd _ rfl (.tmp 13) (.tmp 14) 32 rfl w.heap.size 5 i0 Tryz.underlying32 hi hz0 hz1 hz2 (.slice (some ⟨w.heap.size, 0, none⟩) 0 0) 0 [] rfl O1 (.slice aa p.length ca) p rfl hp1 (by omega) hsz ?_); intro v' w9 hv9 hg9)
    have O9 : w9.ownsRow w.heap.size 5 1 v' p.length (p.map vb) := by rw [Nat.zero_add, List.nil_append] at hv9; exact hv9
    have B9 : Below w.heap.size w w9 := B1.grown hg9 hsz (fun q hq => by cases hq; exact Nat.le_refl _)
    obtain ⟨g9, c9, rfl, hg, _⟩ := owns_formD O9 (by omega)
    have cj : w9.cell? ⟨g9, j, none⟩ = some (.int .u8 (((co p j).toNat : Nat) : Int)) := by
      rw [World.ownsRow.cellAt O9 j (by omega), List.getElem?_map, List.getElem?_eq_getElem hjl, co_lt hjl]
      rfl
    have fj : w9.frozen? ⟨g9, j, none⟩ = false := World.ownsRow.frozenAt O9 j
    obtain ⟨y0, hy0⟩ : ∃ y, Hid (y = co p j) := ⟨_, rfl⟩
    obtain ⟨y1, hy1⟩ : ∃ z, Hid (z = co p j ^^^ y) := ⟨_, rfl⟩
    have X : bits .xor .u8 (((co p j).toNat : Nat) : Int) ((y.toNat : Nat) : Int) = ((y1.toNat : Nat) : Int) := by rw [hy1.out]; exact xor_u8 _ _
    rw [← hy0.out] at cj X
    have FIN : Hid ((w9.setCell ⟨g9, j, none⟩ (.int .u8 ((y1.toNat : Nat) : Int))).drew.ownsRow w.heap.size 5 1 (.slice (some ⟨g9, 0, none⟩) p.length c9) p.length ((chB p at_ y).map vb) ∧ Below w.heap.size w (w9.setCell ⟨g9, j, none⟩ (.int .u8 ((y1.toNat : Nat) : Int))).drew) := by
      refine ⟨World.ownsRow.drew ?_, (B9.trans (set_below hg j _)).drew⟩
      have h3 := owns_set (j := j) O9 y1
      rw [hCh.out, ← hy1.out]
      rw [List.length_set] at h3
      exact h3
    have zp : ¬ p.length = 0 := by omega
    have zp' : ((p.length : Int) == 0) = false := beq_eq_false_iff_ne.2 (by omega)
    have jl1 : (j : Int) < (p.length : Int) := by omega
    have jl0 : (0 : Int) ≤ (j : Int) := by omega
    clear O9 B9 hv9 hg9 B1 O1 hp1 hp hCh hy0 hy1 hg hi hz0 hz1 hz2 hsz
    go_big_region
    go_wp2
    go_ret
    exact ⟨_, rfl, FIN.out⟩
  · obtain ⟨M, hM⟩ : ∃ M : Nat, at_ = (M : Int) := ⟨at_.toNat, by omega⟩
    have hjM : j = M % p.length := by rw [hj.out]; unfold atN; rw [if_neg hneg]; congr 1; omega
    have Tm : ((M : Int)).tmod (p.length : Int) = (j : Int) := by rw [hjM]; exact (Int.ofNat_tmod M p.length).symm
    subst hM
    clear hjM hat hj
    go_enter Tryz.func109, Tryz.ntmps109
    go_wp2_with (at_builtin; go_loud (refine wpList_append_rd _ rfl (.tmp 13) (.tmp 14) 32 rfl w.heap.size 5 i0 Tryz.underlying32 hi hz0 hz1 hz2 (.slice (some ⟨w.heap.size, 0, none⟩) 0 0) 0 [] rfl O1 (.slice aa p.length ca) p rfl hp1 (by omega) hsz ?_); intro v' w9 hv9 hg9)
    have O9 : w9.ownsRow w.heap.size 5 1 v' p.length (p.map vb) := by rw [Nat.zero_add, List.nil_append] at hv9; exact hv9
    have B9 : Below w.heap.size w w9 := B1.grown hg9 hsz (fun q hq => by cases hq; exact Nat.le_refl _)
    obtain ⟨g9, c9, rfl, hg, _⟩ := owns_formD O9 (by omega)
    have cj : w9.cell? ⟨g9, j, none⟩ = some (.int .u8 (((co p j).toNat : Nat) : Int)) := by
      rw [World.ownsRow.cellAt O9 j (by omega), List.getElem?_map, List.getElem?_eq_getElem hjl, co_lt hjl]
      rfl
    have fj : w9.frozen? ⟨g9, j, none⟩ = false := World.ownsRow.frozenAt O9 j
    obtain ⟨y0, hy0⟩ : ∃ y, Hid (y = co p j) := ⟨_, rfl⟩
    obtain ⟨y1, hy1⟩ : ∃ z, Hid (z = co p j ^^^ y) := ⟨_, rfl⟩
    have X : bits .xor .u8 (((co p j).toNat : Nat) : Int) ((y.toNat : Nat) : Int) = ((y1.toNat : Nat) : Int) := by rw [hy1.out]; exact xor_u8 _ _
    rw [← hy0.out] at cj X
    have FIN : Hid ((w9.setCell ⟨g9, j, none⟩ (.int .u8 ((y1.toNat : Nat) : Int))).drew.ownsRow w.heap.size 5 1 (.slice (some ⟨g9, 0, none⟩) p.length c9) p.length ((chB p (M : Int) y).map vb) ∧ Below w.heap.size w (w9.setCell ⟨g9, j, none⟩ (.int .u8 ((y1.toNat : Nat) : Int))).drew) := by
      refine ⟨World.ownsRow.drew ?_, (B9.trans (set_below hg j _)).drew⟩
      have h3 := owns_set (j := j) O9 y1
      rw [hCh.out, ← hy1.out]
      rw [List.length_set] at h3
      exact h3
    have zp : ¬ p.length = 0 := by omega
    have zp' : ((p.length : Int) == 0) = false := beq_eq_false_iff_ne.2 (by omega)
    have jl1 : (j : Int) < (p.length : Int) := by omega
    have jl0 : (0 : Int) ≤ (j : Int) := by omega
    clear O9 B9 hv9 hg9 B1 O1 hp1 hp hCh hy0 hy1 hg hi hz0 hz1 hz2 hsz
    go_big_region
    go_wp2
    go_ret
    exact ⟨_, rfl, FIN.out⟩
end Go.Proofs.YtgahaebfgmbckaaGreat.Gf

namespace Go.Proofs.YtgahaebfgmbckaaGreat.Gf
set_option linter.unusedVariables false
set_option linter.unusedSimpArgs false
open Go.RowKit
structure RefIn (w : World) (rb : Nat) (vl vw : Value) (Tl Tw : List TH) (H : Nat → Prop) (d : DkS) : Prop where
  c0 : w.cell? ⟨rb, 0, none⟩ = some (.int .i64 (d.s : Int))
  c1 : w.cell? ⟨rb, 1, none⟩ = some vl
  c2 : w.cell? ⟨rb, 2, none⟩ = some vw
  c3 : w.cell? ⟨rb, 3, none⟩ = some (.bool d.dead)
  f1 : w.frozen? ⟨rb, 1, none⟩ = false
  f2 : w.frozen? ⟨rb, 2, none⟩ = false
  f3 : w.frozen? ⟨rb, 3, none⟩ = false
  el : bareT Tl = heldL d.last d.s
  ew : bareT Tw = heldL d.wait d.s
  tl : ToldT w H vl Tl
  tw : ToldT w H vw Tw
  kl : CapOk vl
  kw : CapOk vw
  hr : H rb
  lt : ∀ k, H k → k < w.heap.size
  s2 : d.s ≤ 4096
def RefAt (w : World) (rb : Nat) (H : Nat → Prop) (d : DkS) : Prop := ∃ vl vw Tl Tw, RefIn w rb vl vw Tl Tw H d
def LeavesR (w : World) (rb : Nat) (H : Nat → Prop) (d' : DkS) (x : Value) (e : Ending) (w' : World) : Prop := e = .returned x ∧ RefAt w' rb H d' ∧ TurnG (fun k => k = rb) w w'
section
variable {w w' : World} {rb : Nat} {vl vw : Value} {Tl Tw : List TH} {H : Nat → Prop} {d : DkS}
theorem RefIn.len_l (h : RefIn w rb vl vw Tl Tw H d) : Tl.length ≤ 4096 := by
  rw [← bareT_length, h.el]
  exact Nat.le_trans (heldL_length _ _) h.s2
theorem RefIn.len_w (h : RefIn w rb vl vw Tl Tw H d) : Tw.length ≤ 4096 := by
  rw [← bareT_length, h.ew]
  exact Nat.le_trans (heldL_length _ _) h.s2
theorem RefIn.below (h : RefIn w rb vl vw Tl Tw H d) (hb : Below w.heap.size w w') : RefIn w' rb vl vw Tl Tw H d :=
  have l := h.lt rb h.hr
  ⟨(hb.cell (p := ⟨rb, 0, none⟩) l).trans h.c0, (hb.cell (p := ⟨rb, 1, none⟩) l).trans h.c1, (hb.cell (p := ⟨rb, 2, none⟩) l).trans h.c2, (hb.cell (p := ⟨rb, 3, none⟩) l).trans h.c3,
   (hb.frozen (p := ⟨rb, 1, none⟩) l).trans h.f1, (hb.frozen (p := ⟨rb, 2, none⟩) l).trans h.f2, (hb.frozen (p := ⟨rb, 3, none⟩) l).trans h.f3, h.el, h.ew, h.tl.below hb, h.tw.below hb, h.kl, h.kw, h.hr, fun k hk => Nat.lt_of_lt_of_le (h.lt k hk) hb.size, h.s2⟩
theorem RefAt.below (h : RefAt w rb H d) (hb : Below w.heap.size w w') : RefAt w' rb H d := by
  obtain ⟨vl, vw, Tl, Tw, h⟩ := h
  exact ⟨vl, vw, Tl, Tw, h.below hb⟩
theorem setR_grew (hr : H rb) (j : Nat) (v : Value) : Grew H w H (w.setCell ⟨rb, j, none⟩ v) := Grew.of_turn (Only.turnG ((Only.refl rb w).setCell j v) hr)
/-- the cells of the document's disk -/
theorem RefIn.setW (h : RefIn w rb vl vw Tl Tw H d) {v : Value} {T : List TH} {f : Int → Option (List UInt8)} (ht : ToldT w H v T) (hk : CapOk v) (he : bareT T = heldL f d.s) : RefIn (w.setCell ⟨rb, 2, none⟩ v) rb vl v Tl T H { d with wait := f } := by
  have g := setR_grew (w := w) h.hr 2 v
  have c2 := h.c2
  have f1 := h.f1
  have f2 := h.f2
  have f3 := h.f3
  refine ⟨?_, ?_, ?_, ?_, by simp [go_sem, f1], by simp [go_sem, f2], by simp [go_sem, f3], h.el, he, h.tl.grew g, ht.grew g, h.kl, hk, h.hr, fun k hk => by simpa using h.lt k hk, h.s2⟩
  · rw [← h.c0]; simp [go_sem]
  · rw [← h.c1]; simp [go_sem]
  · simp [go_sem, c2]
  · rw [← h.c3]; simp [go_sem]
theorem RefIn.setL (h : RefIn w rb vl vw Tl Tw H d) {v : Value} {T : List TH} {f : Int → Option (List UInt8)} (ht : ToldT w H v T) (hk : CapOk v) (he : bareT T = heldL f d.s) : RefIn (w.setCell ⟨rb, 1, none⟩ v) rb v vw T Tw H { d with last := f } := by
  have g := setR_grew (w := w) h.hr 1 v
  have c1 := h.c1
  have f1 := h.f1
  have f2 := h.f2
  have f3 := h.f3
  refine ⟨?_, ?_, ?_, ?_, by simp [go_sem, f1], by simp [go_sem, f2], by simp [go_sem, f3], he, h.ew, ht.grew g, h.tw.grew g, hk, h.kw, h.hr, fun k hk => by simpa using h.lt k hk, h.s2⟩
  · rw [← h.c0]; simp [go_sem]
  · simp [go_sem, c1]
  · rw [← h.c2]; simp [go_sem]
  · rw [← h.c3]; simp [go_sem]
theorem RefIn.setD (h : RefIn w rb vl vw Tl Tw H d) (x : Bool) : RefIn (w.setCell ⟨rb, 3, none⟩ (.bool x)) rb vl vw Tl Tw H { d with dead := x } := by
  have g := setR_grew (w := w) h.hr 3 (.bool x)
  have c3 := h.c3
  have f1 := h.f1
  have f2 := h.f2
  have f3 := h.f3
  refine ⟨?_, ?_, ?_, ?_, by simp [go_sem, f1], by simp [go_sem, f2], by simp [go_sem, f3], h.el, h.ew, h.tl.grew g, h.tw.grew g, h.kl, h.kw, h.hr, fun k hk => by simpa using h.lt k hk, h.s2⟩
  · rw [← h.c0]; simp [go_sem]
  · rw [← h.c1]; simp [go_sem]
  · rw [← h.c2]; simp [go_sem]
  · simp [go_sem, c3]
theorem told_nil (w : World) (H : Nat → Prop) : ToldT w H (.slice none 0 0) [] := ⟨Or.inl ⟨none, 0, rfl, rfl⟩, ApartG.nil _ _ _, fun t ht => by cases ht⟩
theorem cap_nil : CapOk (.slice none 0 0) := fun a n c e => by simp at e; obtain ⟨rfl, rfl, rfl⟩ := e; exact ⟨Nat.le_refl _, fun _ => rfl⟩
theorem turnR_set (j : Nat) (v : Value) : TurnG (fun k => k = rb) w (w.setCell ⟨rb, j, none⟩ v) := Only.turnG ((Only.refl rb w).setCell j v) rfl
theorem rfault_any (h : RefIn w rb vl vw Tl Tw H d) {a : Int} : Calls Tryz.prog 103 #[.pointer (some ⟨rb, 0, none⟩), .int .i64 a] w fun e w' => e = .returned (.int .i64 (faX d a)) ∧ w' = w := by
  have c0 := h.c0
  have c3 := h.c3
  clear h
  cases hd : d.dead with
  | true =>
    have e := faX_dead hd a
    rw [hd] at c3
    rw [e]
    clear e
    go_enter Tryz.func103, Tryz.ntmps103
    go_wp2
    go_ret
    exact ⟨rfl, rfl⟩
  | false =>
    rw [hd] at c3
    by_cases h0 : 0 ≤ a
    · have h0' : ¬ a < 0 := by omega
      by_cases h1 : a < (d.s : Int)
      · have e := faX_ok hd ⟨h0, h1⟩
        have h1' : ¬ a ≥ (d.s : Int) := by omega
        rw [e]
        clear e
        go_enter Tryz.func103, Tryz.ntmps103
        go_wp2
        go_ret
        exact ⟨rfl, rfl⟩
      · have e := faX_out hd (a := a) (fun h => h1 h.2)
        have h1' : a ≥ (d.s : Int) := by omega
        rw [e]
        clear e
        go_enter Tryz.func103, Tryz.ntmps103
        go_wp2
        go_ret
        exact ⟨rfl, rfl⟩
    · have e := faX_out hd (a := a) (fun h => h0 h.1)
      have h0' : a < 0 := by omega
      rw [e]
      clear e
      go_enter Tryz.func103, Tryz.ntmps103
      go_wp2
      go_ret
      exact ⟨rfl, rfl⟩
theorem rfail_any (h : RefIn w rb vl vw Tl Tw H d) : Calls Tryz.prog 89 #[.pointer (some ⟨rb, 0, none⟩)] w (LeavesR w rb H (faS d) (.tuple #[])) := by
  have I1 := h.setD true
  have I2 := I1.setL (told_nil _ H) cap_nil (f := noneI) (by rw [heldL_none]; rfl)
  have I3 := I2.setW (told_nil _ H) cap_nil (f := noneI) (by rw [heldL_none]; rfl)
  have FIN : Hid (RefAt (((w.setCell ⟨rb, 3, none⟩ (.bool true)).setCell ⟨rb, 1, none⟩ (.slice none 0 0)).setCell ⟨rb, 2, none⟩ (.slice none 0 0)) rb H (faS d) ∧ TurnG (fun k => k = rb) w (((w.setCell ⟨rb, 3, none⟩ (.bool true)).setCell ⟨rb, 1, none⟩ (.slice none 0 0)).setCell ⟨rb, 2, none⟩ (.slice none 0 0))) := ⟨⟨_, _, _, _, I3⟩, ((turnR_set 3 _).trans (turnR_set 1 _)).trans (turnR_set 2 _)⟩
  have c1 := h.c1
  have c2 := h.c2
  have c3 := h.c3
  have f1 := h.f1
  have f2 := h.f2
  have f3 := h.f3
  clear I1 I2 I3 h
  go_enter Tryz.func89, Tryz.ntmps89
  go_wp2
  go_end0
  exact ⟨rfl, FIN.out⟩
theorem rrepl_any (h : RefIn w rb vl vw Tl Tw H d) : Calls Tryz.prog 90 #[.pointer (some ⟨rb, 0, none⟩)] w (LeavesR w rb H (reS d) (.tuple #[])) := by
  have I1 := h.setD false
  have I2 := I1.setL (told_nil _ H) cap_nil (f := noneI) (by rw [heldL_none]; rfl)
  have I3 := I2.setW (told_nil _ H) cap_nil (f := noneI) (by rw [heldL_none]; rfl)
  have FIN : Hid (RefAt (((w.setCell ⟨rb, 3, none⟩ (.bool false)).setCell ⟨rb, 1, none⟩ (.slice none 0 0)).setCell ⟨rb, 2, none⟩ (.slice none 0 0)) rb H (reS d) ∧ TurnG (fun k => k = rb) w (((w.setCell ⟨rb, 3, none⟩ (.bool false)).setCell ⟨rb, 1, none⟩ (.slice none 0 0)).setCell ⟨rb, 2, none⟩ (.slice none 0 0))) := ⟨⟨_, _, _, _, I3⟩, ((turnR_set 3 _).trans (turnR_set 1 _)).trans (turnR_set 2 _)⟩
  have c1 := h.c1
  have c2 := h.c2
  have c3 := h.c3
  have f1 := h.f1
  have f2 := h.f2
  have f3 := h.f3
  clear I1 I2 I3 h
  go_enter Tryz.func90, Tryz.ntmps90
  go_wp2
  go_end0
  exact ⟨rfl, FIN.out⟩
end
theorem rnew_any {w : World} {n : Int} (h1 : 1 ≤ n) (h2 : n ≤ 4096) : Calls Tryz.prog 15 #[.int .i64 n] w fun e w' => e = .returned (.tuple #[.pointer (some ⟨w.heap.size, 0, none⟩), .int .i64 0]) ∧ w' = w.alloc (.cells #[.int .i64 n, .slice none 0 0, .slice none 0 0, .bool false] 74) := by
  have g1 : ¬ n < 1 := by omega
  have g2 : ¬ n > 4096 := by omega
  go_enter Tryz.func15, Tryz.ntmps15
  go_wp2
  refine bodyPost_ret (v := .tuple #[.pointer (some ⟨w.heap.size, 0, none⟩), .int .i64 0]) (by simp [results, Tryz.results15, go_sem]) rfl ?_
  exact ⟨rfl, rfl⟩
end Go.Proofs.YtgahaebfgmbckaaGreat.Gf
