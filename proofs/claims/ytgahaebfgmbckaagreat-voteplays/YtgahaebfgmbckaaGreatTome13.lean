/- TEXTS JOINED: DkLay, DkKeys, DkBy. -/
import Derived.Shelf.SlIterI.Nil
import Derived.Shelf.SortM.Plain
import Derived.Shelf.SortM.SortNone
import Derived.Ground.GgzProg
import Derived.Ground.SlgmProg
import Derived.Test.YtgahaebfgmbckaaGreatTome11
namespace Go.Proofs.YtgahaebfgmbckaaGreat.Gf
open Go.RowKit Go.Maps Go.Sort Go.Shelf
def laykeysA_ren : Go.Shelf.Ren := ⟨fun | 7 => 111 | 10 => 118 | n => n, fun | 23 => 94 | 26 => 3 | 3 => 32 | 28 => 148 | 0 => 0 | 27 => 147 | 33 => 114 | 4 => 4 | n => n, fun | n => n⟩
theorem laykeysA : Go.Proofs.SlLaysZI.n7 Tryz.prog laykeysA_ren where
  mixed := by kernel_rfl
  f7 := ⟨ "maps.Keys[map[int][]byte,int,[]byte]", by decide, Tryz.func111.trans (congrArg some (by kernel_rfl))⟩
  f10 := ⟨ "maps.Keys[map[int][]byte,int,[]byte]$1", by decide, Tryz.func118.trans (congrArg some (by kernel_rfl))⟩
  t0 := Tryz.underlying0
  a0 := Tryz.isAgg0
  z0 := Tryz.sizeOf0
  v0 := Tryz.zeroValue0
  t4 := Tryz.underlying4
  a4 := Tryz.isAgg4
  z4 := Tryz.sizeOf4
  v4 := Tryz.zeroValue4
  t23 := Tryz.underlying94
  a23 := Tryz.isAgg94
  z23 := Tryz.sizeOf94
  v23 := Tryz.zeroValue94
  t26 := Tryz.underlying3
  a26 := Tryz.isAgg3
  z26 := Tryz.sizeOf3
  v26 := Tryz.zeroValue3
  t27 := Tryz.underlying147
  a27 := Tryz.isAgg147
  z27 := Tryz.sizeOf147
  v27 := Tryz.zeroValue147
  t28 := Tryz.underlying148
  a28 := Tryz.isAgg148
  z28 := Tryz.sizeOf148
  v28 := Tryz.zeroValue148
  t33 := Tryz.underlying114
  a33 := Tryz.isAgg114
  z33 := Tryz.sizeOf114
  v33 := Tryz.zeroValue114
def laysortedA_ren : Go.Shelf.Ren := ⟨fun | 6 => 110 | 8 => 116 | 9 => 117 | 11 => 120 | 13 => 122 | 12 => 121 | 23 => 132 | 24 => 133 | 14 => 123 | 15 => 124 | 16 => 125 | 17 => 126 | 18 => 127 | 19 => 128 | 20 => 129 | 21 => 130 | 22 => 131 | 25 => 134 | 26 => 135 | 27 => 136 | 28 => 137 | 29 => 138 | 30 => 96 | 31 => 139 | n => n, fun | 26 => 3 | 28 => 148 | 24 => 59 | 0 => 0 | 3 => 3 | 37 => 116 | 48 => 115 | 50 => 168 | 4 => 4 | 40 => 159 | 39 => 158 | 45 => 164 | 5 => 5 | 9 => 9 | 51 => 169 | 55 => 173 | 57 => 175 | 58 => 176 | 33 => 114 | n => n, fun | n => n⟩
theorem laysortedA : Go.Proofs.SlLaysZI.n6 Tryz.prog laysortedA_ren where
  mixed := by kernel_rfl
  f6 := ⟨ "slices.Sorted[int]", by decide, Tryz.func110.trans (congrArg some (by kernel_rfl))⟩
  f8 := ⟨ "slices.Collect[int]", by decide, Tryz.func116.trans (congrArg some (by kernel_rfl))⟩
  f11 := ⟨ "slices.AppendSeq[[]int,int]", by decide, Tryz.func120.trans (congrArg some (by kernel_rfl))⟩
  t0 := Tryz.underlying0
  a0 := Tryz.isAgg0
  z0 := Tryz.sizeOf0
  v0 := Tryz.zeroValue0
  t24 := Tryz.underlying59
  a24 := Tryz.isAgg59
  z24 := Tryz.sizeOf59
  v24 := Tryz.zeroValue59
  t26 := Tryz.underlying3
  a26 := Tryz.isAgg3
  z26 := Tryz.sizeOf3
  v26 := Tryz.zeroValue3
  t28 := Tryz.underlying148
  a28 := Tryz.isAgg148
  z28 := Tryz.sizeOf148
  v28 := Tryz.zeroValue148
  i26 := by kernel_rfl
def laysortA_ren : Go.Shelf.Ren := ⟨fun | 5 => 117 | 8 => 122 | 7 => 121 | 19 => 132 | 20 => 133 | 10 => 123 | 11 => 124 | 12 => 125 | 13 => 126 | 14 => 127 | 15 => 128 | 16 => 129 | 17 => 130 | 18 => 131 | 30 => 134 | 31 => 135 | 32 => 136 | 33 => 137 | 34 => 138 | 35 => 96 | 40 => 139 | n => n, fun | 23 => 59 | 25 => 3 | 3 => 3 | 32 => 116 | 22 => 59 | 0 => 0 | 44 => 115 | 46 => 168 | 4 => 4 | 36 => 159 | 35 => 158 | 41 => 164 | 5 => 5 | 9 => 9 | 53 => 169 | 57 => 173 | 63 => 175 | 64 => 176 | n => n, fun | n => n⟩
theorem laysortA : Go.Proofs.SlLaysM.n5 Tryz.prog laysortA_ren where
  mixed := by kernel_rfl
  f5 := ⟨ "slices.Sort[[]int,int]", by decide, Tryz.func117.trans (congrArg some (by kernel_rfl))⟩
  f7 := ⟨ "slices.pdqsortOrdered[int]", by decide, Tryz.func121.trans (congrArg some (by kernel_rfl))⟩
  f8 := Tryz.func122.trans (congrArg some (by kernel_rfl))
  f10 := ⟨ "slices.insertionSortOrdered[int]", by decide, Tryz.func123.trans (congrArg some (by kernel_rfl))⟩
  f11 := ⟨ "slices.heapSortOrdered[int]", by decide, Tryz.func124.trans (congrArg some (by kernel_rfl))⟩
  f12 := ⟨ "slices.breakPatternsOrdered[int]", by decide, Tryz.func125.trans (congrArg some (by kernel_rfl))⟩
  f13 := ⟨ "slices.choosePivotOrdered[int]", by decide, Tryz.func126.trans (congrArg some (by kernel_rfl))⟩
  f14 := ⟨ "slices.reverseRangeOrdered[int]", by decide, Tryz.func127.trans (congrArg some (by kernel_rfl))⟩
  f15 := ⟨ "slices.partialInsertionSortOrdered[int]", by decide, Tryz.func128.trans (congrArg some (by kernel_rfl))⟩
  f16 := ⟨ "cmp.Less[int]", by decide, Tryz.func129.trans (congrArg some (by kernel_rfl))⟩
  f17 := ⟨ "slices.partitionEqualOrdered[int]", by decide, Tryz.func130.trans (congrArg some (by kernel_rfl))⟩
  f18 := ⟨ "slices.partitionOrdered[int]", by decide, Tryz.func131.trans (congrArg some (by kernel_rfl))⟩
  f19 := Tryz.func132.trans (congrArg some (by kernel_rfl))
  f20 := Tryz.func133.trans (congrArg some (by kernel_rfl))
  f30 := ⟨ "slices.siftDownOrdered[int]", by decide, Tryz.func134.trans (congrArg some (by kernel_rfl))⟩
  f31 := Tryz.func135.trans (congrArg some (by kernel_rfl))
  f32 := Tryz.func136.trans (congrArg some (by kernel_rfl))
  f33 := ⟨ "slices.medianAdjacentOrdered[int]", by decide, Tryz.func137.trans (congrArg some (by kernel_rfl))⟩
  f34 := ⟨ "slices.medianOrdered[int]", by decide, Tryz.func138.trans (congrArg some (by kernel_rfl))⟩
  f35 := ⟨ "cmp.isNaN[int]", by decide, Tryz.func96.trans (congrArg some (by kernel_rfl))⟩
  f40 := ⟨ "slices.order2Ordered[int]", by decide, Tryz.func139.trans (congrArg some (by kernel_rfl))⟩
  t0 := Tryz.underlying0
  a0 := Tryz.isAgg0
  z0 := Tryz.sizeOf0
  v0 := Tryz.zeroValue0
  t3 := Tryz.underlying3
  a3 := Tryz.isAgg3
  z3 := Tryz.sizeOf3
  v3 := Tryz.zeroValue3
  t4 := Tryz.underlying4
  a4 := Tryz.isAgg4
  z4 := Tryz.sizeOf4
  v4 := Tryz.zeroValue4
  t5 := Tryz.underlying5
  a5 := Tryz.isAgg5
  z5 := Tryz.sizeOf5
  v5 := Tryz.zeroValue5
  t9 := Tryz.underlying9
  a9 := Tryz.isAgg9
  z9 := Tryz.sizeOf9
  v9 := Tryz.zeroValue9
  t22 := Tryz.underlying59
  a22 := Tryz.isAgg59
  z22 := Tryz.sizeOf59
  v22 := Tryz.zeroValue59
  t23 := Tryz.underlying59
  a23 := Tryz.isAgg59
  z23 := Tryz.sizeOf59
  v23 := Tryz.zeroValue59
  t25 := Tryz.underlying3
  a25 := Tryz.isAgg3
  z25 := Tryz.sizeOf3
  v25 := Tryz.zeroValue3
  t32 := Tryz.underlying116
  a32 := Tryz.isAgg116
  z32 := Tryz.sizeOf116
  v32 := Tryz.zeroValue116
  t35 := Tryz.underlying158
  a35 := Tryz.isAgg158
  z35 := Tryz.sizeOf158
  v35 := Tryz.zeroValue158
  t36 := Tryz.underlying159
  a36 := Tryz.isAgg159
  z36 := Tryz.sizeOf159
  v36 := Tryz.zeroValue159
  t41 := Tryz.underlying164
  a41 := Tryz.isAgg164
  z41 := Tryz.sizeOf164
  v41 := Tryz.zeroValue164
  t44 := Tryz.underlying115
  a44 := Tryz.isAgg115
  z44 := Tryz.sizeOf115
  v44 := Tryz.zeroValue115
  t46 := Tryz.underlying168
  a46 := Tryz.isAgg168
  z46 := Tryz.sizeOf168
  v46 := Tryz.zeroValue168
  t53 := Tryz.underlying169
  a53 := Tryz.isAgg169
  z53 := Tryz.sizeOf169
  v53 := Tryz.zeroValue169
  t57 := Tryz.underlying173
  a57 := Tryz.isAgg173
  z57 := Tryz.sizeOf173
  v57 := Tryz.zeroValue173
  t63 := Tryz.underlying175
  a63 := Tryz.isAgg175
  z63 := Tryz.sizeOf175
  v63 := Tryz.zeroValue175
  t64 := Tryz.underlying176
  a64 := Tryz.isAgg176
  z64 := Tryz.sizeOf176
  v64 := Tryz.zeroValue176
end Go.Proofs.YtgahaebfgmbckaaGreat.Gf

namespace Go.Proofs.YtgahaebfgmbckaaGreat.Gf
set_option linter.unusedVariables false
set_option linter.unusedSimpArgs false
open Go.RowKit Go.Maps Go.Sort Go.Shelf
/-- the keys, rising -/
def keysL (f : Int → Option Value) (S : Nat) : List Int := ((List.range S).map fun i : Nat => (i : Int)).filter fun x => (f x).isSome
theorem keysL_mem {f : Int → Option Value} {S : Nat} {x : Int} : x ∈ keysL f S ↔ 0 ≤ x ∧ x < (S : Int) ∧ (f x).isSome = true := by
  unfold keysL
  rw [List.mem_filter, List.mem_map]
  constructor
  · rintro ⟨⟨i, hi, rfl⟩, h⟩
    rw [List.mem_range] at hi
    exact ⟨by omega, by omega, h⟩
  · rintro ⟨h0, h1, h2⟩
    exact ⟨⟨x.toNat, List.mem_range.2 (by omega), by omega⟩, h2⟩
theorem keysL_rising (f : Int → Option Value) (S : Nat) : (keysL f S).Pairwise (· < ·) := by
  unfold keysL
  refine List.Pairwise.filter _ ?_
  rw [List.pairwise_map]
  exact List.pairwise_lt_range.imp (fun h => by omega)
theorem keysL_nodup (f : Int → Option Value) (S : Nat) : (keysL f S).Nodup := (keysL_rising f S).imp (fun h => by omega)
theorem keysL_length (f : Int → Option Value) (S : Nat) : (keysL f S).length ≤ S := by
  unfold keysL
  have := List.length_filter_le (fun x => (f x).isSome) ((List.range S).map fun i : Nat => (i : Int))
  simpa using this
theorem sorted_keys {f : Int → Option Value} {S : Nat} {ss : List Int} (h : ss.Perm (keysL f S)) : ss.mergeSort (fun x y => decide (x ≤ y)) = keysL f S := by
  have tr : ∀ a b c : Int, decide (a ≤ b) = true → decide (b ≤ c) = true → decide (a ≤ c) = true := fun a b c h1 h2 => by simp only [decide_eq_true_eq] at *; omega
  have tO : ∀ a b : Int, (decide (a ≤ b) || decide (b ≤ a)) = true := fun a b => by simp only [Bool.or_eq_true, decide_eq_true_eq]; omega
  refine List.Perm.eq_of_pairwise (le := fun a b => decide (a ≤ b) = true) (fun a b _ _ h1 h2 => ?_) (List.pairwise_mergeSort tr tO ss) ((keysL_rising f S).imp (fun h => decide_eq_true (by omega))) ((List.mergeSort_perm ss _).trans h)
  simp only [decide_eq_true_eq] at h1 h2
  omega
theorem sortsA (m : Nat) : AnyZI.SortsIn Tryz.prog laysortedA_ren Fence.wide m :=
  ⟨fun blk off cap ss W hH hblk hsz => callsIn_wide.2 (AnyM.slices_Sort_int laysortA blk off cap ss W hH hblk hsz),
   fun p cap W => callsIn_wide.2 (AnyM.slices_Sort_int_none laysortA p cap W)⟩
theorem keys_call (mb : Option Nat) (W : World) : Calls Tryz.prog 111 #[.map mb] W fun e w' => e = .returned (.func (.func 118) #[] #[.pointer (some ⟨W.heap.size, 0, none⟩)]) ∧ w' = W.alloc (.cells #[.map mb] 94) :=
  (callsIn_wide (n := 5)).1 (AnyZI.keys_in laykeysA Fence.wide 5 trivial rfl mb W)
theorem sorted_call {w : World} {b S : Nat} {f : Int → Option Value} (h : MapI Tryz.prog 3 w b S f) (hS : S ≤ 4096) :
    Calls Tryz.prog 110 #[.func (.func 118) #[] #[.pointer (some ⟨w.heap.size, 0, none⟩)]] (w.alloc (.cells #[.map (some b)] 94)) fun e w' => ∃ v, e = .returned v ∧ w'.ownsRow w.heap.size 3 1 v (keysL f S).length ((keysL f S).map encZ) ∧ Below w.heap.size w w' := by
  have hbl := h.lt
  obtain ⟨D0, hown, hk, hf⟩ := h
  obtain ⟨es, hE, hp, hl⟩ := hown.entries keyed_int
  have hkI : ∀ p ∈ es, ∃ x, p.1 = .int .i64 x := by
    intro p hp1
    obtain ⟨x, e, _⟩ := hk p.1 (by
      rw [hE, Maps.has_eq, List.any_eq_true]
      exact ⟨p, hp1, WideAt.sameKey_self (hl p hp1)⟩)
    exact ⟨x, e⟩
  have hperm : (keysL f S).Perm (intKeys D0) := by
    rw [hE]
    refine perm_intKeys hp hkI (keysL_nodup f S) fun x => ?_
    rw [← hE, keysL_mem]
    rcases hf x with ⟨h1, h2⟩ | ⟨v, h1, h2, _⟩
    · rw [h1, h2]; simp
    · rw [h2, h1]
      obtain ⟨y, e, hy⟩ := hk _ h2
      simp at e
      subst e
      simp [hy]
  have hsz : Maps.size D0 ≤ 4096 := Nat.le_trans (by
    obtain ⟨es', clock, hb, F, hs, rfl⟩ := hown
    simp [Maps.size, length_sorted]
    exact hs) hS
  have hseq : SeqGives Fence.wide 2 Tryz.prog 118 #[.pointer (some ⟨w.heap.size, 0, none⟩)] encZ (fun ss => ss.Perm (intKeys D0)) (Maps.size D0) (w.alloc (.cells #[.map (some b)] 94)) :=
    AnyZI.keys_gives (ρ := laykeysA_ren) { laykeysA with } Fence.wide _ trivial rfl (by omega) w.heap.size b S D0 _ (by simp) (by simp) (by
      obtain ⟨es, clock, hb, Ft, hs, hD⟩ := hown
      exact ⟨es, clock, (Below.heap_alloc _ _ b hbl).trans hb, Ft, hs, hD⟩)
  have cS := AnyZI.sorted_in laysortedA Fence.wide 5 trivial trivial trivial trivial rfl (by omega) (sortsA _) (enters_of Tryz.func117 (by kernel_rfl) rfl) 118 #[.pointer (some ⟨w.heap.size, 0, none⟩)] trivial (enters_of Tryz.func118 (by kernel_rfl) rfl) _ _ (by unfold maxLen; omega) (by omega) _ hseq
  refine (Calls.mono ((callsIn_wide (n := 5)).1 cS) ?_)
  rintro e w' ⟨v, ss, rfl, hS, hrow, hnil, hb⟩
  refine ⟨v, rfl, ?_, ((Below.refl _ w).alloc (Nat.le_refl _) _).trans (hb.mono (by simp))⟩
  have hp2 := hS.trans hperm.symm
  have e1 := sorted_keys hp2
  rw [e1, hp2.length_eq] at hrow
  exact ownsRow_base hrow (by simp)
end Go.Proofs.YtgahaebfgmbckaaGreat.Gf

namespace Go.Proofs.YtgahaebfgmbckaaGreat.Gf
set_option linter.unusedVariables false
set_option linter.unusedSimpArgs false
open Go.RowKit
/-- what is held, with the slices of its bytes -/
abbrev TH := Int × List UInt8 × Value
def cellsT (T : List TH) : List Value := T.flatMap fun t => [.int .i64 t.1, t.2.2]
def bareT (T : List TH) : List (Int × List UInt8) := T.map fun t => (t.1, t.2.1)
theorem cellsT_length (T : List TH) : (cellsT T).length = T.length * 2 := by
  unfold cellsT
  induction T with
  | nil => rfl
  | cons t T ih => simp [List.flatMap_cons, ih]; omega
theorem cellsT_snoc (T : List TH) (t : TH) : cellsT (T ++ [t]) = cellsT T ++ [.int .i64 t.1, t.2.2] := by unfold cellsT; simp
structure OwnT (w : World) (base : Nat) (v : Value) (T : List TH) : Prop where
  row : w.ownsRow base 112 2 v T.length (cellsT T)
  each : ∀ t ∈ T, w.ownsRow base 5 1 t.2.2 t.2.1.length (t.2.1.map vb)
/-- a list of what is held, in memory of one's own -/
def OwnH (w : World) (base : Nat) (v : Value) (L : List (Int × List UInt8)) : Prop := ∃ T, bareT T = L ∧ OwnT w base v T
theorem info_held : (Tryz.prog.info? 112).map (fun i => (i.zero, i.size, i.bytes)) = some (some (.agg #[.int .i64 0, .slice none 0 0]), 2, 32) := by kernel_rfl
theorem info_parts2 {t : Nat} {a : Value} {b c : Nat} (h : (Tryz.prog.info? t).map (fun i => (i.zero, i.size, i.bytes)) = some (some a, b, c)) : ∃ i, Tryz.prog.info? t = some i ∧ i.zero = some a ∧ i.size = b ∧ i.bytes = c := by
  cases hi : Tryz.prog.info? t with
  | none => rw [hi] at h; cases h
  | some i => rw [hi] at h; simp at h; exact ⟨i, rfl, h.1, h.2.1, h.2.2⟩
theorem heldL_keys (f : Int → Option (List UInt8)) (B C : Int → Nat) (S : Nat) : heldL f S = (keysL (valI f B C) S).map fun x => (x, (f x).getD []) := by
  induction S with
  | zero => rfl
  | succ S ih =>
    rw [heldL_succ, ih]
    unfold keysL
    rw [List.range_succ, List.map_append, List.filter_append, List.map_append]
    congr 1
    unfold valI
    cases h : f (S : Int) <;> simp [h]
theorem keys_some {f : Int → Option (List UInt8)} {B C : Int → Nat} {S k : Nat} (h : k < (keysL (valI f B C) S).length) : ∃ p, f ((keysL (valI f B C) S).getD k 0) = some p := by
  have h1 : (keysL (valI f B C) S).getD k 0 ∈ keysL (valI f B C) S := by
    rw [show (keysL (valI f B C) S).getD k 0 = (keysL (valI f B C) S)[k] by simp [List.getD, h]]
    exact List.getElem_mem h
  have h2 := (keysL_mem.1 h1).2.2
  unfold valI at h2
  cases hf : f ((keysL (valI f B C) S).getD k 0) with
  | none => unfold valI at hf; rw [hf] at h2; cases h2
  | some p => exact ⟨p, rfl⟩
section
variable {w : World}
theorem row_at {base e size n : Nat} {v : Value} {xs : List Value} (h : w.ownsRow base e size v n xs) {g : Nat} (hg : v.ownBlock = some g) : base ≤ g ∧ g < w.heap.size ∧ ∃ cur, w.heap[g]? = some (.cells cur e (0, 0)) := by
  obtain ⟨h0, ⟨h, _⟩ | ⟨g', cap, cur, hv, hg', hh, r⟩⟩ := h
  · rw [h] at hg; cases hg
  · rw [hv] at hg
    cases hg
    exact ⟨hg', (Array.getElem?_eq_some_iff.1 hh).1, cur, hh⟩
theorem owns_slice {base e size n : Nat} {v : Value} {xs : List Value} (h : w.ownsRow base e size v n xs) : ∃ a c, v = .slice a n c := by
  obtain ⟨h0, ⟨h, e⟩ | ⟨g', cap, cur, hv, hg', hh, r⟩⟩ := h
  · exact ⟨none, 0, by rw [h, e]⟩
  · exact ⟨_, _, hv⟩
theorem owns_low {base base' e size n : Nat} {v : Value} {xs : List Value} (h : w.ownsRow base e size v n xs) (hb : base' ≤ base) : w.ownsRow base' e size v n xs := by
  obtain ⟨h0, h | ⟨g, cap, cur, hv, hg, r⟩⟩ := h
  · exact ⟨h0, Or.inl h⟩
  · exact ⟨h0, Or.inr ⟨g, cap, cur, hv, Nat.le_trans hb hg, r⟩⟩
theorem owns_after {base e size n : Nat} {v : Value} {xs : List Value} {w' : World} (h : w.ownsRow base e size v n xs) (hb : Below w.heap.size w w') : w'.ownsRow base e size v n xs :=
  owns_block h (fun g hg => hb.block g (row_at h hg).2.1)
theorem OwnT.after {base : Nat} {v : Value} {T : List TH} {w' : World} (h : OwnT w base v T) (hb : Below w.heap.size w w') : OwnT w' base v T := ⟨owns_after h.row hb, fun t ht => owns_after (h.each t ht) hb⟩
theorem OwnT.snoc {base : Nat} {vl v : Value} {T : List TH} {x : Int} {p : List UInt8} (h : OwnT w base vl T) (hr : w.ownsRow base 5 1 v p.length (p.map vb)) {v' : Value} {w' : World}
    (h' : w'.ownsRow base 112 2 v' (T.length + 1) (cellsT T ++ [.int .i64 x, v])) (hg : (w.alloc (.cells #[.int .i64 x, v] 112)).grownBy w' vl.ownBlock) : OwnT w' base v' (T ++ [(x, p, v)]) := by
  have key : ∀ {v2 : Value} {q : List UInt8}, w.ownsRow base 5 1 v2 q.length (q.map vb) → w'.ownsRow base 5 1 v2 q.length (q.map vb) := by
    intro v2 q h2
    refine owns_block h2 (fun g hg2 => ?_)
    obtain ⟨_, hl, cur, hc⟩ := row_at h2 hg2
    refine (hg.block g (by simp; omega) (fun e => ?_)).trans (Below.heap_alloc w _ g hl)
    obtain ⟨_, _, cur', hc'⟩ := row_at h.row e.symm
    rw [hc] at hc'
    simp at hc'
  refine ⟨?_, fun t ht => ?_⟩
  · rw [cellsT_snoc, List.length_append]
    exact h'
  · rcases List.mem_append.1 ht with h1 | h1
    · exact key (h.each t h1)
    · simp at h1
      subst h1
      exact key hr
theorem bareT_snoc (T : List TH) (x : Int) (p : List UInt8) (v : Value) : bareT (T ++ [(x, p, v)]) = bareT T ++ [(x, p)] := by unfold bareT; simp
set_option maxRecDepth 100000 in
set_option maxHeartbeats 1000000 in
theorem by_any {m S : Nat} {f : Int → Option (List UInt8)} {B C : Int → Nat} (h : MapI Tryz.prog 3 w m S (valI f B C)) (hf : InS S f) (hS : S ≤ 4096) (hr : ∀ x p, f x = some p → Rd w (.slice (some ⟨B x, 0, none⟩) p.length (C x)) p) :
    Calls Tryz.prog 93 #[.map (some m)] w fun e w' => ∃ v, e = .returned v ∧ OwnH w' w.heap.size v (heldL f S) ∧ Below w.heap.size w w' := by
  have K1 := keys_call (some m) w
  have K2 := sorted_call h hS
  go_enter Tryz.func93, Tryz.ntmps93
  go_wp2_with fail
  refine K1.mono ?_
  rintro _ wq ⟨rfl, hwq⟩
  rw [hwq]
  clear hwq wq K1
  go_wp2_with fail
  refine K2.mono ?_
  rintro _ w1 ⟨v1, rfl, O1, B1⟩
  clear K2
  obtain ⟨i0, hi, hz0, hz1, hz2⟩ := info_parts2 info_held
  obtain ⟨ka, kc, rfl⟩ := owns_slice O1
  obtain ⟨Ks, hKs⟩ : ∃ Ks, Ks = keysL (valI f B C) S := ⟨_, rfl⟩
  have hKl : Ks.length ≤ 4096 := by rw [hKs]; exact Nat.le_trans (keysL_length _ _) hS
  have hKm : ∀ k, k < Ks.length → ∃ p, f (Ks.getD k 0) = some p := fun k hk => by rw [hKs] at hk ⊢; exact keys_some hk
  have hFin : Hid (Ks.map (fun x => (x, (f x).getD [])) = heldL f S) := by
    show _ = _
    rw [heldL_keys f B C S, ← hKs]
  rw [← hKs] at O1 ⊢
  clear hKs
  have START : Hid (∃ T, bareT T = (Ks.take 0).map (fun x => (x, (f x).getD [])) ∧ OwnT w1 w1.heap.size (.slice none 0 0) T ∧ Below w1.heap.size w1 w1) := ⟨[], rfl, ⟨⟨rfl, Or.inl ⟨rfl, rfl⟩⟩, fun t ht => by cases ht⟩, Below.refl _ _⟩
  go_wp2
  go_loopw [3, 10] (fun vl i wr => ∃ k : Nat, k ≤ Ks.length ∧ i = .int .i64 (k : Int) ∧ ∃ T, bareT T = (Ks.take k).map (fun x => (x, (f x).getD [])) ∧ OwnT wr w1.heap.size vl T ∧ Below w1.heap.size w1 wr) (fun _ i _ => Ks.length - (intOf i).toNat)
  case atStart => exact ⟨0, Nat.zero_le _, rfl, START.out⟩
  case round =>
    obtain ⟨k, hk, rfl, T, hT, hO, hB⟩ := hrel
    clear START
    obtain ⟨la, lc, rfl⟩ := owns_slice hO.row
    by_cases hlt : k < Ks.length
    · have hlt' : (k : Int) < (Ks.length : Int) := by omega
      have BW : Below w.heap.size w wr := B1.trans (hB.mono B1.size)
      obtain ⟨x, hx⟩ : ∃ x, x = Ks.getD k 0 := ⟨_, rfl⟩
      obtain ⟨p, hp⟩ := hKm k hlt
      rw [← hx] at hp
      have hpx := hf x p hp
      have hwx : (Lit.int .i64 x).wf = true := by simp [Lit.wf, IntKind.min, IntKind.max, IntKind.signed, IntKind.bits]; omega
      obtain ⟨kg, kc', e1, _, OK⟩ := owns_formD (owns_after O1 hB) (by omega : Ks.length ≠ 0)
      obtain ⟨rfl, rfl⟩ : ka = some ⟨kg, 0, none⟩ ∧ kc = kc' := by simpa using e1
      have ck : wr.cell? ⟨kg, k, none⟩ = some (.int .i64 x) := by
        have := World.ownsRow.cellAt OK k (by omega)
        rw [this, List.getElem?_map, List.getElem?_eq_getElem hlt, hx]
        simp [List.getD, hlt]
      have LK := (h.below BW).look keyed_int under_map (zero_bytes wr) (key_int hwx)
      have e2 : valI f B C x = some (.slice (some ⟨B x, 0, none⟩) p.length (C x)) := by unfold valI; rw [hp]; rfl
      rw [e2] at LK
      simp only [Option.getD_some] at LK
      have KC := bclone_own ((hr x p hp).below BW) (by omega)
      have hTl : Hid (T.length = k) := by
        have := congrArg List.length hT
        simp [bareT] at this
        show T.length = k
        omega
      have hT1 : T.length + 1 ≤ 5000 := by have := hTl.out; omega
      have HT : Hid (bareT T ++ [(x, p)] = (Ks.take (k + 1)).map (fun x => (x, (f x).getD []))) := by
        show _ = _
        rw [hT, List.take_add_one, List.getElem?_eq_getElem hlt, List.map_append]
        congr 1
        have : Ks[k] = x := by rw [hx]; simp [List.getD, hlt]
        simp [this, hp]
      clear e1 e2 OK O1 hx hpx hwx hp h hr hf hKm hT hS hFin B1
      go_wp2_with fail
      refine KC.mono ?_
      rintro _ w2 ⟨v2, rfl, R2, B2⟩
      have hB2 : Below w1.heap.size w1 w2 := hB.trans (B2.mono hB.size)
      have hO2 := hO.after B2
      have R2' := owns_low R2 hB.size
      have hsz : w1.heap.size ≤ (w2.alloc (.cells #[.int .i64 x, v2] 112)).heap.size := by simp; exact Nat.le_trans hB2.size (by omega)
      have hO3 := owns_after hO2.row ((Below.refl _ w2).alloc (Nat.le_refl _) (.cells #[.int .i64 x, v2] 112))
      obtain ⟨va, vc, rfl⟩ := owns_slice R2
      clear KC ck LK hO B2 R2 hB BW
      have hnews : ∀ j u, [Value.int .i64 x, .slice va p.length vc][j]? = some u → (w2.alloc (.cells #[.int .i64 x, .slice va p.length vc] 112)).cell? ((⟨w2.heap.size, 0, none⟩ : Addr).add j) = some u := by
        intro j u hj
        rw [add_at, Nat.zero_add, World.cell?_alloc_new]
        rw [← hj, ← Array.getElem?_toList]
      have hone : ∀ u ∈ [Value.int .i64 x, .slice va p.length vc], u.oneCell' = true := by
        intro u hu
        simp at hu
        rcases hu with rfl | rfl <;> rfl
      have h63 : T.length + 1 ≤ maxLen := by unfold maxLen; omega
      have hby : (T.length + 1) * 32 ≤ 140737488355328 := by omega
      go_wp2_with (at_builtin; go_loud (refine wpList_append_own_at _ rfl (.tmp 14) (.tmp 21) 71 rfl w1.heap.size 112 i0 _ 2 32 Tryz.underlying71 hi hz0 hz1 hz2 rfl (by decide) (.slice la T.length lc) T.length (cellsT T) rfl hO3 ⟨w2.heap.size, 0, none⟩ 1 1 [.int .i64 x, .slice va p.length vc] rfl rfl hnews hone h63 hby hsz ?_); intro v' w9 hv9 hg9 _ _)
      have hO9 := OwnT.snoc hO2 R2' hv9 hg9
      have E2 : Hid (∃ T, bareT T = (Ks.take (k + 1)).map (fun x => (x, (f x).getD [])) ∧ OwnT w9 w1.heap.size v' T ∧ Below w1.heap.size w1 w9) := by
        refine ⟨_, ?_, hO9, ?_⟩
        · rw [bareT_snoc]; exact HT.out
        · exact (hB2.alloc hB2.size _).grown hg9 (by simp; exact Nat.le_trans hB2.size (by omega)) (fun q hq => (row_at hO2.row hq).1)
      clear hO9 hv9 hg9 hnews hone hO3 R2' hO2 hB2 HT hi hz0 hz1 hz2
      go_wp2
      go_roundw
      case rel => exact ⟨k + 1, by omega, by go_num, E2.out⟩
      case measure => simp [intOf]; omega
    · have hlt' : ¬ (k : Int) < (Ks.length : Int) := by omega
      have hk' : k = Ks.length := by omega
      rw [hk', List.take_length, hFin.out] at hT
      have FIN : Hid (OwnH wr w.heap.size (.slice la T.length lc) (heldL f S) ∧ Below w.heap.size w wr) := ⟨⟨T, hT, owns_low hO.row B1.size, fun t ht => owns_low (hO.each t ht) B1.size⟩, B1.trans (hB.mono B1.size)⟩
      clear hT hO hB hFin hKm hKl O1 B1 h hr hf hk'
      go_wp2
      go_ret
      exact ⟨_, rfl, FIN.out⟩
theorem dlasts_any {db : Nat} {G : Nat → Prop} {d : DkS} (h : DiskAt w db G d) : Calls Tryz.prog 58 #[.pointer (some ⟨db, 0, none⟩)] w fun e w' => ∃ v, e = .returned v ∧ OwnH w' w.heap.size v (heldL d.last d.s) ∧ Below w.heap.size w w' := by
  obtain ⟨mb, B, C, hM, _, _⟩ := h
  have c2 := hM.c2
  have c3 := hM.c3
  have K := by_any (hM.mp false) (hM.ins false) hM.s2 (fun x p hp => Rd.owned (hM.row false x p hp))
  clear hM
  go_enter Tryz.func58, Tryz.ntmps58
  go_wp2_with fail
  refine K.mono ?_
  rintro _ wq ⟨v, rfl, h1, h2⟩
  have F : Hid (OwnH wq w.heap.size v (heldL d.last d.s) ∧ Below w.heap.size w wq) := ⟨h1, h2⟩
  clear h1 h2 K
  go_wp2
  go_ret
  exact ⟨_, rfl, F.out⟩
theorem dwaits_any {db : Nat} {G : Nat → Prop} {d : DkS} (h : DiskAt w db G d) : Calls Tryz.prog 59 #[.pointer (some ⟨db, 0, none⟩)] w fun e w' => ∃ v, e = .returned v ∧ OwnH w' w.heap.size v (heldL d.wait d.s) ∧ Below w.heap.size w w' := by
  obtain ⟨mb, B, C, hM, _, _⟩ := h
  have c2 := hM.c2
  have c3 := hM.c3
  have K := by_any (hM.mp true) (hM.ins true) hM.s2 (fun x p hp => Rd.owned (hM.row true x p hp))
  clear hM
  go_enter Tryz.func59, Tryz.ntmps59
  go_wp2_with fail
  refine K.mono ?_
  rintro _ wq ⟨v, rfl, h1, h2⟩
  have F : Hid (OwnH wq w.heap.size v (heldL d.wait d.s) ∧ Below w.heap.size w wq) := ⟨h1, h2⟩
  clear h1 h2 K
  go_wp2
  go_ret
  exact ⟨_, rfl, F.out⟩
end
end Go.Proofs.YtgahaebfgmbckaaGreat.Gf
