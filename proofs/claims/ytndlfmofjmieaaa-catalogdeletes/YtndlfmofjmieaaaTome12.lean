/- TEXTS JOINED: CtLay, CtKeys, CtCJ, CtAw. -/
import Derived.Shelf.SlIter.Nil
import Derived.Shelf.SortM.Plain
import Derived.Shelf.SortM.SortNone
import Derived.Ground.GgzProg
import Derived.Ground.SlgmProg
import Derived.Test.YtndlfmofjmieaaaTome10
import Derived.Test.YtndlfmofjmieaaaTome11
namespace Go.Proofs.Ytndlfmofjmieaaa.Gf
open Go.RowKit Go.Maps Go.Sort Go.Shelf
def laykeysC_ren : Go.Shelf.Ren := ⟨fun | 7 => 44 | 10 => 58 | n => n, fun | 23 => 70 | 26 => 9 | 3 => 52 | 28 => 83 | 0 => 0 | 27 => 82 | 33 => 73 | 4 => 4 | n => n, fun | n => n⟩
theorem laykeysC : Go.Proofs.SlLaysZ.n7 Try.prog laykeysC_ren where
  mixed := by kernel_rfl
  f7 := ⟨ "maps.Keys[map[string]aumbry/api.Object,string,aumbry/api.Object]", by decide, Try.func44.trans (congrArg some (by kernel_rfl))⟩
  f10 := ⟨ "maps.Keys[map[string]aumbry/api.Object,string,aumbry/api.Object]$1", by decide, Try.func58.trans (congrArg some (by kernel_rfl))⟩
  t0 := Try.underlying0
  a0 := Try.isAgg0
  z0 := Try.sizeOf0
  v0 := Try.zeroValue0
  t4 := Try.underlying4
  a4 := Try.isAgg4
  z4 := Try.sizeOf4
  v4 := Try.zeroValue4
  t23 := Try.underlying70
  a23 := Try.isAgg70
  z23 := Try.sizeOf70
  v23 := Try.zeroValue70
  t26 := Try.underlying9
  a26 := Try.isAgg9
  z26 := Try.sizeOf9
  v26 := Try.zeroValue9
  t27 := Try.underlying82
  a27 := Try.isAgg82
  z27 := Try.sizeOf82
  v27 := Try.zeroValue82
  t28 := Try.underlying83
  a28 := Try.isAgg83
  z28 := Try.sizeOf83
  v28 := Try.zeroValue83
  t33 := Try.underlying73
  a33 := Try.isAgg73
  z33 := Try.sizeOf73
  v33 := Try.zeroValue73
def laysortedC_ren : Go.Shelf.Ren := ⟨fun | 6 => 43 | 8 => 56 | 9 => 57 | 11 => 64 | 13 => 66 | 12 => 65 | 23 => 77 | 24 => 78 | 14 => 68 | 15 => 69 | 16 => 70 | 17 => 71 | 18 => 72 | 19 => 73 | 20 => 74 | 21 => 75 | 22 => 76 | 25 => 79 | 26 => 80 | 27 => 81 | 28 => 82 | 29 => 83 | 30 => 84 | 31 => 85 | n => n, fun | 26 => 9 | 28 => 83 | 24 => 80 | 0 => 0 | 3 => 3 | 37 => 100 | 48 => 110 | 50 => 112 | 4 => 4 | 40 => 103 | 39 => 102 | 45 => 54 | 5 => 5 | 9 => 9 | 51 => 113 | 55 => 117 | 57 => 119 | 58 => 120 | 33 => 73 | n => n, fun | n => n⟩
theorem laysortedC : Go.Proofs.SlLaysZ.n6 Try.prog laysortedC_ren where
  mixed := by kernel_rfl
  f6 := ⟨ "slices.Sorted[string]", by decide, Try.func43.trans (congrArg some (by kernel_rfl))⟩
  f8 := ⟨ "slices.Collect[string]", by decide, Try.func56.trans (congrArg some (by kernel_rfl))⟩
  f11 := ⟨ "slices.AppendSeq[[]string,string]", by decide, Try.func64.trans (congrArg some (by kernel_rfl))⟩
  t0 := Try.underlying0
  a0 := Try.isAgg0
  z0 := Try.sizeOf0
  v0 := Try.zeroValue0
  t24 := Try.underlying80
  a24 := Try.isAgg80
  z24 := Try.sizeOf80
  v24 := Try.zeroValue80
  t26 := Try.underlying9
  a26 := Try.isAgg9
  z26 := Try.sizeOf9
  v26 := Try.zeroValue9
  t28 := Try.underlying83
  a28 := Try.isAgg83
  z28 := Try.sizeOf83
  v28 := Try.zeroValue83
  i26 := by kernel_rfl
def laysortC_ren : Go.Shelf.Ren := ⟨fun | 6 => 57 | 8 => 66 | 9 => 65 | 19 => 77 | 20 => 78 | 21 => 68 | 22 => 69 | 23 => 70 | 24 => 71 | 25 => 72 | 26 => 73 | 27 => 74 | 28 => 75 | 29 => 76 | 36 => 79 | 31 => 80 | 32 => 81 | 37 => 82 | 38 => 83 | 39 => 84 | 41 => 85 | n => n, fun | 27 => 80 | 29 => 9 | 3 => 3 | 32 => 100 | 26 => 80 | 0 => 0 | 44 => 110 | 46 => 112 | 4 => 4 | 36 => 103 | 35 => 102 | 41 => 54 | 5 => 5 | 9 => 9 | 53 => 113 | 57 => 117 | 63 => 119 | 64 => 120 | n => n, fun | n => n⟩
theorem laysortC : Go.Proofs.SlLaysM.n6 Try.prog laysortC_ren where
  mixed := by kernel_rfl
  f6 := ⟨ "slices.Sort[[]string,string]", by decide, Try.func57.trans (congrArg some (by kernel_rfl))⟩
  f8 := Try.func66.trans (congrArg some (by kernel_rfl))
  f9 := ⟨ "slices.pdqsortOrdered[string]", by decide, Try.func65.trans (congrArg some (by kernel_rfl))⟩
  f19 := Try.func77.trans (congrArg some (by kernel_rfl))
  f20 := Try.func78.trans (congrArg some (by kernel_rfl))
  f21 := ⟨ "slices.insertionSortOrdered[string]", by decide, Try.func68.trans (congrArg some (by kernel_rfl))⟩
  f22 := ⟨ "slices.heapSortOrdered[string]", by decide, Try.func69.trans (congrArg some (by kernel_rfl))⟩
  f23 := ⟨ "slices.breakPatternsOrdered[string]", by decide, Try.func70.trans (congrArg some (by kernel_rfl))⟩
  f24 := ⟨ "slices.choosePivotOrdered[string]", by decide, Try.func71.trans (congrArg some (by kernel_rfl))⟩
  f25 := ⟨ "slices.reverseRangeOrdered[string]", by decide, Try.func72.trans (congrArg some (by kernel_rfl))⟩
  f26 := ⟨ "slices.partialInsertionSortOrdered[string]", by decide, Try.func73.trans (congrArg some (by kernel_rfl))⟩
  f27 := ⟨ "cmp.Less[string]", by decide, Try.func74.trans (congrArg some (by kernel_rfl))⟩
  f28 := ⟨ "slices.partitionEqualOrdered[string]", by decide, Try.func75.trans (congrArg some (by kernel_rfl))⟩
  f29 := ⟨ "slices.partitionOrdered[string]", by decide, Try.func76.trans (congrArg some (by kernel_rfl))⟩
  f31 := Try.func80.trans (congrArg some (by kernel_rfl))
  f32 := Try.func81.trans (congrArg some (by kernel_rfl))
  f36 := ⟨ "slices.siftDownOrdered[string]", by decide, Try.func79.trans (congrArg some (by kernel_rfl))⟩
  f37 := ⟨ "slices.medianAdjacentOrdered[string]", by decide, Try.func82.trans (congrArg some (by kernel_rfl))⟩
  f38 := ⟨ "slices.medianOrdered[string]", by decide, Try.func83.trans (congrArg some (by kernel_rfl))⟩
  f39 := ⟨ "cmp.isNaN[string]", by decide, Try.func84.trans (congrArg some (by kernel_rfl))⟩
  f41 := ⟨ "slices.order2Ordered[string]", by decide, Try.func85.trans (congrArg some (by kernel_rfl))⟩
  t0 := Try.underlying0
  a0 := Try.isAgg0
  z0 := Try.sizeOf0
  v0 := Try.zeroValue0
  t3 := Try.underlying3
  a3 := Try.isAgg3
  z3 := Try.sizeOf3
  v3 := Try.zeroValue3
  t4 := Try.underlying4
  a4 := Try.isAgg4
  z4 := Try.sizeOf4
  v4 := Try.zeroValue4
  t5 := Try.underlying5
  a5 := Try.isAgg5
  z5 := Try.sizeOf5
  v5 := Try.zeroValue5
  t9 := Try.underlying9
  a9 := Try.isAgg9
  z9 := Try.sizeOf9
  v9 := Try.zeroValue9
  t26 := Try.underlying80
  a26 := Try.isAgg80
  z26 := Try.sizeOf80
  v26 := Try.zeroValue80
  t27 := Try.underlying80
  a27 := Try.isAgg80
  z27 := Try.sizeOf80
  v27 := Try.zeroValue80
  t29 := Try.underlying9
  a29 := Try.isAgg9
  z29 := Try.sizeOf9
  v29 := Try.zeroValue9
  t32 := Try.underlying100
  a32 := Try.isAgg100
  z32 := Try.sizeOf100
  v32 := Try.zeroValue100
  t35 := Try.underlying102
  a35 := Try.isAgg102
  z35 := Try.sizeOf102
  v35 := Try.zeroValue102
  t36 := Try.underlying103
  a36 := Try.isAgg103
  z36 := Try.sizeOf103
  v36 := Try.zeroValue103
  t41 := Try.underlying54
  a41 := Try.isAgg54
  z41 := Try.sizeOf54
  v41 := Try.zeroValue54
  t44 := Try.underlying110
  a44 := Try.isAgg110
  z44 := Try.sizeOf110
  v44 := Try.zeroValue110
  t46 := Try.underlying112
  a46 := Try.isAgg112
  z46 := Try.sizeOf112
  v46 := Try.zeroValue112
  t53 := Try.underlying113
  a53 := Try.isAgg113
  z53 := Try.sizeOf113
  v53 := Try.zeroValue113
  t57 := Try.underlying117
  a57 := Try.isAgg117
  z57 := Try.sizeOf117
  v57 := Try.zeroValue117
  t63 := Try.underlying119
  a63 := Try.isAgg119
  z63 := Try.sizeOf119
  v63 := Try.zeroValue119
  t64 := Try.underlying120
  a64 := Try.isAgg120
  z64 := Try.sizeOf120
  v64 := Try.zeroValue120
end Go.Proofs.Ytndlfmofjmieaaa.Gf

namespace Go.Proofs.Ytndlfmofjmieaaa.Gf
set_option linter.unusedVariables false
set_option linter.unusedSimpArgs false
open Go.RowKit Go.Maps Go.Sort Go.Shelf
theorem sortsC (m : Nat) : AnyZ.SortsIn Try.prog laysortedC_ren Fence.wide m :=
  ⟨fun blk off cap ss W hH hblk hsz => callsIn_wide.2 (AnyM.slices_Sort_string laysortC blk off cap ss W hH hblk hsz),
   fun p cap W => callsIn_wide.2 (AnyM.slices_Sort_string_none laysortC p cap W)⟩
theorem keysC_call (mb : Option Nat) (W : World) : Calls Try.prog 44 #[.map mb] W fun e w' => e = .returned (.func (.func 58) #[] #[.pointer (some ⟨W.heap.size, 0, none⟩)]) ∧ w' = W.alloc (.cells #[.map mb] 70) :=
  (callsIn_wide (n := 5)).1 (AnyZ.keys_in laykeysC Fence.wide 5 trivial rfl mb W)
/-- a map's keys as a list -/
theorem strKeys_perm {w : World} {b : Nat} {LV : List ObV} (h : MapS Try.prog 9 w b (mpF LV)) (hr : Rise (oL LV)) : ∃ D, w.ownsMap Try.prog 9 RV b (Maps.size D) D ∧ (strKeys D).Perm (keysC LV) ∧ Maps.size D = LV.length := by
  obtain ⟨D, hown, hk, hf⟩ := h
  refine ⟨D, hown, ?_, ?_⟩
  · obtain ⟨es, hE, hp, hl⟩ := hown.entries keyed_str
    have hkI : ∀ p ∈ es, ∃ x, p.1 = .string x := by
      intro p hp1
      obtain ⟨x, e⟩ := hk p.1 (by
        rw [hE, Maps.has_eq, List.any_eq_true]
        exact ⟨p, hp1, WideAt.sameKey_self (hl p hp1)⟩)
      exact ⟨x, e⟩
    refine List.Perm.symm ?_
    rw [hE]
    refine perm_strKeys hp hkI (keysC_nodup hr) fun x => ?_
    rw [← hE, mpF_keys]
    rcases hf x with ⟨h1, h2⟩ | ⟨v, h1, h2, _⟩
    · rw [h1, h2]; simp
    · rw [h2, h1]; simp
  · rw [mapS_size keyed_str hown hk hf (keysC_nodup hr) mpF_keys, keysC_length]
theorem sortedC_call {w : World} {b : Nat} {LV : List ObV} (h : MapS Try.prog 9 w b (mpF LV)) (hr : Rise (oL LV)) (hl : LV.length ≤ 1000) :
    Calls Try.prog 43 #[.func (.func 58) #[] #[.pointer (some ⟨w.heap.size, 0, none⟩)]] (w.alloc (.cells #[.map (some b)] 70)) fun e w' => ∃ v, e = .returned v ∧ w'.ownsRow w.heap.size 9 1 v LV.length ((keysC LV).map encStr) ∧ Below w.heap.size w w' := by
  have hbl := h.lt
  obtain ⟨D0, hown, hp, hs⟩ := strKeys_perm h hr
  have hseq : SeqGives Fence.wide 2 Try.prog 58 #[.pointer (some ⟨w.heap.size, 0, none⟩)] encStr (fun ss => ss.Perm (strKeys D0)) (Maps.size D0) (w.alloc (.cells #[.map (some b)] 70)) :=
    AnyZ.keys_gives (ρ := laykeysC_ren) { laykeysC with } Fence.wide _ trivial rfl (by omega) w.heap.size b _ D0 _ (by simp) (by simp) (by
      obtain ⟨es, clock, hb, Ft, hs, hD⟩ := hown
      exact ⟨es, clock, (Below.heap_alloc _ _ b hbl).trans hb, Ft, hs, hD⟩)
  have cS := AnyZ.sorted_in laysortedC Fence.wide 5 trivial trivial trivial trivial rfl (by omega) (sortsC _) (enters_of Try.func57 (by kernel_rfl) rfl) 58 #[.pointer (some ⟨w.heap.size, 0, none⟩)] trivial (enters_of Try.func58 (by kernel_rfl) rfl) _ _ (by unfold maxLen; omega) (by omega) _ hseq
  refine (Calls.mono ((callsIn_wide (n := 5)).1 cS) ?_)
  rintro e w' ⟨v, ss, rfl, hS, hrow, hnil, hb⟩
  refine ⟨v, rfl, ?_, ((Below.refl _ w).alloc (Nat.le_refl _) _).trans (hb.mono (by simp))⟩
  have hp2 := hS.trans hp
  have e1 := keysC_sorted hr hp2
  rw [e1, hp2.length_eq, keysC_length] at hrow
  exact ownsRow_base_a hrow (by simp)
end Go.Proofs.Ytndlfmofjmieaaa.Gf

namespace Go.Proofs.Ytndlfmofjmieaaa.Gf
set_option linter.unusedVariables false
set_option linter.unusedSimpArgs false
open Go.RowKit
open Go.Maps (Keyed)
/-- what All answers -/
def AllC19 (w : World) (L : List ObS) (e : Ending) (w' : World) : Prop := ∃ v M, e = .returned v ∧ OwnOb w' w.heap.size v M ∧ oL M = L ∧ Below w.heap.size w w'
theorem OwnOb.weak19 {w : World} {base base' : Nat} {v : Value} {L : List ObV} (h : OwnOb w base v L) (hb : base' ≤ base) : OwnOb w base' v L :=
  ⟨by
    obtain ⟨h0, h | ⟨g2, cap, cur, hv, hgg, hh, r⟩⟩ := h.row
    · exact ⟨h0, Or.inl h⟩
    · exact ⟨h0, Or.inr ⟨g2, cap, cur, hv, Nat.le_trans hb hgg, hh, r⟩⟩, h.ea, fun c hc x n k e => (h.ap c hc x n k e).imp id fun q => ⟨Nat.le_trans hb q.1, q.2⟩⟩
theorem OwnOb.form19' {w : World} {base : Nat} {v : Value} {M : List ObV} (h : OwnOb w base v M) : ∃ a c, v = .slice a M.length c ∧ (a = none ∨ ∃ b off, a = some ⟨b, off, none⟩) := by
  obtain ⟨_, ⟨h1, h2⟩ | ⟨g, cap, cur, hv, _⟩⟩ := h.row
  · exact ⟨none, 0, by rw [h1, h2], Or.inl rfl⟩
  · exact ⟨_, cap, hv, Or.inr ⟨g, 0, rfl⟩⟩
set_option maxRecDepth 100000 in
theorem call19_nil {w : World} : Calls Try.prog 17 #[.pointer none] w fun e w' => e = .returned (.slice none 0 0) ∧ w' = w := by
  go_enter Try.func17, Try.ntmps17
  go_wp2
  go_ret
  exact ⟨rfl, rfl⟩
set_option maxRecDepth 100000 in
set_option maxHeartbeats 4000000 in
theorem call19_any {w : World} {cb mb : Nat} {g : GeoS} {LV : List ObV} {P : Nat → Prop} (h : CatI w cb mb g LV P) : Calls Try.prog 17 #[.pointer (some ⟨cb, 0, none⟩)] w (AllC19 w (oL LV)) := by
  have H := hidK h
  have l4 := h.few.2
  have c6 := h.c6
  have KK := keysC_call (some mb) w
  have KS := sortedC_call h.mp h.inv.rise (by omega)
  clear h
  go_enter Try.func17, Try.ntmps17
  go_wp2_with fail
  refine KK.mono ?_
  clear KK
  rintro _ wq ⟨rfl, eq⟩
  rw [eq]
  clear eq wq
  go_wp2_with fail
  refine KS.mono ?_
  clear KS
  rintro _ w3 ⟨vk, rfl, hrow, b3⟩
  obtain ⟨ka, kc, rfl⟩ : ∃ a c, vk = .slice a LV.length c := by
    obtain ⟨_, ⟨h1, h2⟩ | ⟨g, cap, cur, hv, _⟩⟩ := hrow
    · exact ⟨none, 0, by rw [h1, h2]⟩
    · exact ⟨_, cap, hv⟩
  have KC : Hid (∀ V, Below w3.heap.size w3 V → ∀ r, r < LV.length → ∃ kb, ka = some ⟨kb, 0, none⟩ ∧ V.cell? ⟨kb, r, none⟩ = some (.string ⟨((keysC LV).getD r []).toArray⟩)) := fun V bV r hr => by
    have hrow' := hrow
    obtain ⟨_, ⟨h1, h2⟩ | ⟨g, cap, cur, hv, hg, hh, hc, hm, hs, ht⟩⟩ := hrow
    · omega
    · simp at hv
      obtain ⟨rfl, rfl⟩ := hv
      have hlt := World.ownsRow.lt hrow' g rfl
      refine ⟨g, rfl, (bV.cell (p := ⟨g, r, none⟩) hlt.2).trans ?_⟩
      rw [World.ownsRow.cellAt hrow' r (by omega), List.getElem?_map, List.getElem?_eq_getElem (by rw [keysC_length]; exact hr)]
      simp [encStr, List.getD, show r < (keysC LV).length by rw [keysC_length]; exact hr]
  have B3 := hidK b3
  clear hrow b3 c6
  go_wp2_with fail
  go_loopw [3, 15] (fun l i wr => ∃ (r : Nat) (M : List ObV), r ≤ LV.length ∧ i = .int .i64 (r : Int) ∧ Hid (OwnOb wr w3.heap.size l M) ∧ Hid (oL M = oL (LV.take r)) ∧ Hid (Below w3.heap.size w3 wr)) (fun _ i _ => LV.length - (intOf i).toNat)
  case atStart => exact ⟨0, [], Nat.zero_le _, rfl, OwnOb.nil _ _, rfl, Below.refl _ _⟩
  case round =>
    obtain ⟨r, M, hr, rfl, hO, hM, hB⟩ := hrel
    by_cases hlt : r < LV.length
    · have hlt' : (r : Int) < (LV.length : Int) := by omega
      obtain ⟨kb, rfl, ck⟩ := KC.out wr hB.out r hlt
      have BW := hidK (B3.out.stepL hB.out B3.out.size)
      have C2 := H.out.below BW.out
      have hm : LV[r] ∈ LV := List.getElem_mem hlt
      have ek : (keysC LV).getD r [] = LV[r].o.key := by
        unfold keysC
        simp [List.getD, hlt]
      have NX : Hid (oL (LV.take (r + 1)) = oL (LV.take r) ++ [LV[r].o]) := by
        show _ = _
        rw [List.take_succ_eq_append_getElem hlt]
        unfold oL
        rw [List.map_append]; rfl
      rw [ek] at ck
      have L2 := (C2.looks (C2.ok _ hm).ky).2
      have c6 := C2.c6
      have em : mpF LV LV[r].o.key = some (aggO LV[r]) := by unfold mpF; rw [finV_some H.out.inv.rise hm]; rfl
      rw [em] at L2
      have K2 := cown19_any (C2.ok _ hm) (by have := (C2.sts _ hm).1; omega)
      have HOK := hidK (C2.ok _ hm)
      clear ek em C2
      generalize LV[r] = c at ck NX L2 K2 HOK hm
      clear hm
      obtain ⟨⟨ky, ln, ep, st⟩, vs⟩ := c
      obtain ⟨sa, sc, es⟩ := HOK.out.rs.form
      simp only at es ck NX L2
      subst es
      have L3 : (Instr.lookup 70 (.map (some mb)) (.string ⟨ky.toArray⟩) false).run Try.prog wr = .ok (.agg #[.string ⟨ky.toArray⟩, .int .i64 ln, .int .i64 ep, .slice sa st.length sc]) wr := L2
      obtain ⟨oa, oc, el, _⟩ := hO.out.form19'
      subst el
      clear L2 HOK
      go_wp2_with fail
      refine K2.mono ?_
      clear K2 L3 ck c6
      rintro _ w5 ⟨v', rfl, ok5, nw5, b5⟩
      obtain ⟨pa, pc, ev'⟩ := ok5.rs.form
      simp only at ev'
      subst ev'
      rw [show aggO ⟨⟨ky, ln, ep, st⟩, .slice pa st.length pc⟩ = .agg #[.string ⟨ky.toArray⟩, .int .i64 ln, .int .i64 ep, .slice pa st.length pc] from rfl]
      have B5 := hidK (hB.out.stepL b5 hB.out.size)
      have O5 := hO.out.later b5
      have lit := lit_ob w5 ok5
      have bl : Below w5.heap.size w5 (w5.alloc (.cells #[.string ⟨ky.toArray⟩, .int .i64 ln, .int .i64 ep, .slice pa st.length pc] 52)) := belL _ _
      have O6 := O5.later bl
      have B6 := B5.out.stepL bl B5.out.size
      have hq : ∀ k, (Value.slice oa M.length oc).ownBlock = some k → w3.heap.size ≤ k ∧ k < wr.heap.size := fun k e => World.ownsRow.lt hO.out.row k e
      have nr : ∀ d ∈ [(⟨⟨ky, ln, ep, st⟩, .slice pa st.length pc⟩ : ObV)], NearR w3.heap.size (w5.alloc (.cells #[.string ⟨ky.toArray⟩, .int .i64 ln, .int .i64 ep, .slice pa st.length pc] 52)).heap.size (.slice oa M.length oc) d.vs := fun d hd x n k e => by
        simp only [List.mem_singleton] at hd
        subst hd
        rcases ok5.rs.lays x n k e with q | q
        · exact Or.inl q
        · have h1 := nw5 x n k e
          have h2 := hB.out.size
          have h3 := bl.size
          refine Or.inr ⟨by omega, by omega, fun q2 => ?_⟩
          have := (hq _ q2).2
          omega
      have ml : M.length = r := by
        have := congrArg List.length hM.out
        rw [oL_length, oL_length, List.length_take] at this
        omega
      have ol : M.length + [(⟨⟨ky, ln, ep, st⟩, .slice pa st.length pc⟩ : ObV)].length ≤ 100000 := by simp; omega
      have hbs : w3.heap.size ≤ (w5.alloc (.cells #[.string ⟨ky.toArray⟩, .int .i64 ln, .int .i64 ep, .slice pa st.length pc] 52)).heap.size := B6.size
      clear ml
      go_wp2_with (at_builtin; go_loud (refine wpList_append_obs rfl (.tmp 19) (.tmp 27) rfl rfl rfl O6 lit (CapO.some (Nat.le_refl _)) nr ol hbs ?_); intro v9 w9 h9 g9)
      have B9 : Hid (Below w3.heap.size w3 w9) := B6.grown g9.gr hbs (fun k e => (hq k e).1)
      have O9 := hidK h9
      have M9 : Hid (oL (M ++ [(⟨⟨ky, ln, ep, st⟩, .slice pa st.length pc⟩ : ObV)]) = oL (LV.take (r + 1))) := by
        show _ = _
        rw [NX.out, ← hM.out]
        unfold oL
        rw [List.map_append]; rfl
      clear h9 g9 O6 lit nr ol hbs hq O5 B5 B6 bl ok5 nw5 b5 hO hM hB NX BW
      go_wp2
      go_roundw
      case rel => exact ⟨r + 1, _, by omega, by go_num, O9, M9, B9⟩
      case measure => simp [intOf]; omega
    · obtain rfl : r = LV.length := by omega
      have hge : ¬ (LV.length : Int) < (LV.length : Int) := by omega
      have F : Hid (AllC19 w (oL LV) (.returned u3) wr) := ⟨u3, M, rfl, hO.out.weak19 B3.out.size, by rw [hM.out, List.take_length], B3.out.stepL hB.out B3.out.size⟩
      obtain ⟨oa, oc, el, _⟩ := hO.out.form19'
      subst el
      clear hO hM hB KC B3 H
      go_wp2
      go_ret
      exact F.out
end Go.Proofs.Ytndlfmofjmieaaa.Gf

namespace Go.Proofs.Ytndlfmofjmieaaa.Gf
set_option linter.unusedVariables false
set_option linter.unusedSimpArgs false
open Go.RowKit
def gT : GeoS := ⟨1, 0, 2, 3, 1, 2⟩
theorem gT_wf : gT.Wf := ⟨by decide, by decide, by decide, by decide, by decide, by decide⟩
def oT : ObS := ⟨[97], 3, 7, [0, 1]⟩
theorem aw_new : neCX gT [] = 0 := by
  unfold neCX
  rw [if_neg (by decide), if_neg (by decide), if_neg (by intro h; cases h)]
theorem aw_plan : plX gT [] [97] 3 = 0 ∧ plR gT [] [97] 3 = [0, 1] := by decide
theorem aw_put : apCX gT [] ⟨1, [97], 3, [0, 1]⟩ 7 = 0 ∧ apCS gT [] ⟨1, [97], 3, [0, 1]⟩ 7 = [oT] := by
  have e : apCX gT [] ⟨1, [97], 3, [0, 1]⟩ 7 = 0 := by
    unfold apCX
    rw [if_neg (by decide), if_neg (by decide), if_neg (by decide), if_neg (by decide)]
  refine ⟨e, ?_⟩
  unfold apCS
  rw [e, if_pos rfl, if_neg (by decide)]
  rfl
theorem aw_full : plX gT [oT] [97] 3 = 192 := by decide
theorem aw_key : plX gT [oT] [] 0 = 190 := by decide
theorem aw_del : apCX gT [oT] ⟨2, [99], 0, []⟩ 8 = 193 ∧ apCS gT [oT] ⟨2, [99], 0, []⟩ 8 = [oT] := by
  have e : apCX gT [oT] ⟨2, [99], 0, []⟩ 8 = 193 := by
    unfold apCX
    rw [if_neg (by decide), if_pos rfl, if_pos (by decide)]
  refine ⟨e, ?_⟩
  unfold apCS
  rw [e, if_neg (by decide)]
theorem aw_own : (owK [oT] 1).getD 0 = 7 ∧ (owK [oT] 1).isSome = true := by decide
theorem aw_free : (frC gT [oT] : Int) = 1 := by decide
theorem ctiny_any {w : World} : Calls Try.prog 27 #[] w fun e w' => e = .returned (aggG gT) ∧ Below w.heap.size w w' := by
  have b := belL w (.cells #[.int .i64 1, .int .i64 0, .int .i64 2, .int .i64 3, .int .i64 1, .int .i64 2] 24)
  go_enter Try.func27, Try.ntmps27
  go_wp2
  exact bodyPost_ret (v := aggG gT) (by simp [results, Try.results27, go_sem]; rfl) rfl ⟨rfl, b⟩
set_option maxRecDepth 100000 in
set_option maxHeartbeats 4000000 in
theorem cawake_any {w : World} : Calls Try.prog 9 #[] w fun e w' => e = .returned (.bool true) ∧ Below w.heap.size w w' := by
  have K0 := fun W => @ctiny_any W
  have K1 : ∀ W, Calls Try.prog 12 #[aggG gT, .slice none 0 0] W (NewC19 W gT [] 0) := fun W => cnew19_any (LV := []) gT_wf (Or.inl ⟨none, 0, rfl, rfl⟩) (by decide) aw_new
  rw [show aggG gT = .agg #[.int .i64 1, .int .i64 0, .int .i64 2, .int .i64 3, .int .i64 1, .int .i64 2] from rfl] at K0 K1
  go_enter Try.func9, Try.ntmps9
  go_wp2_with fail
  refine (K0 _).mono ?_
  clear K0
  rintro _ w1 ⟨rfl, b1⟩
  have B1 := hidK b1
  clear b1
  go_wp2_with fail
  refine (K1 _).mono ?_
  clear K1
  rintro _ w2 (⟨_, cb, mb, M, rfl, eM, C2, lc, lm, b2⟩ | ⟨h, _⟩)
  rotate_left
  · exact absurd rfl h
  have e0 : oL M = [] := (Option.some.inj eM).symm
  obtain rfl : M = [] := by
    cases M with
    | nil => rfl
    | cons _ _ => cases e0
  clear eM e0
  have B2 := hidK (B1.out.stepL b2 B1.out.size)
  have LM : Hid (w.heap.size ≤ mb) := Nat.le_trans B1.out.size lm
  have CI2 := hidK C2
  clear B1 b2 lc lm C2
  have K := cplan19_any CI2.out (k := [97]) (by decide) (n := 3) (by decide) aw_plan.1 aw_plan.2
  go_wp2_with fail
  refine K.mono ?_
  clear K
  rintro _ w3 ⟨p, rfl, rd3, nw3, b3⟩
  obtain ⟨pa, pc, rfl⟩ := rd3.form
  have RP := hidK rd3
  have B3 := hidK (B2.out.stepL b3 B2.out.size)
  have CI3 := hidK (CI2.out.below b3)
  clear rd3 nw3 b3 B2 CI2
  have bl : Below w3.heap.size w3 (w3.alloc (.cells #[.int .i64 0, .int .i64 1] 3)) := belL _ _
  have rl : RdI (w3.alloc (.cells #[.int .i64 0, .int .i64 1] 3)) (.slice (some ⟨w3.heap.size, 0, none⟩) 2 2) [0, 1] := rdI_lit2 [0, 1] rfl rfl rfl (by decide)
  have K := capply19_any (CI3.out.below bl) (c := ⟨⟨1, [97], 3, [0, 1]⟩, .slice (some ⟨w3.heap.size, 0, none⟩) 2 2⟩) ⟨by show (Lit.int .i64 1).wf = true; decide, by show (Lit.int .i64 3).wf = true; decide, by show ([97] : List UInt8).length ≤ maxLen; decide, rl, by show ∀ z ∈ ([0, 1] : List Int), (Lit.int .i64 z).wf = true; decide⟩ (ep := 7) (by decide) aw_put.1 aw_put.2
  have B4 := hidK (B3.out.stepL bl B3.out.size)
  have RP4 := hidK (RP.out.below bl)
  have CI4 := hidK (CI3.out.below bl)
  clear rl bl B3 RP CI3
  go_wp2_with fail
  refine K.mono ?_
  clear K
  rintro _ w5 ⟨M5, rfl, C5, e5, t5⟩
  have RP5 := hidK (RP4.out.offG (RP4.out.notMap CI4.out.isMap) t5)
  have B5 := hidK (B4.out.trans (t5.below (fun y hy => by rw [hy]; exact LM.out) B4.out.size))
  have CI5 := hidK C5
  have E5 := hidK e5
  clear t5 C5 e5 B4 RP4 CI4
  have K := cplan19_any CI5.out (k := [97]) (by decide) (n := 3) (by decide) (X := 192) (by rw [E5.out]; exact aw_full) rfl
  go_wp2_with fail
  refine K.mono ?_
  clear K
  rintro _ w6 ⟨p6, rfl, rd6, nw6, b6⟩
  obtain ⟨pa6, pc6, rfl⟩ := rd6.form
  have B6 := hidK (B5.out.stepL b6 B5.out.size)
  have RP6 := hidK (RP5.out.below b6)
  have CI6 := hidK (CI5.out.below b6)
  clear rd6 nw6 b6 B5 RP5 CI5
  have K := cplan19_any CI6.out (k := []) (by decide) (n := 0) (by decide) (X := 190) (by rw [E5.out]; exact aw_key) rfl
  go_wp2_with fail
  refine K.mono ?_
  clear K
  rintro _ w7 ⟨p7, rfl, rd7, nw7, b7⟩
  obtain ⟨pa7, pc7, rfl⟩ := rd7.form
  have B7 := hidK (B6.out.stepL b7 B6.out.size)
  have RP7 := hidK (RP6.out.below b7)
  have CI7 := hidK (CI6.out.below b7)
  clear rd7 nw7 b7 B6 RP6 CI6
  have K := capply19_any CI7.out (c := ⟨⟨2, [99], 0, []⟩, .slice none 0 0⟩) ⟨by show (Lit.int .i64 2).wf = true; decide, by show (Lit.int .i64 0).wf = true; decide, by decide, Or.inl ⟨none, 0, rfl, rfl⟩, by decide⟩ (ep := 8) (by decide) (X := 193) (L := [oT]) (by rw [E5.out]; exact aw_del.1) (by rw [E5.out]; exact aw_del.2)
  go_wp2_with fail
  refine K.mono ?_
  clear K
  rintro _ w8 ⟨M8, rfl, C8, e8, t8⟩
  have RP8 := hidK (RP7.out.offG (RP7.out.notMap CI7.out.isMap) t8)
  have B8 := hidK (B7.out.trans (t8.below (fun y hy => by rw [hy]; exact LM.out) B7.out.size))
  have CI8 := hidK C8
  have E8 := hidK e8
  clear t8 C8 e8 B7 RP7 CI7 E5
  have K := cowner19_any CI8.out 1 (E := 7) (B := true) (by rw [E8.out]; exact aw_own.1) (by rw [E8.out]; exact aw_own.2)
  go_wp2_with fail
  refine K.mono ?_
  clear K
  rintro _ w9 ⟨rfl, b9⟩
  have B9 := hidK (B8.out.stepL b9 B8.out.size)
  have RP9 := hidK (RP8.out.below b9)
  have CI9 := hidK (CI8.out.below b9)
  clear b9 B8 RP8 CI8
  have bl : Below w9.heap.size w9 (w9.alloc (.cells #[.int .i64 0, .int .i64 1] 3)) := belL _ _
  have rl : RdI (w9.alloc (.cells #[.int .i64 0, .int .i64 1] 3)) (.slice (some ⟨w9.heap.size, 0, none⟩) 2 2) [0, 1] := rdI_lit2 [0, 1] rfl rfl rfl (by decide)
  have K := rints_any (RP9.out.below bl) rl (by decide) (by decide)
  rw [decide_eq_true rfl] at K
  have B10 := hidK (B9.out.stepL bl B9.out.size)
  have CI10 := hidK (CI9.out.below bl)
  clear bl rl B9 RP9 CI9
  go_wp2_with fail
  refine K.mono ?_
  clear K
  rintro _ w11 ⟨rfl, b11⟩
  have B11 := hidK (B10.out.stepL b11 B10.out.size)
  have CI11 := hidK (CI10.out.below b11)
  clear b11 B10 CI10
  have K := cfrees19_any CI11.out (X := 1) (by rw [E8.out]; exact aw_free)
  go_wp2_with fail
  refine K.mono ?_
  clear K
  rintro _ w12 ⟨rfl, b12⟩
  have B12 := hidK (B11.out.stepL b12 B11.out.size)
  have CI12 := hidK (CI11.out.below b12)
  clear b12 B11 CI11
  have K := call19_any CI12.out
  go_wp2_with fail
  refine K.mono ?_
  clear K
  rintro _ w13 ⟨v, N, rfl, oN, eN, b13⟩
  have B13 := hidK (B12.out.stepL b13 B12.out.size)
  obtain ⟨oa, oc, ev, _⟩ := oN.form19'
  have l1 : N.length = 1 := by
    have := congrArg List.length eN
    rw [oL_length, E8.out] at this
    exact this
  rw [l1] at ev
  subst ev
  clear oN eN b13 B12 CI12 E8 l1
  go_wp2
  go_ret
  exact ⟨rfl, B13.out⟩
end Go.Proofs.Ytndlfmofjmieaaa.Gf
