/- TEXTS JOINED: CtCG, CtLay, CtKeys, CtCJ. -/
import Derived.Test.YtndlfmofjmieaabTome8
import Derived.Test.YtndlfmofjmieaabTome9
import Derived.Shelf.SlIter.Nil
import Derived.Shelf.SortM.Plain
import Derived.Shelf.SortM.SortNone
import Derived.Ground.GgzProg
import Derived.Ground.SlgmProg
namespace Go.Proofs.Ytndlfmofjmieaab.Gf
set_option linter.unusedVariables false
set_option linter.unusedSimpArgs false
open Go.RowKit
theorem FarI19 {w : World} {base e : Nat} {v : Value} {zs : List Nat} (h : OwnI w base e v zs) : NewS base v := fun x n c ev => by
  obtain ⟨_, ⟨hv, hn⟩ | ⟨g, cap, cur, hv, hgb, _⟩⟩ := h
  · rw [hv] at ev; simp at ev
  · rw [hv] at ev
    simp at ev
    obtain ⟨rfl, _, _⟩ := ev
    exact hgb
theorem capI19 {w : World} {base e : Nat} {a : Option Addr} {n c : Nat} {zs : List Nat} (h : OwnI w base e (.slice a n c) zs) : n ≤ c := by
  obtain ⟨_, ⟨hv, hn⟩ | ⟨g, cap, cur, hv, hgb, _, hle, _⟩⟩ := h
  · simp at hv; omega
  · simp at hv
    obtain ⟨rfl, rfl, rfl⟩ := hv
    exact hle
theorem RdI.take19 {w : World} {a : Option Addr} {c : Nat} {Z : List Nat} (h : RdI w (.slice a Z.length c) (toI Z)) {m : Nat} (hm : m ≤ Z.length) : RdI w (.slice a m c) ((Z.map fun (i : Nat) => (i : Int)).take m) := by
  show RdI w (.slice a m c) ((toI Z).take m)
  have hl : ((toI Z).take m).length = m := by rw [List.length_take, toI_length]; omega
  by_cases h0 : m = 0
  · subst h0
    exact Or.inl ⟨a, c, by simp, rfl⟩
  · rcases h with ⟨_, _, e, _⟩ | ⟨b, off, cap, h1, h2, h3, h4, h5⟩
    · have : (toI Z).length = 0 := by rw [e]; rfl
      rw [toI_length] at this
      omega
    · simp at h2
      obtain ⟨rfl, _, rfl⟩ := h2
      refine Or.inr ⟨b, off, c, fun e => by rw [e] at hl; simp at hl; omega, by rw [hl], by rw [hl]; rw [toI_length] at h3; omega, h4, fun i hi => ?_⟩
      rw [hl] at hi
      have e : ((toI Z).take m).getD i 0 = (toI Z).getD i 0 := by simp [List.getD, List.getElem?_take_of_lt hi]
      rw [e]
      exact h5 i (by rw [toI_length]; omega)
def PlanC19 (w : World) (X : Int) (R : List Int) (e : Ending) (w' : World) : Prop := ∃ v, e = .returned (.tuple #[v, .int .i64 X]) ∧ RdI w' v R ∧ NewS w.heap.size v ∧ Below w.heap.size w w'
theorem planC_nil {w w' : World} {X : Int} (b : Below w.heap.size w w') : PlanC19 w X [] (.returned (.tuple #[.slice none 0 0, .int .i64 X])) w' := ⟨_, rfl, Or.inl ⟨none, 0, rfl, rfl⟩, fun x n c e => by simp at e, b⟩
set_option maxRecDepth 100000 in
set_option maxHeartbeats 2000000 in
theorem cplan19_any {w : World} {cb mb : Nat} {g : GeoS} {LV : List ObV} {P : Nat → Prop} (h : CatI w cb mb g LV P) {k : List UInt8} (hk : k.length ≤ maxLen) {n : Int} (hn : (Lit.int .i64 n).wf = true) {X : Int} {R : List Int} (hX : plX g (oL LV) k n = X) (hR : plR g (oL LV) k n = R) :
    Calls Try.prog 13 #[.pointer (some ⟨cb, 0, none⟩), .string ⟨k.toArray⟩, .int .i64 n] w (PlanC19 w X R) := by
  have H := hidK h
  obtain ⟨ns, hns⟩ : ∃ m : Nat, Hid (g.s = (m : Int)) := ⟨g.s.toNat, by obtain ⟨_, _, _, _, _, q, _⟩ := h.gok; show _ = _; omega⟩
  have KF : ∀ V, Below w.heap.size w V → Calls Try.prog 25 #[.pointer (some ⟨cb, 0, none⟩)] V (Free19 V (frF (oL LV) ns)) := fun V bV => cfree19_any (H.out.below bV) hns.out
  obtain ⟨nx, hnx⟩ : ∃ z, Hid (neG g n = z) := ⟨_, rfl⟩
  have KN : ∀ V, Calls Try.prog 32 #[aggG g, .int .i64 n] V fun e w' => e = .returned (.int .i64 nx) ∧ Below V.heap.size V w' := fun V => lneeds_any H.out.gw hn hnx.out
  obtain ⟨rm, hrm⟩ : ∃ b, Hid (decide (finV LV k ≠ none ∨ (LV.length : Int) < g.o) = b) := ⟨_, rfl⟩
  have KR : ∀ V, Below w.heap.size w V → Calls Try.prog 31 #[.pointer (some ⟨cb, 0, none⟩), .string ⟨k.toArray⟩] V fun e w' => e = .returned (.bool rm) ∧ Below V.heap.size V w' := fun V bV => croom19_any (H.out.below bV) hk hrm.out
  have PR : ∀ {z : Int}, plX g (oL LV) k n = z → z ≠ 0 → X = z ∧ R = [] := fun {z} e q => by
    refine ⟨hX.symm.trans e, ?_⟩
    rw [← hR]
    unfold plR
    rw [e, if_neg q]
  have P1 : Hid (k.length = 0 ∨ 64 < k.length → X = 190 ∧ R = []) := fun q => PR (by
    have e : plP g (oL LV) k n = 190 := if_pos q
    unfold plX; rw [e, if_pos (by decide)]) (by decide)
  have P2 : Hid (¬ (k.length = 0 ∨ 64 < k.length) → ¬ OkN n → X = 1 ∧ R = []) := fun q q2 => PR (by
    have e : plP g (oL LV) k n = 1 := by
      unfold plP
      rw [if_neg q, if_pos]
      unfold OkN at q2
      omega
    unfold plX; rw [e, if_pos (by decide)]) (by decide)
  have RMI : (¬ (finK (oL LV) k = none ∧ g.o ≤ ((oL LV).length : Int))) ↔ (finV LV k ≠ none ∨ (LV.length : Int) < g.o) := by
    rw [oL_length]
    by_cases q : finV LV k = none
    · have q' := finV_none.1 q
      simp [q, q']
    · have q' : ¬ finK (oL LV) k = none := fun e => q (finV_none.2 e)
      simp [q, q']
  have P3 : Hid (¬ (k.length = 0 ∨ 64 < k.length) → OkN n → rm = false → X = 191 ∧ R = []) := fun q q2 q3 => PR (by
    have z := of_decide_eq_false (hrm.out.trans q3)
    have e : plP g (oL LV) k n = 191 := by
      unfold plP
      rw [if_neg q, if_neg (by unfold OkN at q2; omega), if_pos (Decidable.not_not.1 fun k => z (RMI.1 k))]
    unfold plX; rw [e, if_pos (by decide)]) (by decide)
  have P4 : Hid (¬ (k.length = 0 ∨ 64 < k.length) → OkN n → rm = true → (((frF (oL LV) ns).length : Int) < nx → X = 192 ∧ R = []) ∧ (¬ ((frF (oL LV) ns).length : Int) < nx → X = 0 ∧ R = ((frF (oL LV) ns).map fun (i : Nat) => (i : Int)).take nx.toNat)) := fun q q2 q3 => by
    have z := of_decide_eq_true (hrm.out.trans q3)
    have e : plP g (oL LV) k n = 0 := by
      unfold plP
      rw [if_neg q, if_neg (by unfold OkN at q2; omega), if_neg (RMI.2 z)]
    have en : g.s.toNat = ns := by rw [hns.out]; rfl
    have ef : (frC g (oL LV) : Int) = ((frF (oL LV) ns).length : Int) := by rw [frC_F, en]
    constructor
    · intro q4
      exact PR (by unfold plX; rw [e, if_neg (by decide), ef, hnx.out, if_pos q4]) (by decide)
    · intro q4
      have ex : plX g (oL LV) k n = 0 := by unfold plX; rw [e, if_neg (by decide), ef, hnx.out, if_neg q4]
      refine ⟨hX.symm.trans ex, ?_⟩
      rw [← hR]
      unfold plR
      rw [if_pos ex, frL_F, en, hnx.out]
  have NX0 : Hid (OkN n → 0 ≤ nx) := fun q => by rw [← hnx.out]; exact neG_zero H.out.gok q.1
  have FLE := frF_le (oL LV) ns
  have n6 : ns ≤ 256 := by
    obtain ⟨_, _, _, _, _, _, q, _⟩ := h.gok
    have := hns.out
    omega
  obtain ⟨Z, hZ⟩ : ∃ Z, frF (oL LV) ns = Z := ⟨_, rfl⟩
  rw [hZ] at KF P4 FLE
  have SG : Hid (∀ V, Below w.heap.size w V → GeoAt V cb g) := fun V bV => (H.out.below bV).ge
  clear h hX hR PR RMI hns hnx hrm hZ H
  obtain ⟨gk, gm, gz, gs, gt, go⟩ := g
  rw [aggE] at KN
  have SF : Hid (∀ V, Below w.heap.size w V → V.cell? ⟨cb, 0, none⟩ = some (.int .i64 gk) ∧ V.cell? ⟨cb, 1, none⟩ = some (.int .i64 gm) ∧ V.cell? ⟨cb, 2, none⟩ = some (.int .i64 gz) ∧ V.cell? ⟨cb, 3, none⟩ = some (.int .i64 gs) ∧ V.cell? ⟨cb, 4, none⟩ = some (.int .i64 gt) ∧ V.cell? ⟨cb, 5, none⟩ = some (.int .i64 go)) := fun V bV => SG.out V bV
  clear SG
  by_cases h1 : k.length = 0 ∨ 64 < k.length
  · obtain ⟨rfl, rfl⟩ := P1.out h1
    clear P1 P2 P3 P4 KF KN KR NX0 SF
    by_cases h2 : (k.length : Int) < 1
    · go_enter Try.func13, Try.ntmps13
      go_wp2
      exact bodyPost_ret (v := .tuple #[.slice none 0 0, .int .i64 190]) (by simp [results, Try.results13, go_sem]) rfl (planC_nil (Below.refl _ _))
    · have h3 : (k.length : Int) > 64 := by omega
      go_enter Try.func13, Try.ntmps13
      go_wp2
      exact bodyPost_ret (v := .tuple #[.slice none 0 0, .int .i64 190]) (by simp [results, Try.results13, go_sem]) rfl (planC_nil (Below.refl _ _))
  have h2 : ¬ (k.length : Int) < 1 := by omega
  have h3 : ¬ (k.length : Int) > 64 := by omega
  have H1 := hidK h1
  clear h1
  by_cases hok : OkN n
  rotate_left
  · obtain ⟨rfl, rfl⟩ := P2.out H1.out hok
    have K2 := fun V => @cmay19_any n V false (decide_eq_false hok)
    clear P1 P2 P3 P4 KF KN KR NX0 SF
    go_enter Try.func13, Try.ntmps13
    go_wp2_with fail
    refine (K2 _).mono ?_
    rintro _ _ ⟨rfl, rfl⟩
    go_wp2
    exact bodyPost_ret (v := .tuple #[.slice none 0 0, .int .i64 1]) (by simp [results, Try.results13, go_sem]) rfl (planC_nil (Below.refl _ _))
  have K2 := fun V => @cmay19_any n V true (decide_eq_true hok)
  have NZ := NX0.out hok
  have Q3 := hidK (P3.out H1.out hok)
  have Q4 := hidK (P4.out H1.out hok)
  have K3 := KR w (Below.refl _ _)
  clear P1 P2 P3 P4 KR NX0 H1 hok
  go_enter Try.func13, Try.ntmps13
  go_wp2_with fail
  refine (K2 _).mono ?_
  clear K2
  rintro _ wq ⟨rfl, eq⟩
  rw [eq]
  clear eq wq
  go_wp2_with fail
  refine K3.mono ?_
  clear K3
  rintro _ w2 ⟨rfl, b2⟩
  have B2 := hidK b2
  clear b2
  cases rm with
  | false =>
    obtain ⟨rfl, rfl⟩ := Q3.out (by first | rfl | trivial)
    clear Q3 Q4 KF KN SF
    go_wp2
    exact bodyPost_ret (v := .tuple #[.slice none 0 0, .int .i64 191]) (by simp [results, Try.results13, go_sem]) rfl (planC_nil B2.out)
  | true =>
  have Q5 := hidK (Q4.out (by first | rfl | trivial))
  clear Q3 Q4
  have BD := hidK (B2.out.stepL (Below.refl _ _).drew B2.out.size)
  have G0 := SF.out _ BD.out
  have K4 := KF _ BD.out
  clear B2 KF
  go_wp2_with fail
  refine wp_region_held_drew (S := fun V => V.cell? ⟨cb, 0, none⟩ = some (.int .i64 gk) ∧ V.cell? ⟨cb, 1, none⟩ = some (.int .i64 gm) ∧ V.cell? ⟨cb, 2, none⟩ = some (.int .i64 gz) ∧ V.cell? ⟨cb, 3, none⟩ = some (.int .i64 gs) ∧ V.cell? ⟨cb, 4, none⟩ = some (.int .i64 gt) ∧ V.cell? ⟨cb, 5, none⟩ = some (.int .i64 go)) (by kernel_rfl) G0 (fun hHeld => ?_)
  refine tkH 0 ?_
  refine tkH 2 ?_
  refine tkH 3 ?_
  refine tkH 4 ?_
  refine tkH 5 ?_
  refine tkH 6 ?_
  clear hHeld G0
  refine rnH 1 (fun K' hK => ?_)
  go_simp
  go_at_call 25
  refine K4.mono ?_
  clear K4
  rintro _ w4 ⟨v, rfl, hO, b4⟩
  dsimp only
  have B4 := hidK (BD.out.stepL b4 BD.out.size)
  obtain ⟨oa, oc, rfl⟩ := hO.form
  have RD := hidK (hO.rd (by omega))
  have NW : Hid (NewS w.heap.size (.slice oa Z.length oc)) := fun x m e ev => by
    have h1 := FarI19 hO x m e ev
    have h2 := BD.out.size
    omega
  have CP : Z.length ≤ oc := capI19 hO
  refine koH hK (SF.out _ B4.out) fun hHeld => ?_
  clear hK K' hHeld b4
  refine rnH 7 (fun K' hK => ?_)
  go_simp
  go_at_call 32
  refine (KN _).mono ?_
  clear KN
  rintro _ w5 ⟨rfl, b5⟩
  dsimp only
  have B5 := hidK (B4.out.stepL b5 B4.out.size)
  have RD5 := hidK (RD.out.below b5)
  refine koH hK (SF.out _ B5.out) fun hHeld => ?_
  clear hK K' b5 RD hO B4
  refine tkH 8 ?_
  refine tkH 9 ?_
  refine wpAnyH_done (by kernel_rfl) ?_ _
  clear hHeld SF BD
  by_cases hl : (Z.length : Int) < nx
  · obtain ⟨rfl, rfl⟩ := Q5.out.1 (by omega)
    clear Q5 RD5 NW
    go_wp2
    exact bodyPost_ret (v := .tuple #[.slice none 0 0, .int .i64 192]) (by simp [results, Try.results13, go_sem]) rfl (planC_nil B5.out)
  · obtain ⟨rfl, rfl⟩ := Q5.out.2 (by omega)
    obtain ⟨m, rfl⟩ : ∃ m : Nat, nx = (m : Int) := ⟨nx.toNat, by omega⟩
    have hm : m ≤ Z.length := by omega
    have hm2 : m ≤ oc := by omega
    have hm3 : (m : Int) ≤ (oc : Int) := by omega
    have F : Hid (PlanC19 w 0 ((Z.map fun (i : Nat) => (i : Int)).take m) (.returned (.tuple #[.slice oa m oc, .int .i64 0])) w5) := by
      refine ⟨_, rfl, ?_, fun x a b ev => ?_, B5.out⟩
      · exact RD5.out.take19 hm
      · simp at ev
        obtain ⟨rfl, rfl, rfl⟩ := ev
        exact NW.out _ _ _ rfl
    clear Q5 RD5 NW B5
    go_wp2
    exact bodyPost_ret (v := .tuple #[.slice oa m oc, .int .i64 0]) (by simp [results, Try.results13, go_sem]) rfl F.out
end Go.Proofs.Ytndlfmofjmieaab.Gf

namespace Go.Proofs.Ytndlfmofjmieaab.Gf
open Go.RowKit Go.Maps Go.Sort Go.Shelf
def laykeysC_ren : Go.Shelf.Ren := ⟨fun | 7 => 21 | 10 => 36 | n => n, fun | 23 => 60 | 26 => 9 | 3 => 39 | 28 => 58 | 0 => 0 | 27 => 57 | 33 => 64 | 4 => 4 | n => n, fun | n => n⟩
theorem laykeysC : Go.Proofs.SlLaysZ.n7 Try.prog laykeysC_ren where
  mixed := by kernel_rfl
  f7 := ⟨ "maps.Keys[map[string]aumbry/api.Object,string,aumbry/api.Object]", by decide, Try.func21.trans (congrArg some (by kernel_rfl))⟩
  f10 := ⟨ "maps.Keys[map[string]aumbry/api.Object,string,aumbry/api.Object]$1", by decide, Try.func36.trans (congrArg some (by kernel_rfl))⟩
  t0 := Try.underlying0
  a0 := Try.isAgg0
  z0 := Try.sizeOf0
  v0 := Try.zeroValue0
  t4 := Try.underlying4
  a4 := Try.isAgg4
  z4 := Try.sizeOf4
  v4 := Try.zeroValue4
  t23 := Try.underlying60
  a23 := Try.isAgg60
  z23 := Try.sizeOf60
  v23 := Try.zeroValue60
  t26 := Try.underlying9
  a26 := Try.isAgg9
  z26 := Try.sizeOf9
  v26 := Try.zeroValue9
  t27 := Try.underlying57
  a27 := Try.isAgg57
  z27 := Try.sizeOf57
  v27 := Try.zeroValue57
  t28 := Try.underlying58
  a28 := Try.isAgg58
  z28 := Try.sizeOf58
  v28 := Try.zeroValue58
  t33 := Try.underlying64
  a33 := Try.isAgg64
  z33 := Try.sizeOf64
  v33 := Try.zeroValue64
def laysortedC_ren : Go.Shelf.Ren := ⟨fun | 6 => 20 | 8 => 34 | 9 => 35 | 11 => 43 | 13 => 45 | 12 => 44 | 23 => 56 | 24 => 57 | 14 => 47 | 15 => 48 | 16 => 49 | 17 => 50 | 18 => 51 | 19 => 52 | 20 => 53 | 21 => 54 | 22 => 55 | 25 => 58 | 26 => 59 | 27 => 60 | 28 => 61 | 29 => 62 | 30 => 63 | 31 => 64 | n => n, fun | 26 => 9 | 28 => 58 | 24 => 55 | 0 => 0 | 3 => 3 | 37 => 84 | 48 => 95 | 50 => 97 | 4 => 4 | 40 => 88 | 39 => 87 | 45 => 46 | 5 => 5 | 9 => 9 | 51 => 98 | 55 => 102 | 57 => 104 | 58 => 105 | 33 => 64 | n => n, fun | n => n⟩
theorem laysortedC : Go.Proofs.SlLaysZ.n6 Try.prog laysortedC_ren where
  mixed := by kernel_rfl
  f6 := ⟨ "slices.Sorted[string]", by decide, Try.func20.trans (congrArg some (by kernel_rfl))⟩
  f8 := ⟨ "slices.Collect[string]", by decide, Try.func34.trans (congrArg some (by kernel_rfl))⟩
  f11 := ⟨ "slices.AppendSeq[[]string,string]", by decide, Try.func43.trans (congrArg some (by kernel_rfl))⟩
  t0 := Try.underlying0
  a0 := Try.isAgg0
  z0 := Try.sizeOf0
  v0 := Try.zeroValue0
  t24 := Try.underlying55
  a24 := Try.isAgg55
  z24 := Try.sizeOf55
  v24 := Try.zeroValue55
  t26 := Try.underlying9
  a26 := Try.isAgg9
  z26 := Try.sizeOf9
  v26 := Try.zeroValue9
  t28 := Try.underlying58
  a28 := Try.isAgg58
  z28 := Try.sizeOf58
  v28 := Try.zeroValue58
  i26 := by kernel_rfl
def laysortC_ren : Go.Shelf.Ren := ⟨fun | 6 => 35 | 8 => 45 | 9 => 44 | 19 => 56 | 20 => 57 | 21 => 47 | 22 => 48 | 23 => 49 | 24 => 50 | 25 => 51 | 26 => 52 | 27 => 53 | 28 => 54 | 29 => 55 | 36 => 58 | 31 => 59 | 32 => 60 | 37 => 61 | 38 => 62 | 39 => 63 | 41 => 64 | n => n, fun | 27 => 55 | 29 => 9 | 3 => 3 | 32 => 84 | 26 => 55 | 0 => 0 | 44 => 95 | 46 => 97 | 4 => 4 | 36 => 88 | 35 => 87 | 41 => 46 | 5 => 5 | 9 => 9 | 53 => 98 | 57 => 102 | 63 => 104 | 64 => 105 | n => n, fun | n => n⟩
theorem laysortC : Go.Proofs.SlLaysM.n6 Try.prog laysortC_ren where
  mixed := by kernel_rfl
  f6 := ⟨ "slices.Sort[[]string,string]", by decide, Try.func35.trans (congrArg some (by kernel_rfl))⟩
  f8 := Try.func45.trans (congrArg some (by kernel_rfl))
  f9 := ⟨ "slices.pdqsortOrdered[string]", by decide, Try.func44.trans (congrArg some (by kernel_rfl))⟩
  f19 := Try.func56.trans (congrArg some (by kernel_rfl))
  f20 := Try.func57.trans (congrArg some (by kernel_rfl))
  f21 := ⟨ "slices.insertionSortOrdered[string]", by decide, Try.func47.trans (congrArg some (by kernel_rfl))⟩
  f22 := ⟨ "slices.heapSortOrdered[string]", by decide, Try.func48.trans (congrArg some (by kernel_rfl))⟩
  f23 := ⟨ "slices.breakPatternsOrdered[string]", by decide, Try.func49.trans (congrArg some (by kernel_rfl))⟩
  f24 := ⟨ "slices.choosePivotOrdered[string]", by decide, Try.func50.trans (congrArg some (by kernel_rfl))⟩
  f25 := ⟨ "slices.reverseRangeOrdered[string]", by decide, Try.func51.trans (congrArg some (by kernel_rfl))⟩
  f26 := ⟨ "slices.partialInsertionSortOrdered[string]", by decide, Try.func52.trans (congrArg some (by kernel_rfl))⟩
  f27 := ⟨ "cmp.Less[string]", by decide, Try.func53.trans (congrArg some (by kernel_rfl))⟩
  f28 := ⟨ "slices.partitionEqualOrdered[string]", by decide, Try.func54.trans (congrArg some (by kernel_rfl))⟩
  f29 := ⟨ "slices.partitionOrdered[string]", by decide, Try.func55.trans (congrArg some (by kernel_rfl))⟩
  f31 := Try.func59.trans (congrArg some (by kernel_rfl))
  f32 := Try.func60.trans (congrArg some (by kernel_rfl))
  f36 := ⟨ "slices.siftDownOrdered[string]", by decide, Try.func58.trans (congrArg some (by kernel_rfl))⟩
  f37 := ⟨ "slices.medianAdjacentOrdered[string]", by decide, Try.func61.trans (congrArg some (by kernel_rfl))⟩
  f38 := ⟨ "slices.medianOrdered[string]", by decide, Try.func62.trans (congrArg some (by kernel_rfl))⟩
  f39 := ⟨ "cmp.isNaN[string]", by decide, Try.func63.trans (congrArg some (by kernel_rfl))⟩
  f41 := ⟨ "slices.order2Ordered[string]", by decide, Try.func64.trans (congrArg some (by kernel_rfl))⟩
  t0 := Try.underlying0
  a0 := Try.isAgg0
  z0 := Try.sizeOf0
  v0 := Try.zeroValue0
  t3 := Try.underlying3
  a3 := Try.isAgg3
  z3 := Try.sizeOf3
  v3 := Try.zeroValue3
  t4 := Try.underlying4
  a4 := Try.isAgg4
  z4 := Try.sizeOf4
  v4 := Try.zeroValue4
  t5 := Try.underlying5
  a5 := Try.isAgg5
  z5 := Try.sizeOf5
  v5 := Try.zeroValue5
  t9 := Try.underlying9
  a9 := Try.isAgg9
  z9 := Try.sizeOf9
  v9 := Try.zeroValue9
  t26 := Try.underlying55
  a26 := Try.isAgg55
  z26 := Try.sizeOf55
  v26 := Try.zeroValue55
  t27 := Try.underlying55
  a27 := Try.isAgg55
  z27 := Try.sizeOf55
  v27 := Try.zeroValue55
  t29 := Try.underlying9
  a29 := Try.isAgg9
  z29 := Try.sizeOf9
  v29 := Try.zeroValue9
  t32 := Try.underlying84
  a32 := Try.isAgg84
  z32 := Try.sizeOf84
  v32 := Try.zeroValue84
  t35 := Try.underlying87
  a35 := Try.isAgg87
  z35 := Try.sizeOf87
  v35 := Try.zeroValue87
  t36 := Try.underlying88
  a36 := Try.isAgg88
  z36 := Try.sizeOf88
  v36 := Try.zeroValue88
  t41 := Try.underlying46
  a41 := Try.isAgg46
  z41 := Try.sizeOf46
  v41 := Try.zeroValue46
  t44 := Try.underlying95
  a44 := Try.isAgg95
  z44 := Try.sizeOf95
  v44 := Try.zeroValue95
  t46 := Try.underlying97
  a46 := Try.isAgg97
  z46 := Try.sizeOf97
  v46 := Try.zeroValue97
  t53 := Try.underlying98
  a53 := Try.isAgg98
  z53 := Try.sizeOf98
  v53 := Try.zeroValue98
  t57 := Try.underlying102
  a57 := Try.isAgg102
  z57 := Try.sizeOf102
  v57 := Try.zeroValue102
  t63 := Try.underlying104
  a63 := Try.isAgg104
  z63 := Try.sizeOf104
  v63 := Try.zeroValue104
  t64 := Try.underlying105
  a64 := Try.isAgg105
  z64 := Try.sizeOf105
  v64 := Try.zeroValue105
end Go.Proofs.Ytndlfmofjmieaab.Gf

namespace Go.Proofs.Ytndlfmofjmieaab.Gf
set_option linter.unusedVariables false
set_option linter.unusedSimpArgs false
open Go.RowKit Go.Maps Go.Sort Go.Shelf
theorem sortsC (m : Nat) : AnyZ.SortsIn Try.prog laysortedC_ren Fence.wide m :=
  ⟨fun blk off cap ss W hH hblk hsz => callsIn_wide.2 (AnyM.slices_Sort_string laysortC blk off cap ss W hH hblk hsz),
   fun p cap W => callsIn_wide.2 (AnyM.slices_Sort_string_none laysortC p cap W)⟩
theorem keysC_call (mb : Option Nat) (W : World) : Calls Try.prog 21 #[.map mb] W fun e w' => e = .returned (.func (.func 36) #[] #[.pointer (some ⟨W.heap.size, 0, none⟩)]) ∧ w' = W.alloc (.cells #[.map mb] 60) :=
  (callsIn_wide (n := 5)).1 (AnyZ.keys_in laykeysC Fence.wide 5 trivial rfl mb W)
/-- a map's keys as a list -/
theorem strKeys_perm {w : World} {b : Nat} {LV : List ObV} (h : MapS Try.prog 9 w b (mpF LV)) (hr : Rise (oL LV)) : ∃ D, w.ownsMap Try.prog 9 RV b (Maps.size D) D ∧ (strKeys D).Perm (keysC LV) ∧ Maps.size D = LV.length := by
  obtain ⟨D, hown, hk, hf⟩ := h
  refine ⟨D, hown, ?_, ?_⟩
  · obtain ⟨es, hE, hp, hl⟩ := hown.entries keyed_str
    have hkI : ∀ p ∈ es, ∃ x, p.1 = .string x := by
      intro p hp1
      obtain ⟨x, e⟩ := hk p.1 (by
        rw [hE, Maps.has_eq, List.any_eq_true]
        exact ⟨p, hp1, WideAt.sameKey_self (hl p hp1)⟩)
      exact ⟨x, e⟩
    refine List.Perm.symm ?_
    rw [hE]
    refine perm_strKeys hp hkI (keysC_nodup hr) fun x => ?_
    rw [← hE, mpF_keys]
    rcases hf x with ⟨h1, h2⟩ | ⟨v, h1, h2, _⟩
    · rw [h1, h2]; simp
    · rw [h2, h1]; simp
  · rw [mapS_size keyed_str hown hk hf (keysC_nodup hr) mpF_keys, keysC_length]
theorem sortedC_call {w : World} {b : Nat} {LV : List ObV} (h : MapS Try.prog 9 w b (mpF LV)) (hr : Rise (oL LV)) (hl : LV.length ≤ 1000) :
    Calls Try.prog 20 #[.func (.func 36) #[] #[.pointer (some ⟨w.heap.size, 0, none⟩)]] (w.alloc (.cells #[.map (some b)] 60)) fun e w' => ∃ v, e = .returned v ∧ w'.ownsRow w.heap.size 9 1 v LV.length ((keysC LV).map encStr) ∧ Below w.heap.size w w' := by
  have hbl := h.lt
  obtain ⟨D0, hown, hp, hs⟩ := strKeys_perm h hr
  have hseq : SeqGives Fence.wide 2 Try.prog 36 #[.pointer (some ⟨w.heap.size, 0, none⟩)] encStr (fun ss => ss.Perm (strKeys D0)) (Maps.size D0) (w.alloc (.cells #[.map (some b)] 60)) :=
    AnyZ.keys_gives (ρ := laykeysC_ren) { laykeysC with } Fence.wide _ trivial rfl (by omega) w.heap.size b _ D0 _ (by simp) (by simp) (by
      obtain ⟨es, clock, hb, Ft, hs, hD⟩ := hown
      exact ⟨es, clock, (Below.heap_alloc _ _ b hbl).trans hb, Ft, hs, hD⟩)
  have cS := AnyZ.sorted_in laysortedC Fence.wide 5 trivial trivial trivial trivial rfl (by omega) (sortsC _) (enters_of Try.func35 (by kernel_rfl) rfl) 36 #[.pointer (some ⟨w.heap.size, 0, none⟩)] trivial (enters_of Try.func36 (by kernel_rfl) rfl) _ _ (by unfold maxLen; omega) (by omega) _ hseq
  refine (Calls.mono ((callsIn_wide (n := 5)).1 cS) ?_)
  rintro e w' ⟨v, ss, rfl, hS, hrow, hnil, hb⟩
  refine ⟨v, rfl, ?_, ((Below.refl _ w).alloc (Nat.le_refl _) _).trans (hb.mono (by simp))⟩
  have hp2 := hS.trans hp
  have e1 := keysC_sorted hr hp2
  rw [e1, hp2.length_eq, keysC_length] at hrow
  exact ownsRow_base_a hrow (by simp)
end Go.Proofs.Ytndlfmofjmieaab.Gf

namespace Go.Proofs.Ytndlfmofjmieaab.Gf
set_option linter.unusedVariables false
set_option linter.unusedSimpArgs false
open Go.RowKit
open Go.Maps (Keyed)
/-- what All answers -/
def AllC19 (w : World) (L : List ObS) (e : Ending) (w' : World) : Prop := ∃ v M, e = .returned v ∧ OwnOb w' w.heap.size v M ∧ oL M = L ∧ Below w.heap.size w w'
theorem OwnOb.weak19 {w : World} {base base' : Nat} {v : Value} {L : List ObV} (h : OwnOb w base v L) (hb : base' ≤ base) : OwnOb w base' v L :=
  ⟨by
    obtain ⟨h0, h | ⟨g2, cap, cur, hv, hgg, hh, r⟩⟩ := h.row
    · exact ⟨h0, Or.inl h⟩
    · exact ⟨h0, Or.inr ⟨g2, cap, cur, hv, Nat.le_trans hb hgg, hh, r⟩⟩, h.ea, fun c hc x n k e => (h.ap c hc x n k e).imp id fun q => ⟨Nat.le_trans hb q.1, q.2⟩⟩
theorem OwnOb.form19' {w : World} {base : Nat} {v : Value} {M : List ObV} (h : OwnOb w base v M) : ∃ a c, v = .slice a M.length c ∧ (a = none ∨ ∃ b off, a = some ⟨b, off, none⟩) := by
  obtain ⟨_, ⟨h1, h2⟩ | ⟨g, cap, cur, hv, _⟩⟩ := h.row
  · exact ⟨none, 0, by rw [h1, h2], Or.inl rfl⟩
  · exact ⟨_, cap, hv, Or.inr ⟨g, 0, rfl⟩⟩
set_option maxRecDepth 100000 in
set_option maxHeartbeats 4000000 in
theorem call19_any {w : World} {cb mb : Nat} {g : GeoS} {LV : List ObV} {P : Nat → Prop} (h : CatI w cb mb g LV P) : Calls Try.prog 7 #[.pointer (some ⟨cb, 0, none⟩)] w (AllC19 w (oL LV)) := by
  have H := hidK h
  have l4 := h.few.2
  have c6 := h.c6
  have KK := keysC_call (some mb) w
  have KS := sortedC_call h.mp h.inv.rise (by omega)
  clear h
  go_enter Try.func7, Try.ntmps7
  go_wp2_with fail
  refine KK.mono ?_
  clear KK
  rintro _ wq ⟨rfl, eq⟩
  rw [eq]
  clear eq wq
  go_wp2_with fail
  refine KS.mono ?_
  clear KS
  rintro _ w3 ⟨vk, rfl, hrow, b3⟩
  obtain ⟨ka, kc, rfl⟩ : ∃ a c, vk = .slice a LV.length c := by
    obtain ⟨_, ⟨h1, h2⟩ | ⟨g, cap, cur, hv, _⟩⟩ := hrow
    · exact ⟨none, 0, by rw [h1, h2]⟩
    · exact ⟨_, cap, hv⟩
  have KC : Hid (∀ V, Below w3.heap.size w3 V → ∀ r, r < LV.length → ∃ kb, ka = some ⟨kb, 0, none⟩ ∧ V.cell? ⟨kb, r, none⟩ = some (.string ⟨((keysC LV).getD r []).toArray⟩)) := fun V bV r hr => by
    have hrow' := hrow
    obtain ⟨_, ⟨h1, h2⟩ | ⟨g, cap, cur, hv, hg, hh, hc, hm, hs, ht⟩⟩ := hrow
    · omega
    · simp at hv
      obtain ⟨rfl, rfl⟩ := hv
      have hlt := World.ownsRow.lt hrow' g rfl
      refine ⟨g, rfl, (bV.cell (p := ⟨g, r, none⟩) hlt.2).trans ?_⟩
      rw [World.ownsRow.cellAt hrow' r (by omega), List.getElem?_map, List.getElem?_eq_getElem (by rw [keysC_length]; exact hr)]
      simp [encStr, List.getD, show r < (keysC LV).length by rw [keysC_length]; exact hr]
  have B3 := hidK b3
  clear hrow b3 c6
  go_wp2_with fail
  go_loopw [3, 15] (fun l i wr => ∃ (r : Nat) (M : List ObV), r ≤ LV.length ∧ i = .int .i64 (r : Int) ∧ Hid (OwnOb wr w3.heap.size l M) ∧ Hid (oL M = oL (LV.take r)) ∧ Hid (Below w3.heap.size w3 wr)) (fun _ i _ => LV.length - (intOf i).toNat)
  case atStart => exact ⟨0, [], Nat.zero_le _, rfl, OwnOb.nil _ _, rfl, Below.refl _ _⟩
  case round =>
    obtain ⟨r, M, hr, rfl, hO, hM, hB⟩ := hrel
    by_cases hlt : r < LV.length
    · have hlt' : (r : Int) < (LV.length : Int) := by omega
      obtain ⟨kb, rfl, ck⟩ := KC.out wr hB.out r hlt
      have BW := hidK (B3.out.stepL hB.out B3.out.size)
      have C2 := H.out.below BW.out
      have hm : LV[r] ∈ LV := List.getElem_mem hlt
      have ek : (keysC LV).getD r [] = LV[r].o.key := by
        unfold keysC
        simp [List.getD, hlt]
      have NX : Hid (oL (LV.take (r + 1)) = oL (LV.take r) ++ [LV[r].o]) := by
        show _ = _
        rw [List.take_succ_eq_append_getElem hlt]
        unfold oL
        rw [List.map_append]; rfl
      rw [ek] at ck
      have L2 := (C2.looks (C2.ok _ hm).ky).2
      have c6 := C2.c6
      have em : mpF LV LV[r].o.key = some (aggO LV[r]) := by unfold mpF; rw [finV_some H.out.inv.rise hm]; rfl
      rw [em] at L2
      have K2 := cown19_any (C2.ok _ hm) (by have := (C2.sts _ hm).1; omega)
      have HOK := hidK (C2.ok _ hm)
      clear ek em C2
      generalize LV[r] = c at ck NX L2 K2 HOK hm
      clear hm
      obtain ⟨⟨ky, ln, ep, st⟩, vs⟩ := c
      obtain ⟨sa, sc, es⟩ := HOK.out.rs.form
      simp only at es ck NX L2
      subst es
      have L3 : (Instr.lookup 60 (.map (some mb)) (.string ⟨ky.toArray⟩) false).run Try.prog wr = .ok (.agg #[.string ⟨ky.toArray⟩, .int .i64 ln, .int .i64 ep, .slice sa st.length sc]) wr := L2
      obtain ⟨oa, oc, el, _⟩ := hO.out.form19'
      subst el
      clear L2 HOK
      go_wp2_with fail
      refine K2.mono ?_
      clear K2 L3 ck c6
      rintro _ w5 ⟨v', rfl, ok5, nw5, b5⟩
      obtain ⟨pa, pc, ev'⟩ := ok5.rs.form
      simp only at ev'
      subst ev'
      rw [show aggO ⟨⟨ky, ln, ep, st⟩, .slice pa st.length pc⟩ = .agg #[.string ⟨ky.toArray⟩, .int .i64 ln, .int .i64 ep, .slice pa st.length pc] from rfl]
      have B5 := hidK (hB.out.stepL b5 hB.out.size)
      have O5 := hO.out.later b5
      have lit := lit_ob w5 ok5
      have bl : Below w5.heap.size w5 (w5.alloc (.cells #[.string ⟨ky.toArray⟩, .int .i64 ln, .int .i64 ep, .slice pa st.length pc] 39)) := belL _ _
      have O6 := O5.later bl
      have B6 := B5.out.stepL bl B5.out.size
      have hq : ∀ k, (Value.slice oa M.length oc).ownBlock = some k → w3.heap.size ≤ k ∧ k < wr.heap.size := fun k e => World.ownsRow.lt hO.out.row k e
      have nr : ∀ d ∈ [(⟨⟨ky, ln, ep, st⟩, .slice pa st.length pc⟩ : ObV)], NearR w3.heap.size (w5.alloc (.cells #[.string ⟨ky.toArray⟩, .int .i64 ln, .int .i64 ep, .slice pa st.length pc] 39)).heap.size (.slice oa M.length oc) d.vs := fun d hd x n k e => by
        simp only [List.mem_singleton] at hd
        subst hd
        rcases ok5.rs.lays x n k e with q | q
        · exact Or.inl q
        · have h1 := nw5 x n k e
          have h2 := hB.out.size
          have h3 := bl.size
          refine Or.inr ⟨by omega, by omega, fun q2 => ?_⟩
          have := (hq _ q2).2
          omega
      have ml : M.length = r := by
        have := congrArg List.length hM.out
        rw [oL_length, oL_length, List.length_take] at this
        omega
      have ol : M.length + [(⟨⟨ky, ln, ep, st⟩, .slice pa st.length pc⟩ : ObV)].length ≤ 100000 := by simp; omega
      have hbs : w3.heap.size ≤ (w5.alloc (.cells #[.string ⟨ky.toArray⟩, .int .i64 ln, .int .i64 ep, .slice pa st.length pc] 39)).heap.size := B6.size
      clear ml
      go_wp2_with (at_builtin; go_loud (refine wpList_append_obs rfl (.tmp 19) (.tmp 27) rfl rfl rfl O6 lit (CapO.some (Nat.le_refl _)) nr ol hbs ?_); intro v9 w9 h9 g9)
      have B9 : Hid (Below w3.heap.size w3 w9) := B6.grown g9.gr hbs (fun k e => (hq k e).1)
      have O9 := hidK h9
      have M9 : Hid (oL (M ++ [(⟨⟨ky, ln, ep, st⟩, .slice pa st.length pc⟩ : ObV)]) = oL (LV.take (r + 1))) := by
        show _ = _
        rw [NX.out, ← hM.out]
        unfold oL
        rw [List.map_append]; rfl
      clear h9 g9 O6 lit nr ol hbs hq O5 B5 B6 bl ok5 nw5 b5 hO hM hB NX BW
      go_wp2
      go_roundw
      case rel => exact ⟨r + 1, _, by omega, by go_num, O9, M9, B9⟩
      case measure => simp [intOf]; omega
    · obtain rfl : r = LV.length := by omega
      have hge : ¬ (LV.length : Int) < (LV.length : Int) := by omega
      have F : Hid (AllC19 w (oL LV) (.returned u3) wr) := ⟨u3, M, rfl, hO.out.weak19 B3.out.size, by rw [hM.out, List.take_length], B3.out.stepL hB.out B3.out.size⟩
      obtain ⟨oa, oc, el, _⟩ := hO.out.form19'
      subst el
      clear hO hM hB KC B3 H
      go_wp2
      go_ret
      exact F.out
end Go.Proofs.Ytndlfmofjmieaab.Gf
