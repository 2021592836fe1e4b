/- TEXTS JOINED: CtCI, CtCG. -/
import Derived.Test.YtndlfmofjmieaaaPome12
namespace Go.Proofs.Ytndlfmofjmieaaa.Gf
set_option linter.unusedVariables false
set_option linter.unusedSimpArgs false
open Go.RowKit
open Go.Maps (Keyed)
open Go.ChangeMaps Go.MapKept
set_option maxRecDepth 100000 in
set_option maxHeartbeats 1000000 in
theorem cindex19_any {w : World} {v : Value} {st : List Int} (h : RdI w v st) (hl : st.length ≤ 1000) (s : Int) : Calls Try.prog 61 #[v, .int .i64 s] w fun e w' => (∃ r : Int, e = .returned (.int .i64 r) ∧ (0 ≤ r ↔ s ∈ st)) ∧ w' = w := by
  obtain ⟨a, c, rfl⟩ := h.form
  have H := hidK h
  clear h
  go_enter Try.func61, Try.ntmps61
  go_wp2_with fail
  go_loopw [8] (fun i wr => ∃ r : Nat, r ≤ st.length ∧ i = .int .i64 (r : Int) ∧ wr = w ∧ Hid (∀ j, j < r → st.getD j 0 ≠ s)) (fun i _ => st.length - (intOf i).toNat)
  case atStart => exact ⟨0, Nat.zero_le _, rfl, rfl, fun j hj => absurd hj (Nat.not_lt_zero _)⟩
  case round =>
    obtain ⟨r, hr, rfl, hw, hj⟩ := hrel
    rw [hw]
    clear hw wr
    by_cases hlt : r < st.length
    · have hlt' : (r : Int) < (st.length : Int) := by omega
      obtain ⟨b, off, rfl, _, cs⟩ := H.out.at hlt
      have MEM : Hid (st.getD r 0 ∈ st) := by
        show _ ∈ _
        rw [show st.getD r 0 = st[r] by simp [List.getD, hlt]]
        exact List.getElem_mem hlt
      have NX : Hid (st.getD r 0 ≠ s → ∀ j, j < r + 1 → st.getD j 0 ≠ s) := fun e j hj3 => by
        by_cases e2 : j = r
        · rw [e2]; exact e
        · exact hj.out j (by omega)
      generalize st.getD r 0 = y at cs NX MEM
      by_cases e : s = y
      · subst e
        have F : Hid (∃ r' : Int, Ending.returned (.int .i64 (r : Int)) = .returned (.int .i64 r') ∧ (0 ≤ r' ↔ s ∈ st)) := ⟨_, rfl, fun _ => MEM.out, fun _ => Int.natCast_nonneg _⟩
        clear NX MEM hj H
        go_wp2
        exact bodyPost_ret (v := .int .i64 (r : Int)) (by simp [results, Try.results61, go_sem]) rfl ⟨F.out, rfl⟩
      · have e2 : (s == y) = false := beq_eq_false_iff_ne.2 e
        have N2 := hidK (NX.out fun q => e q.symm)
        clear NX MEM hj
        go_wp2
        go_roundw
        case rel => exact ⟨r + 1, by omega, by go_num, (by first | rfl | trivial), N2⟩
        case measure => simp [intOf]; omega
    · obtain rfl : r = st.length := by omega
      have hge : ¬ (st.length : Int) < (st.length : Int) := by omega
      have F : Hid (∃ r' : Int, Ending.returned (.int .i64 (-1)) = .returned (.int .i64 r') ∧ (0 ≤ r' ↔ s ∈ st)) := ⟨_, rfl, fun q => absurd q (by decide), fun hm => by
        obtain ⟨i, hi, e⟩ := List.getElem_of_mem hm
        exact absurd (by rw [← e]; simp [List.getD, hi]) (hj.out i hi)⟩
      clear hj H
      go_wp2
      exact bodyPost_ret (v := .int .i64 (-1)) (by simp [results, Try.results61, go_sem]) rfl ⟨F.out, rfl⟩
set_option maxRecDepth 100000 in
theorem ccontains19_any {w : World} {v : Value} {st : List Int} (h : RdI w v st) (hl : st.length ≤ 1000) (s : Int) {x : Bool} (hx : decide (s ∈ st) = x) : Calls Try.prog 47 #[v, .int .i64 s] w fun e w' => e = .returned (.bool x) ∧ w' = w := by
  have K := cindex19_any h hl s
  obtain ⟨a, c, rfl⟩ := h.form
  have HX := hidK hx
  clear h hx
  go_enter Try.func47, Try.ntmps47
  go_wp2_with fail
  refine K.mono ?_
  clear K
  rintro _ wq ⟨⟨r, rfl, hr⟩, eq⟩
  rw [eq]
  clear eq wq
  have e : x = decide (r ≥ 0) := by
    rw [← HX.out, decide_eq_decide]
    exact hr.symm
  subst e
  clear hr HX
  go_wp2
  go_ret
  exact ⟨rfl, rfl⟩
set_option maxRecDepth 100000 in
set_option maxHeartbeats 4000000 in
theorem cowner19_any {w : World} {cb mb : Nat} {g : GeoS} {LV : List ObV} {P : Nat → Prop} (h : CatI w cb mb g LV P) (s : Int) {E : Int} {B : Bool} (hE : (owK (oL LV) s).getD 0 = E) (hB : (owK (oL LV) s).isSome = B) :
    Calls Try.prog 22 #[.pointer (some ⟨cb, 0, none⟩), .int .i64 s] w fun e w' => e = .returned (.tuple #[.int .i64 E, .bool B]) ∧ Below w.heap.size w w' := by
  have H := hidK h
  have c6 := h.c6
  obtain ⟨D, hown, hk, hf⟩ := h.mp
  have HN : Hid ((∀ c ∈ LV, s ∉ c.o.st) → E = 0 ∧ B = false) := fun q => by
    have e : owK (oL LV) s = none := owK_none.2 fun o ho => by
      obtain ⟨c, hc, rfl⟩ := List.mem_map.1 ho
      exact q c hc
    rw [← hE, ← hB, e]
    exact ⟨rfl, rfl⟩
  have HY : Hid (∀ c ∈ LV, s ∈ c.o.st → E = c.o.ep ∧ B = true) := fun c hc q => by
    have e := owK_of H.out.inv.apart (List.mem_map_of_mem hc) q
    rw [← hE, ← hB, e]
    exact ⟨rfl, rfl⟩
  clear h hE hB
  go_enter Try.func22, Try.ntmps22
  go_wp2_with (first | (at_range; go_loud (refine wpList_range_own _ rfl _ 70 rfl 9 52 keyed_str under_omap RV mb (Maps.size D) D rfl hown ?_); intro w0 hrg0 hg0 hs0) | go_in)
  go_frame
  have B0 : Below w.heap.size w w0 := ⟨hg0.os, hg0.tape, hg0.output, hg0.size, fun k hk => hg0.block k hk (by simp)⟩
  obtain ⟨it, hit⟩ : ∃ it, Hid (it = w.heap.size) := ⟨_, rfl⟩
  have CF : Hid (∀ X, TurnG (fun x => x = it) w0 X → CatI X cb mb g LV P) := fun X t => by
    have q4 := H.out.lt
    have q5 := H.out.mp.lt
    have q1 := hit.out
    refine (H.out.below B0).turn t (by omega) (by omega) fun c hc x m e ev => ?_
    rcases (H.out.ok c hc).rs.lays x m e ev with q | q
    · exact Or.inl q
    · exact Or.inr (by omega)
  have START : Hid (∀ c ∈ LV, Maps.has D (.string c.o.key) = false → s ∉ c.o.st) := fun c hc q => by
    rcases hf c.o.key with ⟨_, q2⟩ | ⟨_, _, q2, _⟩
    · have := (keysC_mem (L := LV) (d := c.o.key)).1 (List.mem_map_of_mem hc)
      rw [← mpF_some, q2] at this
      cases this
    · rw [q2] at q; cases q
  have RISE := hidK H.out.inv.rise
  have HF := hidK hf
  have BW0 := hidK B0
  have ZI : Hid (w.heap.size = it) := hit.out.symm
  have S0 := hs0
  rw [← hit.out] at hrg0
  rw [ZI.out]
  have lw0 : it < w0.heap.size := by rw [S0, hit.out]; omega
  clear hk hf hown B0 hg0 hs0 S0 hit H c6
  go_loopw [16] (fun _ wq => ∃ (left : Lit → Bool) (cn : Nat), wq.ranges Try.prog 9 RV mb it (Maps.size D) D left cn ∧ Hid (∀ c ∈ LV, left (.string c.o.key) = false → s ∉ c.o.st) ∧ Hid (TurnG (fun x => x = it) w0 wq)) (fun _ wq => wq.rangeLeft mb it)
  case atStart => exact ⟨_, _, hrg0, START, TurnG.refl _ _⟩
  case round =>
    clear hrg0 START
    obtain ⟨left, cn, hrg, hNo, hT⟩ := hrel
    go_wp2_with (first | (at_next; go_loud (refine wpList_next_ranges _ rfl _ rfl 9 keyed_str RV (fun d : List UInt8 => Value.string ⟨d.toArray⟩) id (fun key kl h => by obtain ⟨d, e, _⟩ := invKs key kl h; exact ⟨d, e⟩) (fun v y _ => ⟨v, rfl⟩) mb it (Maps.size D) D left cn rfl hrg ?_ ?_)) | go_in)
    · intro hc0 hl0
      obtain ⟨rfl, rfl⟩ := HN.out fun c hc => hNo.out c hc (hl0 _)
      have FIN : Hid (Below w.heap.size w wr) := BW0.out.trans (hT.out.below (fun x hx => by rw [hx, ZI.out]; exact Nat.le_refl _) (by rw [ZI.out]; omega))
      clear hNo hT hrg hl0 hc0 CF BW0 HF RISE HN HY
      go_wp2
      exact bodyPost_ret (v := .tuple #[.int .i64 0, .bool false]) (by simp [results, Try.results22, go_sem]) rfl ⟨rfl, FIN.out⟩
    · intro d v kl yd ys w1 cn1 hkey hlk hv hat hrg1 hlt1 hg1 hs1 hen
      obtain ⟨d', ek, ekl⟩ := invKs _ _ hkey
      have ed : d = d' := by simpa using ek
      subst ed
      subst ekl
      have eyd : yd = .held v := RV_inv hv
      subst eyd
      obtain ⟨o, ho, ek2, ev⟩ := entry19 HF.out (d := d) (v := v) (fun zd => hat zd)
      subst ek2
      subst ev
      obtain ⟨V1, hV1⟩ : ∃ V1, V1 = w1.alloc (.cells #[.string ⟨o.o.key.toArray⟩, .int .i64 o.o.len, .int .i64 o.o.ep, o.vs] 52) := ⟨_, rfl⟩
      have bV1 : Below w1.heap.size w1 V1 := by rw [hV1]; exact belL _ _
      have V3 : V1.cell? ⟨w1.heap.size, 3, none⟩ = some o.vs := by rw [hV1, World.cell?_alloc_new]; rfl
      have V2 : V1.cell? ⟨w1.heap.size, 2, none⟩ = some (.int .i64 o.o.ep) := by rw [hV1, World.cell?_alloc_new]; rfl
      have g1 : TurnG (fun x => x = it) wr w1 := ⟨hg1.os, hg1.tape, hg1.output, hg1.size, fun j hj hne => hg1.block j hj (by intro q; simp at q; exact hne q)⟩
      have hT1 : TurnG (fun x => x = it) w0 V1 := (hT.out.trans g1).trans (Below.turnG bV1 _)
      have C1 := CF.out V1 hT1
      have lit1 : it < w1.heap.size := hrg1.lt
      have rV : Hid (V1.ranges Try.prog 9 RV mb it (Maps.size D) D (fun z => left z && !z.sameKey (.string o.o.key)) cn1) := ranges_blocks19 hrg1 (bV1.block mb hrg1.owns.lt) (bV1.block it lit1)
      have RD := hidK (C1.ok o ho).rs
      have SL := (C1.sts o ho).1
      have HYo := hidK (HY.out o ho)
      have STEP : Hid (s ∉ o.o.st → ∀ c ∈ LV, (left (.string c.o.key) && !(Lit.string c.o.key).sameKey (.string o.o.key)) = false → s ∉ c.o.st) := fun q c hc e => by
        cases q2 : left (.string c.o.key) with
        | false => exact hNo.out c hc q2
        | true =>
          rw [q2] at e
          simp at e
          have e3 := WideAt.sameKey_eq e
          simp at e3
          have f1 := finV_some RISE.out hc
          have f2 := finV_some RISE.out ho
          rw [e3, f2] at f1
          cases f1
          exact q
      have MEAS : Hid (V1.rangeLeft mb it < wr.rangeLeft mb it) := by show _ < _; rw [rV.out.left_eq, hrg.left_eq]; exact hlt1
      have hT2 := hidK hT1
      have FIN : Hid (Below w.heap.size w V1) := BW0.out.trans (hT1.below (fun x hx => by rw [hx, ZI.out]; exact Nat.le_refl _) (by rw [ZI.out]; omega))
      obtain ⟨sa, sc, evs⟩ := RD.out.form
      obtain ⟨⟨ky, ln, ep, st⟩, vs⟩ := o
      simp only at evs V2 V3 hV1 RD STEP rV SL HYo
      subst evs
      obtain ⟨x, hx⟩ : ∃ x, decide (s ∈ st) = x := ⟨_, rfl⟩
      have K := ccontains19_any RD.out (by omega) s hx
      have hen' : (Instr.entry (.pointer (some ⟨it, 0, none⟩))).run Try.prog w1 = .ok (.tuple #[.string ⟨ky.toArray⟩, .agg #[.string ⟨ky.toArray⟩, .int .i64 ln, .int .i64 ep, .slice sa st.length sc]]) w1 := hen
      have HX := hidK hx
      clear hkey hlk hv hat hrg1 hlt1 hg1 hs1 hen hT1 hT bV1 g1 C1 hrg HF ho ek lit1 CF BW0 RISE HN HY hNo RD hx
      go_wp2_with fail
      rw [← hV1]
      clear hen' hV1
      refine K.mono ?_
      clear K
      rintro _ wq ⟨rfl, eq⟩
      rw [eq]
      clear eq wq
      cases x with
      | true =>
        obtain ⟨rfl, rfl⟩ := HYo.out (of_decide_eq_true HX.out)
        clear HYo STEP MEAS hT2 rV HX
        go_wp2
        exact bodyPost_ret (v := .tuple #[.int .i64 E, .bool true]) (by simp [results, Try.results22, go_sem]) rfl ⟨rfl, FIN.out⟩
      | false =>
        have NO := hidK (STEP.out (of_decide_eq_false HX.out))
        clear HYo STEP HX FIN V2 V3
        go_wp2
        go_roundw
        case rel => exact ⟨_, _, rV.out, NO, hT2⟩
        case measure => exact MEAS.out
end Go.Proofs.Ytndlfmofjmieaaa.Gf

namespace Go.Proofs.Ytndlfmofjmieaaa.Gf
set_option linter.unusedVariables false
set_option linter.unusedSimpArgs false
open Go.RowKit
theorem FarI19 {w : World} {base e : Nat} {v : Value} {zs : List Nat} (h : OwnI w base e v zs) : NewS base v := fun x n c ev => by
  obtain ⟨_, ⟨hv, hn⟩ | ⟨g, cap, cur, hv, hgb, _⟩⟩ := h
  · rw [hv] at ev; simp at ev
  · rw [hv] at ev
    simp at ev
    obtain ⟨rfl, _, _⟩ := ev
    exact hgb
theorem capI19 {w : World} {base e : Nat} {a : Option Addr} {n c : Nat} {zs : List Nat} (h : OwnI w base e (.slice a n c) zs) : n ≤ c := by
  obtain ⟨_, ⟨hv, hn⟩ | ⟨g, cap, cur, hv, hgb, _, hle, _⟩⟩ := h
  · simp at hv; omega
  · simp at hv
    obtain ⟨rfl, rfl, rfl⟩ := hv
    exact hle
theorem RdI.take19 {w : World} {a : Option Addr} {c : Nat} {Z : List Nat} (h : RdI w (.slice a Z.length c) (toI Z)) {m : Nat} (hm : m ≤ Z.length) : RdI w (.slice a m c) ((Z.map fun (i : Nat) => (i : Int)).take m) := by
  show RdI w (.slice a m c) ((toI Z).take m)
  have hl : ((toI Z).take m).length = m := by rw [List.length_take, toI_length]; omega
  by_cases h0 : m = 0
  · subst h0
    exact Or.inl ⟨a, c, by simp, rfl⟩
  · rcases h with ⟨_, _, e, _⟩ | ⟨b, off, cap, h1, h2, h3, h4, h5⟩
    · have : (toI Z).length = 0 := by rw [e]; rfl
      rw [toI_length] at this
      omega
    · simp at h2
      obtain ⟨rfl, _, rfl⟩ := h2
      refine Or.inr ⟨b, off, c, fun e => by rw [e] at hl; simp at hl; omega, by rw [hl], by rw [hl]; rw [toI_length] at h3; omega, h4, fun i hi => ?_⟩
      rw [hl] at hi
      have e : ((toI Z).take m).getD i 0 = (toI Z).getD i 0 := by simp [List.getD, List.getElem?_take_of_lt hi]
      rw [e]
      exact h5 i (by rw [toI_length]; omega)
def PlanC19 (w : World) (X : Int) (R : List Int) (e : Ending) (w' : World) : Prop := ∃ v, e = .returned (.tuple #[v, .int .i64 X]) ∧ RdI w' v R ∧ NewS w.heap.size v ∧ Below w.heap.size w w'
theorem planC_nil {w w' : World} {X : Int} (b : Below w.heap.size w w') : PlanC19 w X [] (.returned (.tuple #[.slice none 0 0, .int .i64 X])) w' := ⟨_, rfl, Or.inl ⟨none, 0, rfl, rfl⟩, fun x n c e => by simp at e, b⟩
set_option maxRecDepth 100000 in
set_option maxHeartbeats 2000000 in
theorem cplan19_any {w : World} {cb mb : Nat} {g : GeoS} {LV : List ObV} {P : Nat → Prop} (h : CatI w cb mb g LV P) {k : List UInt8} (hk : k.length ≤ maxLen) {n : Int} (hn : (Lit.int .i64 n).wf = true) {X : Int} {R : List Int} (hX : plX g (oL LV) k n = X) (hR : plR g (oL LV) k n = R) :
    Calls Try.prog 24 #[.pointer (some ⟨cb, 0, none⟩), .string ⟨k.toArray⟩, .int .i64 n] w (PlanC19 w X R) := by
  have H := hidK h
  obtain ⟨ns, hns⟩ : ∃ m : Nat, Hid (g.s = (m : Int)) := ⟨g.s.toNat, by obtain ⟨_, _, _, _, _, q, _⟩ := h.gok; show _ = _; omega⟩
  have KF : ∀ V, Below w.heap.size w V → Calls Try.prog 46 #[.pointer (some ⟨cb, 0, none⟩)] V (Free19 V (frF (oL LV) ns)) := fun V bV => cfree19_any (H.out.below bV) hns.out
  obtain ⟨nx, hnx⟩ : ∃ z, Hid (neG g n = z) := ⟨_, rfl⟩
  have KN : ∀ V, Calls Try.prog 21 #[aggG g, .int .i64 n] V fun e w' => e = .returned (.int .i64 nx) ∧ Below V.heap.size V w' := fun V => lneeds_any H.out.gw hn hnx.out
  obtain ⟨rm, hrm⟩ : ∃ b, Hid (decide (finV LV k ≠ none ∨ (LV.length : Int) < g.o) = b) := ⟨_, rfl⟩
  have KR : ∀ V, Below w.heap.size w V → Calls Try.prog 49 #[.pointer (some ⟨cb, 0, none⟩), .string ⟨k.toArray⟩] V fun e w' => e = .returned (.bool rm) ∧ Below V.heap.size V w' := fun V bV => croom19_any (H.out.below bV) hk hrm.out
  have PR : ∀ {z : Int}, plX g (oL LV) k n = z → z ≠ 0 → X = z ∧ R = [] := fun {z} e q => by
    refine ⟨hX.symm.trans e, ?_⟩
    rw [← hR]
    unfold plR
    rw [e, if_neg q]
  have P1 : Hid (k.length = 0 ∨ 64 < k.length → X = 190 ∧ R = []) := fun q => PR (by
    have e : plP g (oL LV) k n = 190 := if_pos q
    unfold plX; rw [e, if_pos (by decide)]) (by decide)
  have P2 : Hid (¬ (k.length = 0 ∨ 64 < k.length) → ¬ OkN n → X = 1 ∧ R = []) := fun q q2 => PR (by
    have e : plP g (oL LV) k n = 1 := by
      unfold plP
      rw [if_neg q, if_pos]
      unfold OkN at q2
      omega
    unfold plX; rw [e, if_pos (by decide)]) (by decide)
  have RMI : (¬ (finK (oL LV) k = none ∧ g.o ≤ ((oL LV).length : Int))) ↔ (finV LV k ≠ none ∨ (LV.length : Int) < g.o) := by
    rw [oL_length]
    by_cases q : finV LV k = none
    · have q' := finV_none.1 q
      simp [q, q']
    · have q' : ¬ finK (oL LV) k = none := fun e => q (finV_none.2 e)
      simp [q, q']
  have P3 : Hid (¬ (k.length = 0 ∨ 64 < k.length) → OkN n → rm = false → X = 191 ∧ R = []) := fun q q2 q3 => PR (by
    have z := of_decide_eq_false (hrm.out.trans q3)
    have e : plP g (oL LV) k n = 191 := by
      unfold plP
      rw [if_neg q, if_neg (by unfold OkN at q2; omega), if_pos (Decidable.not_not.1 fun k => z (RMI.1 k))]
    unfold plX; rw [e, if_pos (by decide)]) (by decide)
  have P4 : Hid (¬ (k.length = 0 ∨ 64 < k.length) → OkN n → rm = true → (((frF (oL LV) ns).length : Int) < nx → X = 192 ∧ R = []) ∧ (¬ ((frF (oL LV) ns).length : Int) < nx → X = 0 ∧ R = ((frF (oL LV) ns).map fun (i : Nat) => (i : Int)).take nx.toNat)) := fun q q2 q3 => by
    have z := of_decide_eq_true (hrm.out.trans q3)
    have e : plP g (oL LV) k n = 0 := by
      unfold plP
      rw [if_neg q, if_neg (by unfold OkN at q2; omega), if_neg (RMI.2 z)]
    have en : g.s.toNat = ns := by rw [hns.out]; rfl
    have ef : (frC g (oL LV) : Int) = ((frF (oL LV) ns).length : Int) := by rw [frC_F, en]
    constructor
    · intro q4
      exact PR (by unfold plX; rw [e, if_neg (by decide), ef, hnx.out, if_pos q4]) (by decide)
    · intro q4
      have ex : plX g (oL LV) k n = 0 := by unfold plX; rw [e, if_neg (by decide), ef, hnx.out, if_neg q4]
      refine ⟨hX.symm.trans ex, ?_⟩
      rw [← hR]
      unfold plR
      rw [if_pos ex, frL_F, en, hnx.out]
  have NX0 : Hid (OkN n → 0 ≤ nx) := fun q => by rw [← hnx.out]; exact neG_zero H.out.gok q.1
  have FLE := frF_le (oL LV) ns
  have n6 : ns ≤ 256 := by
    obtain ⟨_, _, _, _, _, _, q, _⟩ := h.gok
    have := hns.out
    omega
  obtain ⟨Z, hZ⟩ : ∃ Z, frF (oL LV) ns = Z := ⟨_, rfl⟩
  rw [hZ] at KF P4 FLE
  have SG : Hid (∀ V, Below w.heap.size w V → GeoAt V cb g) := fun V bV => (H.out.below bV).ge
  clear h hX hR PR RMI hns hnx hrm hZ H
  obtain ⟨gk, gm, gz, gs, gt, go⟩ := g
  rw [aggE] at KN
  have SF : Hid (∀ V, Below w.heap.size w V → V.cell? ⟨cb, 0, none⟩ = some (.int .i64 gk) ∧ V.cell? ⟨cb, 1, none⟩ = some (.int .i64 gm) ∧ V.cell? ⟨cb, 2, none⟩ = some (.int .i64 gz) ∧ V.cell? ⟨cb, 3, none⟩ = some (.int .i64 gs) ∧ V.cell? ⟨cb, 4, none⟩ = some (.int .i64 gt) ∧ V.cell? ⟨cb, 5, none⟩ = some (.int .i64 go)) := fun V bV => SG.out V bV
  clear SG
  by_cases h1 : k.length = 0 ∨ 64 < k.length
  · obtain ⟨rfl, rfl⟩ := P1.out h1
    clear P1 P2 P3 P4 KF KN KR NX0 SF
    by_cases h2 : (k.length : Int) < 1
    · go_enter Try.func24, Try.ntmps24
      go_wp2
      exact bodyPost_ret (v := .tuple #[.slice none 0 0, .int .i64 190]) (by simp [results, Try.results24, go_sem]) rfl (planC_nil (Below.refl _ _))
    · have h3 : (k.length : Int) > 64 := by omega
      go_enter Try.func24, Try.ntmps24
      go_wp2
      exact bodyPost_ret (v := .tuple #[.slice none 0 0, .int .i64 190]) (by simp [results, Try.results24, go_sem]) rfl (planC_nil (Below.refl _ _))
  have h2 : ¬ (k.length : Int) < 1 := by omega
  have h3 : ¬ (k.length : Int) > 64 := by omega
  have H1 := hidK h1
  clear h1
  by_cases hok : OkN n
  rotate_left
  · obtain ⟨rfl, rfl⟩ := P2.out H1.out hok
    have K2 := fun V => @cmay19_any n V false (decide_eq_false hok)
    clear P1 P2 P3 P4 KF KN KR NX0 SF
    go_enter Try.func24, Try.ntmps24
    go_wp2_with fail
    refine (K2 _).mono ?_
    rintro _ _ ⟨rfl, rfl⟩
    go_wp2
    exact bodyPost_ret (v := .tuple #[.slice none 0 0, .int .i64 1]) (by simp [results, Try.results24, go_sem]) rfl (planC_nil (Below.refl _ _))
  have K2 := fun V => @cmay19_any n V true (decide_eq_true hok)
  have NZ := NX0.out hok
  have Q3 := hidK (P3.out H1.out hok)
  have Q4 := hidK (P4.out H1.out hok)
  have K3 := KR w (Below.refl _ _)
  clear P1 P2 P3 P4 KR NX0 H1 hok
  go_enter Try.func24, Try.ntmps24
  go_wp2_with fail
  refine (K2 _).mono ?_
  clear K2
  rintro _ wq ⟨rfl, eq⟩
  rw [eq]
  clear eq wq
  go_wp2_with fail
  refine K3.mono ?_
  clear K3
  rintro _ w2 ⟨rfl, b2⟩
  have B2 := hidK b2
  clear b2
  cases rm with
  | false =>
    obtain ⟨rfl, rfl⟩ := Q3.out (by first | rfl | trivial)
    clear Q3 Q4 KF KN SF
    go_wp2
    exact bodyPost_ret (v := .tuple #[.slice none 0 0, .int .i64 191]) (by simp [results, Try.results24, go_sem]) rfl (planC_nil B2.out)
  | true =>
  have Q5 := hidK (Q4.out (by first | rfl | trivial))
  clear Q3 Q4
  have BD := hidK (B2.out.stepL (Below.refl _ _).drew B2.out.size)
  have G0 := SF.out _ BD.out
  have K4 := KF _ BD.out
  clear B2 KF
  go_wp2_with fail
  refine wp_region_held_drew (S := fun V => V.cell? ⟨cb, 0, none⟩ = some (.int .i64 gk) ∧ V.cell? ⟨cb, 1, none⟩ = some (.int .i64 gm) ∧ V.cell? ⟨cb, 2, none⟩ = some (.int .i64 gz) ∧ V.cell? ⟨cb, 3, none⟩ = some (.int .i64 gs) ∧ V.cell? ⟨cb, 4, none⟩ = some (.int .i64 gt) ∧ V.cell? ⟨cb, 5, none⟩ = some (.int .i64 go)) (by kernel_rfl) G0 (fun hHeld => ?_)
  refine tkH 0 ?_
  refine tkH 2 ?_
  refine tkH 3 ?_
  refine tkH 4 ?_
  refine tkH 5 ?_
  refine tkH 6 ?_
  clear hHeld G0
  refine rnH 1 (fun K' hK => ?_)
  go_simp
  go_at_call 46
  refine K4.mono ?_
  clear K4
  rintro _ w4 ⟨v, rfl, hO, b4⟩
  dsimp only
  have B4 := hidK (BD.out.stepL b4 BD.out.size)
  obtain ⟨oa, oc, rfl⟩ := hO.form
  have RD := hidK (hO.rd (by omega))
  have NW : Hid (NewS w.heap.size (.slice oa Z.length oc)) := fun x m e ev => by
    have h1 := FarI19 hO x m e ev
    have h2 := BD.out.size
    omega
  have CP : Z.length ≤ oc := capI19 hO
  refine koH hK (SF.out _ B4.out) fun hHeld => ?_
  clear hK K' hHeld b4
  refine rnH 7 (fun K' hK => ?_)
  go_simp
  go_at_call 21
  refine (KN _).mono ?_
  clear KN
  rintro _ w5 ⟨rfl, b5⟩
  dsimp only
  have B5 := hidK (B4.out.stepL b5 B4.out.size)
  have RD5 := hidK (RD.out.below b5)
  refine koH hK (SF.out _ B5.out) fun hHeld => ?_
  clear hK K' b5 RD hO B4
  refine tkH 8 ?_
  refine tkH 9 ?_
  refine wpAnyH_done (by kernel_rfl) ?_ _
  clear hHeld SF BD
  by_cases hl : (Z.length : Int) < nx
  · obtain ⟨rfl, rfl⟩ := Q5.out.1 (by omega)
    clear Q5 RD5 NW
    go_wp2
    exact bodyPost_ret (v := .tuple #[.slice none 0 0, .int .i64 192]) (by simp [results, Try.results24, go_sem]) rfl (planC_nil B5.out)
  · obtain ⟨rfl, rfl⟩ := Q5.out.2 (by omega)
    obtain ⟨m, rfl⟩ : ∃ m : Nat, nx = (m : Int) := ⟨nx.toNat, by omega⟩
    have hm : m ≤ Z.length := by omega
    have hm2 : m ≤ oc := by omega
    have hm3 : (m : Int) ≤ (oc : Int) := by omega
    have F : Hid (PlanC19 w 0 ((Z.map fun (i : Nat) => (i : Int)).take m) (.returned (.tuple #[.slice oa m oc, .int .i64 0])) w5) := by
      refine ⟨_, rfl, ?_, fun x a b ev => ?_, B5.out⟩
      · exact RD5.out.take19 hm
      · simp at ev
        obtain ⟨rfl, rfl, rfl⟩ := ev
        exact NW.out _ _ _ rfl
    clear Q5 RD5 NW B5
    go_wp2
    exact bodyPost_ret (v := .tuple #[.slice oa m oc, .int .i64 0]) (by simp [results, Try.results24, go_sem]) rfl F.out
end Go.Proofs.Ytndlfmofjmieaaa.Gf
