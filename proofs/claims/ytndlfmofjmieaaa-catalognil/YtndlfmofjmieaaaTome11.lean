/- TEXTS JOINED: CtCH, CtCG. -/
import Derived.Test.YtndlfmofjmieaaaTome9
namespace Go.Proofs.Ytndlfmofjmieaaa.Gf
set_option linter.unusedVariables false
set_option linter.unusedSimpArgs false
open Go.RowKit
set_option maxRecDepth 100000 in
set_option maxHeartbeats 2000000 in
theorem capply19_nil {w : World} {c : RcV} {ep : Int} : Calls Try.prog 25 #[.pointer none, aggR c, .int .i64 ep] w fun e w' => e = .returned (.int .i64 1) ∧ Below w.heap.size w w' := by
  have B : Hid (∀ o : Obj, Below w.heap.size w (w.alloc o)) := fun o => belL _ _
  show Calls Try.prog 25 #[.pointer none, .agg #[.int .i64 c.r.kind, .string ⟨c.r.key.toArray⟩, .int .i64 c.r.len, c.vs], .int .i64 ep] w _
  go_enter Try.func25, Try.ntmps25
  go_wp2
  go_ret
  exact ⟨rfl, B.out _⟩
set_option maxRecDepth 100000 in
set_option maxHeartbeats 2000000 in
theorem capply19_any {w : World} {cb mb : Nat} {g : GeoS} {LV : List ObV} {P : Nat → Prop} (h : CatI w cb mb g LV P) {c : RcV} (hc : c.In w) {ep : Int} (he : (Lit.int .i64 ep).wf = true) {X : Int} {L : List ObS} (hX : apCX g (oL LV) c.r ep = X) (hL : apCS g (oL LV) c.r ep = L) :
    Calls Try.prog 25 #[.pointer (some ⟨cb, 0, none⟩), aggR c, .int .i64 ep] w (Put19 w cb mb g P X L) := by
  obtain ⟨⟨kd, ky, ln, st⟩, vs⟩ := c
  have HC := hidK hc
  obtain ⟨sa, sc, e⟩ := hc.rs.form
  simp only at e hX hL
  subst e
  have H := hidK h
  clear h hc
  obtain ⟨ck, hck⟩ : ∃ z, Hid (chR ⟨kd, ky, ln, st⟩ = z) := ⟨_, rfl⟩
  have KC : ∀ V, Below w.heap.size w V → Calls Try.prog 50 #[.agg #[.int .i64 kd, .string ⟨ky.toArray⟩, .int .i64 ln, .slice sa st.length sc]] V fun e w' => e = .returned (.int .i64 ck) ∧ Below V.heap.size V w' := fun V bV =>
    chk16_any (c := ⟨⟨kd, ky, ln, st⟩, .slice sa st.length sc⟩) (HC.out.below bV) hck.out
  have CKO : ck = 0 ↔ OkR ⟨kd, ky, ln, st⟩ := by
    rw [← hck.out]
    unfold chR
    by_cases q : OkR ⟨kd, ky, ln, st⟩
    · rw [if_pos q]; exact ⟨fun _ => q, fun _ => rfl⟩
    · rw [if_neg q]; exact ⟨fun k => absurd k (by decide), fun k => absurd k q⟩
  have KD : ∀ V, Below w.heap.size w V → Calls Try.prog 51 #[.pointer (some ⟨cb, 0, none⟩), .string ⟨ky.toArray⟩] V (Leaves19 V cb mb g P (if finV LV ky = none then 193 else 0) (deV LV ky)) := fun V bV => cdrop19_any (H.out.below bV) HC.out.ky rfl
  have KP : ∀ V, Below w.heap.size w V → Calls Try.prog 32 #[.pointer (some ⟨cb, 0, none⟩), .agg #[.string ⟨ky.toArray⟩, .int .i64 ln, .int .i64 ep, .slice sa st.length sc]] V (Put19 V cb mb g P (puX g (oL LV) ⟨ky, ln, ep, st⟩) (if puX g (oL LV) ⟨ky, ln, ep, st⟩ = 0 then wiC (oL LV) ⟨ky, ln, ep, st⟩ else oL LV)) := fun V bV => by
    have hV := HC.out.below bV
    exact cput19_any (c := ⟨⟨ky, ln, ep, st⟩, .slice sa st.length sc⟩) (H.out.below bV) ⟨hV.wl, he, hV.ky, hV.rs, hV.wi⟩ rfl
  have A1 : Hid (¬ ck = 0 → X = 1 ∧ oL LV = L) := fun q => by
    have e : apCX g (oL LV) ⟨kd, ky, ln, st⟩ ep = 1 := by unfold apCX; rw [if_pos fun k => q (CKO.2 k)]
    refine ⟨hX.symm.trans e, ?_⟩
    rw [← hL]
    unfold apCS
    rw [e, if_neg (by decide)]
  have A2 : Hid (ck = 0 → kd = 2 → X = (if finV LV ky = none then 193 else 0) ∧ oL (deV LV ky) = L) := fun q q2 => by
    have ok := CKO.1 q
    have e : apCX g (oL LV) ⟨kd, ky, ln, st⟩ ep = if finV LV ky = none then 193 else 0 := by
      unfold apCX
      rw [if_neg (fun k => k ok), if_pos q2]
      by_cases z : finV LV ky = none
      · rw [if_pos z, if_pos (finV_none.1 z)]
      · rw [if_neg z, if_neg (fun k => z (finV_none.2 k))]
    refine ⟨hX.symm.trans e, ?_⟩
    rw [← hL, oL_deV]
    unfold apCS
    rw [e]
    by_cases z : finV LV ky = none
    · rw [if_pos z, if_neg (by decide), ← oL_deV, deV_none z]
    · rw [if_neg z, if_pos rfl, if_pos q2]
  have A3 : Hid (ck = 0 → ¬ kd = 2 → X = puX g (oL LV) ⟨ky, ln, ep, st⟩ ∧ (if puX g (oL LV) ⟨ky, ln, ep, st⟩ = 0 then wiC (oL LV) ⟨ky, ln, ep, st⟩ else oL LV) = L) := fun q q2 => by
    have ok := CKO.1 q
    have e : apCX g (oL LV) ⟨kd, ky, ln, st⟩ ep = puX g (oL LV) ⟨ky, ln, ep, st⟩ := by
      by_cases z : finK (oL LV) ky = none ∧ g.o ≤ ((oL LV).length : Int)
      · rw [puX_room (o := ⟨ky, ln, ep, st⟩) (by rintro (k | k); exact k z.1; have := z.2; omega)]
        unfold apCX
        rw [if_neg (fun k => k ok), if_neg q2, if_pos z]
      · have y : finK (oL LV) (⟨ky, ln, ep, st⟩ : ObS).key ≠ none ∨ ((oL LV).length : Int) < g.o := by
          by_cases y : finK (oL LV) ky = none
          · exact Or.inr (by have : ¬ g.o ≤ ((oL LV).length : Int) := fun a => z ⟨y, a⟩; omega)
          · exact Or.inl y
        unfold apCX
        rw [if_neg (fun k => k ok), if_neg q2, if_neg z]
        by_cases f : fitC g (oL LV) ⟨ky, ln, ep, st⟩
        · rw [puX_ok y f]; exact if_neg (fun k => k f)
        · rw [puX_fit y f]; exact if_pos f
    refine ⟨hX.symm.trans e, ?_⟩
    rw [← hL]
    unfold apCS
    rw [e, if_neg q2]
    rfl
  obtain ⟨pX, hpX⟩ : ∃ z, z = puX g (oL LV) ⟨ky, ln, ep, st⟩ := ⟨_, rfl⟩
  obtain ⟨pL, hpL⟩ : ∃ z, z = (if puX g (oL LV) ⟨ky, ln, ep, st⟩ = 0 then wiC (oL LV) ⟨ky, ln, ep, st⟩ else oL LV) := ⟨_, rfl⟩
  obtain ⟨dX, hdX⟩ : ∃ z : Int, z = (if finV LV ky = none then 193 else 0) := ⟨_, rfl⟩
  rw [← hpL, ← hpX] at KP A3
  rw [← hdX] at KD A2
  clear hpX hpL hdX CKO hX hL hck
  obtain ⟨W, hW⟩ : ∃ W, W = w.alloc (.cells #[.int .i64 kd, .string ⟨ky.toArray⟩, .int .i64 ln, .slice sa st.length sc] 39) := ⟨_, rfl⟩
  have TA : Hid (∀ V, Below W.heap.size W V → Below w.heap.size w V ∧ V.cell? ⟨w.heap.size, 0, none⟩ = some (.int .i64 kd) ∧ V.cell? ⟨w.heap.size, 1, none⟩ = some (.string ⟨ky.toArray⟩) ∧ V.cell? ⟨w.heap.size, 2, none⟩ = some (.int .i64 ln) ∧ V.cell? ⟨w.heap.size, 3, none⟩ = some (.slice sa st.length sc) ∧ ∀ j, V.frozen? ⟨w.heap.size, j, none⟩ = false) := by rw [hW]; exact box4 _ _ _ _ _ _
  have K1 := KC W (TA.out W (Below.refl _ _)).1
  clear KC
  show Calls Try.prog 25 #[.pointer (some ⟨cb, 0, none⟩), .agg #[.int .i64 kd, .string ⟨ky.toArray⟩, .int .i64 ln, .slice sa st.length sc], .int .i64 ep] w _
  go_enter Try.func25, Try.ntmps25
  go_wp2_with fail
  rw [← hW]
  clear hW
  refine K1.mono ?_
  clear K1
  rintro _ w2 ⟨rfl, b2⟩
  obtain ⟨B2, q0, q1, q2, q3, _⟩ := TA.out w2 b2
  by_cases hck : ck = 0
  rotate_left
  · obtain ⟨rfl, e⟩ := A1.out hck
    have n1 : (ck == 0) = false := beq_eq_false_iff_ne.2 hck
    have n2 : (ck != 0) = true := by simp [bne, n1]
    have F : Hid (Put19 w cb mb g P 1 L (.returned (.int .i64 1)) w2) := ⟨LV, rfl, H.out.below B2, e, Below.turnG B2 _⟩
    clear A1 A2 A3 KD KP TA H HC b2 B2 q0 q1 q2 q3 e
    go_wp2
    go_ret
    exact F.out
  subst hck
  have BB := hidK B2
  by_cases hkd : kd = 2
  · obtain ⟨rfl, e⟩ := A2.out rfl hkd
    subst hkd
    have HE := hidK e
    have K2 := KD w2 B2
    clear A1 A2 A3 KD KP TA H HC b2 B2 q2 q3 e
    go_wp2_with fail
    refine K2.mono ?_
    clear K2
    rintro _ w3 ⟨rfl, C3, t3⟩
    have F : Hid (Put19 w cb mb g P X L (.returned (.int .i64 X)) w3) := ⟨_, rfl, C3, HE.out, (Below.turnG BB.out _).trans t3⟩
    clear C3 t3 q0 q1
    go_wp2
    go_ret
    exact F.out
  · obtain ⟨rfl, e⟩ := A3.out rfl hkd
    have HE := hidK e
    have n1 : (kd == 2) = false := beq_eq_false_iff_ne.2 hkd
    have K2 := KP w2 B2
    clear A1 A2 A3 KD KP TA H HC b2 B2 e
    go_wp2_with fail
    refine K2.mono ?_
    clear K2
    rintro _ w3 ⟨M, rfl, C3, e3, t3⟩
    have F : Hid (Put19 w cb mb g P X L (.returned (.int .i64 X)) w3) := ⟨M, rfl, C3, e3.trans HE.out, (Below.turnG BB.out _).trans t3⟩
    clear C3 t3 q0 q1 q2 q3 e3
    go_wp2
    go_ret
    exact F.out
/-- what Get answers -/
def GotC19 (w : World) (L : List ObS) (k : List UInt8) (e : Ending) (w' : World) : Prop :=
  ((finK L k = none ∧ e = .returned (.tuple #[nilO, .int .i64 193])) ∨ (∃ c : ObV, finK L k = some c.o ∧ ObOk w' c ∧ NewS w.heap.size c.vs ∧ e = .returned (.tuple #[aggO c, .int .i64 0]))) ∧ Below w.heap.size w w'
set_option maxRecDepth 100000 in
set_option maxHeartbeats 2000000 in
theorem cget19_any {w : World} {cb mb : Nat} {g : GeoS} {LV : List ObV} {P : Nat → Prop} (h : CatI w cb mb g LV P) {k : List UInt8} (hk : k.length ≤ maxLen) :
    Calls Try.prog 23 #[.pointer (some ⟨cb, 0, none⟩), .string ⟨k.toArray⟩] w (GotC19 w (oL LV) k) := by
  have H := hidK h
  obtain ⟨hs, hhs⟩ : ∃ b, Hid ((finV LV k).isSome = b) := ⟨_, rfl⟩
  obtain ⟨W, hW⟩ : ∃ W, W = w.alloc (.cells #[.string ⟨#[]⟩, .int .i64 0, .int .i64 0, .slice none 0 0] 52) := ⟨_, rfl⟩
  have TA : Hid (∀ V, Below W.heap.size W V → Below w.heap.size w V ∧ V.cell? ⟨w.heap.size, 0, none⟩ = some (.string ⟨#[]⟩) ∧ V.cell? ⟨w.heap.size, 1, none⟩ = some (.int .i64 0) ∧ V.cell? ⟨w.heap.size, 2, none⟩ = some (.int .i64 0) ∧ V.cell? ⟨w.heap.size, 3, none⟩ = some (.slice none 0 0) ∧ ∀ j, V.frozen? ⟨w.heap.size, j, none⟩ = false) := by rw [hW]; exact box4 _ _ _ _ _ _
  have hlW : Hid (w.heap.size < W.heap.size) := by show _ < _; rw [hW]; simp
  have K1 := chas19_any (H.out.below (TA.out W (Below.refl _ _)).1) hk hhs.out
  clear h
  go_enter Try.func23, Try.ntmps23
  go_wp2_with fail
  rw [← hW]
  clear hW
  refine K1.mono ?_
  clear K1
  rintro _ w2 ⟨rfl, b2⟩
  obtain ⟨B2, q0, q1, q2, q3, qf⟩ := TA.out w2 b2
  have f0 := qf 0
  have f1 := qf 1
  have f2 := qf 2
  have f3 := qf 3
  cases hs with
  | false =>
    have N : finK (oL LV) k = none := finV_none.1 (by
      have := hhs.out
      cases e : finV LV k with
      | none => rfl
      | some c => rw [e] at this; cases this)
    obtain ⟨oY, s0, s1, s2, s3⟩ := set4 (a := .string ⟨#[]⟩) (b := .int .i64 0) (c := .int .i64 0) (d := .slice none 0 0) q0 q1 q2 q3
    have F : Hid (GotC19 w (oL LV) k _ _) := ⟨Or.inl ⟨N, rfl⟩, B2.trans (oY.below (Nat.le_refl _))⟩
    clear N hhs TA H oY B2 b2 hlW qf
    go_wp2
    exact bodyPost_ret (v := .tuple #[.agg #[.string ⟨#[]⟩, .int .i64 0, .int .i64 0, .slice none 0 0], .int .i64 193]) (by simp [results, Try.results23, go_sem, s0, s1, s2, s3]) rfl F.out
  | true =>
    obtain ⟨c, hc⟩ : ∃ c, finV LV k = some c := by
      have := hhs.out
      cases e : finV LV k with
      | none => rw [e] at this; cases this
      | some c => exact ⟨c, rfl⟩
    have C2 := H.out.below B2
    have hm := (finV_mem hc).1
    have L2 := (C2.looks hk).2
    have c6 := C2.c6
    have em : mpF LV k = some (aggO c) := by unfold mpF; rw [hc]; rfl
    rw [em] at L2
    have FK : Hid (finK (oL LV) k = some c.o) := by show _ = _; rw [finV_fin, hc]; rfl
    have K2 := cown19_any (C2.ok c hm) (by have := (C2.sts c hm).1; omega)
    have HOK := hidK (C2.ok c hm)
    obtain ⟨⟨ky, ln, ep, st⟩, vs⟩ := c
    obtain ⟨sa, sc, es⟩ := HOK.out.rs.form
    simp only at es
    subst es
    have L3 : (Instr.lookup 70 (.map (some mb)) (.string ⟨k.toArray⟩) false).run Try.prog w2 = .ok (.agg #[.string ⟨ky.toArray⟩, .int .i64 ln, .int .i64 ep, .slice sa st.length sc]) w2 := L2
    clear hhs hc L2 em hm C2 q0 q1 q2 q3 f0 f1 f2 f3 qf HOK H
    have B2' := hidK B2
    clear B2
    have bb := hidK b2
    clear b2
    go_wp2_with fail
    refine K2.mono ?_
    clear K2
    rintro _ w3 ⟨v', rfl, ok3, nw3, b3⟩
    obtain ⟨pa, pc, ev'⟩ := ok3.rs.form
    simp only at ev'
    subst ev'
    obtain ⟨B3, q0, q1, q2, q3, qf⟩ := TA.out w3 (bb.out.stepL b3 bb.out.size)
    have f0 := qf 0
    have f1 := qf 1
    have f2 := qf 2
    have f3 := qf 3
    obtain ⟨oY, s0, s1, s2, s3⟩ := set4 (a := .string ⟨ky.toArray⟩) (b := .int .i64 ln) (c := .int .i64 ep) (d := .slice pa st.length pc) q0 q1 q2 q3
    have LB := bb.out.size
    have F : Hid (GotC19 w (oL LV) k (.returned (.tuple #[.agg #[.string ⟨ky.toArray⟩, .int .i64 ln, .int .i64 ep, .slice pa st.length pc], .int .i64 0])) ((((w3.setCell ⟨w.heap.size, 0, none⟩ (.string ⟨ky.toArray⟩)).setCell ⟨w.heap.size, 1, none⟩ (.int .i64 ln)).setCell ⟨w.heap.size, 2, none⟩ (.int .i64 ep)).setCell ⟨w.heap.size, 3, none⟩ (.slice pa st.length pc))) := by
      refine ⟨Or.inr ⟨⟨⟨ky, ln, ep, st⟩, .slice pa st.length pc⟩, FK.out, ok3.offG (fun x m e ev => Or.inr fun q => ?_) (oY.turnG (G := fun z => z = w.heap.size) rfl), fun x m e ev => ?_, rfl⟩, B3.trans (oY.below (Nat.le_refl _))⟩
      · have h1 := nw3 x m e ev
        have h2 := hlW.out
        have h3 : x.block = w.heap.size := q
        omega
      · have h1 := nw3 x m e ev
        have h2 := hlW.out
        omega
    rw [show aggO ⟨⟨ky, ln, ep, st⟩, .slice pa st.length pc⟩ = .agg #[.string ⟨ky.toArray⟩, .int .i64 ln, .int .i64 ep, .slice pa st.length pc] from rfl]
    clear FK TA hlW ok3 nw3 b3 B3 qf oY bb B2' LB L3 c6
    go_wp2
    exact bodyPost_ret (v := .tuple #[.agg #[.string ⟨ky.toArray⟩, .int .i64 ln, .int .i64 ep, .slice pa st.length pc], .int .i64 0]) (by simp [results, Try.results23, go_sem, s0, s1, s2, s3]) rfl F.out
set_option maxRecDepth 100000 in
set_option maxHeartbeats 2000000 in
theorem cget19_nil {w : World} {k : List UInt8} : Calls Try.prog 23 #[.pointer none, .string ⟨k.toArray⟩] w fun e w' => e = .returned (.tuple #[nilO, .int .i64 1]) ∧ Below w.heap.size w w' := by
  obtain ⟨W, hW⟩ : ∃ W, W = w.alloc (.cells #[.string ⟨#[]⟩, .int .i64 0, .int .i64 0, .slice none 0 0] 52) := ⟨_, rfl⟩
  have TA := box4 w (.string ⟨#[]⟩) (.int .i64 0) (.int .i64 0) (.slice none 0 0) 52 _ (Below.refl _ _)
  obtain ⟨B, q0, q1, q2, q3, qf⟩ := TA
  have f0 := qf 0
  have f1 := qf 1
  have f2 := qf 2
  have f3 := qf 3
  obtain ⟨oY, s0, s1, s2, s3⟩ := set4 (a := .string ⟨#[]⟩) (b := .int .i64 0) (c := .int .i64 0) (d := .slice none 0 0) q0 q1 q2 q3
  have F := hidK B
  clear B qf oY
  go_enter Try.func23, Try.ntmps23
  go_wp2
  exact bodyPost_ret (v := .tuple #[.agg #[.string ⟨#[]⟩, .int .i64 0, .int .i64 0, .slice none 0 0], .int .i64 1]) (by simp [results, Try.results23, go_sem, s0, s1, s2, s3]) rfl ⟨rfl, F.out⟩
end Go.Proofs.Ytndlfmofjmieaaa.Gf

namespace Go.Proofs.Ytndlfmofjmieaaa.Gf
set_option linter.unusedVariables false
set_option linter.unusedSimpArgs false
open Go.RowKit
theorem FarI19 {w : World} {base e : Nat} {v : Value} {zs : List Nat} (h : OwnI w base e v zs) : NewS base v := fun x n c ev => by
  obtain ⟨_, ⟨hv, hn⟩ | ⟨g, cap, cur, hv, hgb, _⟩⟩ := h
  · rw [hv] at ev; simp at ev
  · rw [hv] at ev
    simp at ev
    obtain ⟨rfl, _, _⟩ := ev
    exact hgb
theorem capI19 {w : World} {base e : Nat} {a : Option Addr} {n c : Nat} {zs : List Nat} (h : OwnI w base e (.slice a n c) zs) : n ≤ c := by
  obtain ⟨_, ⟨hv, hn⟩ | ⟨g, cap, cur, hv, hgb, _, hle, _⟩⟩ := h
  · simp at hv; omega
  · simp at hv
    obtain ⟨rfl, rfl, rfl⟩ := hv
    exact hle
theorem RdI.take19 {w : World} {a : Option Addr} {c : Nat} {Z : List Nat} (h : RdI w (.slice a Z.length c) (toI Z)) {m : Nat} (hm : m ≤ Z.length) : RdI w (.slice a m c) ((Z.map fun (i : Nat) => (i : Int)).take m) := by
  show RdI w (.slice a m c) ((toI Z).take m)
  have hl : ((toI Z).take m).length = m := by rw [List.length_take, toI_length]; omega
  by_cases h0 : m = 0
  · subst h0
    exact Or.inl ⟨a, c, by simp, rfl⟩
  · rcases h with ⟨_, _, e, _⟩ | ⟨b, off, cap, h1, h2, h3, h4, h5⟩
    · have : (toI Z).length = 0 := by rw [e]; rfl
      rw [toI_length] at this
      omega
    · simp at h2
      obtain ⟨rfl, _, rfl⟩ := h2
      refine Or.inr ⟨b, off, c, fun e => by rw [e] at hl; simp at hl; omega, by rw [hl], by rw [hl]; rw [toI_length] at h3; omega, h4, fun i hi => ?_⟩
      rw [hl] at hi
      have e : ((toI Z).take m).getD i 0 = (toI Z).getD i 0 := by simp [List.getD, List.getElem?_take_of_lt hi]
      rw [e]
      exact h5 i (by rw [toI_length]; omega)
def PlanC19 (w : World) (X : Int) (R : List Int) (e : Ending) (w' : World) : Prop := ∃ v, e = .returned (.tuple #[v, .int .i64 X]) ∧ RdI w' v R ∧ NewS w.heap.size v ∧ Below w.heap.size w w'
theorem planC_nil {w w' : World} {X : Int} (b : Below w.heap.size w w') : PlanC19 w X [] (.returned (.tuple #[.slice none 0 0, .int .i64 X])) w' := ⟨_, rfl, Or.inl ⟨none, 0, rfl, rfl⟩, fun x n c e => by simp at e, b⟩
set_option maxRecDepth 100000 in
set_option maxHeartbeats 2000000 in
theorem cplan19_nil {w : World} {k : List UInt8} {n : Int} : Calls Try.prog 24 #[.pointer none, .string ⟨k.toArray⟩, .int .i64 n] w fun e w' => e = .returned (.tuple #[.slice none 0 0, .int .i64 1]) ∧ w' = w := by
  go_enter Try.func24, Try.ntmps24
  go_wp2
  exact bodyPost_ret (v := .tuple #[.slice none 0 0, .int .i64 1]) (by simp [results, Try.results24, go_sem]) rfl ⟨rfl, rfl⟩
set_option maxRecDepth 100000 in
set_option maxHeartbeats 2000000 in
theorem cplan19_any {w : World} {cb mb : Nat} {g : GeoS} {LV : List ObV} {P : Nat → Prop} (h : CatI w cb mb g LV P) {k : List UInt8} (hk : k.length ≤ maxLen) {n : Int} (hn : (Lit.int .i64 n).wf = true) {X : Int} {R : List Int} (hX : plX g (oL LV) k n = X) (hR : plR g (oL LV) k n = R) :
    Calls Try.prog 24 #[.pointer (some ⟨cb, 0, none⟩), .string ⟨k.toArray⟩, .int .i64 n] w (PlanC19 w X R) := by
  have H := hidK h
  obtain ⟨ns, hns⟩ : ∃ m : Nat, Hid (g.s = (m : Int)) := ⟨g.s.toNat, by obtain ⟨_, _, _, _, _, q, _⟩ := h.gok; show _ = _; omega⟩
  have KF : ∀ V, Below w.heap.size w V → Calls Try.prog 46 #[.pointer (some ⟨cb, 0, none⟩)] V (Free19 V (frF (oL LV) ns)) := fun V bV => cfree19_any (H.out.below bV) hns.out
  obtain ⟨nx, hnx⟩ : ∃ z, Hid (neG g n = z) := ⟨_, rfl⟩
  have KN : ∀ V, Calls Try.prog 21 #[aggG g, .int .i64 n] V fun e w' => e = .returned (.int .i64 nx) ∧ Below V.heap.size V w' := fun V => lneeds_any H.out.gw hn hnx.out
  obtain ⟨rm, hrm⟩ : ∃ b, Hid (decide (finV LV k ≠ none ∨ (LV.length : Int) < g.o) = b) := ⟨_, rfl⟩
  have KR : ∀ V, Below w.heap.size w V → Calls Try.prog 49 #[.pointer (some ⟨cb, 0, none⟩), .string ⟨k.toArray⟩] V fun e w' => e = .returned (.bool rm) ∧ Below V.heap.size V w' := fun V bV => croom19_any (H.out.below bV) hk hrm.out
  have PR : ∀ {z : Int}, plX g (oL LV) k n = z → z ≠ 0 → X = z ∧ R = [] := fun {z} e q => by
    refine ⟨hX.symm.trans e, ?_⟩
    rw [← hR]
    unfold plR
    rw [e, if_neg q]
  have P1 : Hid (k.length = 0 ∨ 64 < k.length → X = 190 ∧ R = []) := fun q => PR (by
    have e : plP g (oL LV) k n = 190 := if_pos q
    unfold plX; rw [e, if_pos (by decide)]) (by decide)
  have P2 : Hid (¬ (k.length = 0 ∨ 64 < k.length) → ¬ OkN n → X = 1 ∧ R = []) := fun q q2 => PR (by
    have e : plP g (oL LV) k n = 1 := by
      unfold plP
      rw [if_neg q, if_pos]
      unfold OkN at q2
      omega
    unfold plX; rw [e, if_pos (by decide)]) (by decide)
  have RMI : (¬ (finK (oL LV) k = none ∧ g.o ≤ ((oL LV).length : Int))) ↔ (finV LV k ≠ none ∨ (LV.length : Int) < g.o) := by
    rw [oL_length]
    by_cases q : finV LV k = none
    · have q' := finV_none.1 q
      simp [q, q']
    · have q' : ¬ finK (oL LV) k = none := fun e => q (finV_none.2 e)
      simp [q, q']
  have P3 : Hid (¬ (k.length = 0 ∨ 64 < k.length) → OkN n → rm = false → X = 191 ∧ R = []) := fun q q2 q3 => PR (by
    have z := of_decide_eq_false (hrm.out.trans q3)
    have e : plP g (oL LV) k n = 191 := by
      unfold plP
      rw [if_neg q, if_neg (by unfold OkN at q2; omega), if_pos (Decidable.not_not.1 fun k => z (RMI.1 k))]
    unfold plX; rw [e, if_pos (by decide)]) (by decide)
  have P4 : Hid (¬ (k.length = 0 ∨ 64 < k.length) → OkN n → rm = true → (((frF (oL LV) ns).length : Int) < nx → X = 192 ∧ R = []) ∧ (¬ ((frF (oL LV) ns).length : Int) < nx → X = 0 ∧ R = ((frF (oL LV) ns).map fun (i : Nat) => (i : Int)).take nx.toNat)) := fun q q2 q3 => by
    have z := of_decide_eq_true (hrm.out.trans q3)
    have e : plP g (oL LV) k n = 0 := by
      unfold plP
      rw [if_neg q, if_neg (by unfold OkN at q2; omega), if_neg (RMI.2 z)]
    have en : g.s.toNat = ns := by rw [hns.out]; rfl
    have ef : (frC g (oL LV) : Int) = ((frF (oL LV) ns).length : Int) := by rw [frC_F, en]
    constructor
    · intro q4
      exact PR (by unfold plX; rw [e, if_neg (by decide), ef, hnx.out, if_pos q4]) (by decide)
    · intro q4
      have ex : plX g (oL LV) k n = 0 := by unfold plX; rw [e, if_neg (by decide), ef, hnx.out, if_neg q4]
      refine ⟨hX.symm.trans ex, ?_⟩
      rw [← hR]
      unfold plR
      rw [if_pos ex, frL_F, en, hnx.out]
  have NX0 : Hid (OkN n → 0 ≤ nx) := fun q => by rw [← hnx.out]; exact neG_zero H.out.gok q.1
  have FLE := frF_le (oL LV) ns
  have n6 : ns ≤ 256 := by
    obtain ⟨_, _, _, _, _, _, q, _⟩ := h.gok
    have := hns.out
    omega
  obtain ⟨Z, hZ⟩ : ∃ Z, frF (oL LV) ns = Z := ⟨_, rfl⟩
  rw [hZ] at KF P4 FLE
  have SG : Hid (∀ V, Below w.heap.size w V → GeoAt V cb g) := fun V bV => (H.out.below bV).ge
  clear h hX hR PR RMI hns hnx hrm hZ H
  obtain ⟨gk, gm, gz, gs, gt, go⟩ := g
  rw [aggE] at KN
  have SF : Hid (∀ V, Below w.heap.size w V → V.cell? ⟨cb, 0, none⟩ = some (.int .i64 gk) ∧ V.cell? ⟨cb, 1, none⟩ = some (.int .i64 gm) ∧ V.cell? ⟨cb, 2, none⟩ = some (.int .i64 gz) ∧ V.cell? ⟨cb, 3, none⟩ = some (.int .i64 gs) ∧ V.cell? ⟨cb, 4, none⟩ = some (.int .i64 gt) ∧ V.cell? ⟨cb, 5, none⟩ = some (.int .i64 go)) := fun V bV => SG.out V bV
  clear SG
  by_cases h1 : k.length = 0 ∨ 64 < k.length
  · obtain ⟨rfl, rfl⟩ := P1.out h1
    clear P1 P2 P3 P4 KF KN KR NX0 SF
    by_cases h2 : (k.length : Int) < 1
    · go_enter Try.func24, Try.ntmps24
      go_wp2
      exact bodyPost_ret (v := .tuple #[.slice none 0 0, .int .i64 190]) (by simp [results, Try.results24, go_sem]) rfl (planC_nil (Below.refl _ _))
    · have h3 : (k.length : Int) > 64 := by omega
      go_enter Try.func24, Try.ntmps24
      go_wp2
      exact bodyPost_ret (v := .tuple #[.slice none 0 0, .int .i64 190]) (by simp [results, Try.results24, go_sem]) rfl (planC_nil (Below.refl _ _))
  have h2 : ¬ (k.length : Int) < 1 := by omega
  have h3 : ¬ (k.length : Int) > 64 := by omega
  have H1 := hidK h1
  clear h1
  by_cases hok : OkN n
  rotate_left
  · obtain ⟨rfl, rfl⟩ := P2.out H1.out hok
    have K2 := fun V => @cmay19_any n V false (decide_eq_false hok)
    clear P1 P2 P3 P4 KF KN KR NX0 SF
    go_enter Try.func24, Try.ntmps24
    go_wp2_with fail
    refine (K2 _).mono ?_
    rintro _ _ ⟨rfl, rfl⟩
    go_wp2
    exact bodyPost_ret (v := .tuple #[.slice none 0 0, .int .i64 1]) (by simp [results, Try.results24, go_sem]) rfl (planC_nil (Below.refl _ _))
  have K2 := fun V => @cmay19_any n V true (decide_eq_true hok)
  have NZ := NX0.out hok
  have Q3 := hidK (P3.out H1.out hok)
  have Q4 := hidK (P4.out H1.out hok)
  have K3 := KR w (Below.refl _ _)
  clear P1 P2 P3 P4 KR NX0 H1 hok
  go_enter Try.func24, Try.ntmps24
  go_wp2_with fail
  refine (K2 _).mono ?_
  clear K2
  rintro _ wq ⟨rfl, eq⟩
  rw [eq]
  clear eq wq
  go_wp2_with fail
  refine K3.mono ?_
  clear K3
  rintro _ w2 ⟨rfl, b2⟩
  have B2 := hidK b2
  clear b2
  cases rm with
  | false =>
    obtain ⟨rfl, rfl⟩ := Q3.out (by first | rfl | trivial)
    clear Q3 Q4 KF KN SF
    go_wp2
    exact bodyPost_ret (v := .tuple #[.slice none 0 0, .int .i64 191]) (by simp [results, Try.results24, go_sem]) rfl (planC_nil B2.out)
  | true =>
  have Q5 := hidK (Q4.out (by first | rfl | trivial))
  clear Q3 Q4
  have BD := hidK (B2.out.stepL (Below.refl _ _).drew B2.out.size)
  have G0 := SF.out _ BD.out
  have K4 := KF _ BD.out
  clear B2 KF
  go_wp2_with fail
  refine wp_region_held_drew (S := fun V => V.cell? ⟨cb, 0, none⟩ = some (.int .i64 gk) ∧ V.cell? ⟨cb, 1, none⟩ = some (.int .i64 gm) ∧ V.cell? ⟨cb, 2, none⟩ = some (.int .i64 gz) ∧ V.cell? ⟨cb, 3, none⟩ = some (.int .i64 gs) ∧ V.cell? ⟨cb, 4, none⟩ = some (.int .i64 gt) ∧ V.cell? ⟨cb, 5, none⟩ = some (.int .i64 go)) (by kernel_rfl) G0 (fun hHeld => ?_)
  refine tkH 0 ?_
  refine tkH 2 ?_
  refine tkH 3 ?_
  refine tkH 4 ?_
  refine tkH 5 ?_
  refine tkH 6 ?_
  clear hHeld G0
  refine rnH 1 (fun K' hK => ?_)
  go_simp
  go_at_call 46
  refine K4.mono ?_
  clear K4
  rintro _ w4 ⟨v, rfl, hO, b4⟩
  dsimp only
  have B4 := hidK (BD.out.stepL b4 BD.out.size)
  obtain ⟨oa, oc, rfl⟩ := hO.form
  have RD := hidK (hO.rd (by omega))
  have NW : Hid (NewS w.heap.size (.slice oa Z.length oc)) := fun x m e ev => by
    have h1 := FarI19 hO x m e ev
    have h2 := BD.out.size
    omega
  have CP : Z.length ≤ oc := capI19 hO
  refine koH hK (SF.out _ B4.out) fun hHeld => ?_
  clear hK K' hHeld b4
  refine rnH 7 (fun K' hK => ?_)
  go_simp
  go_at_call 21
  refine (KN _).mono ?_
  clear KN
  rintro _ w5 ⟨rfl, b5⟩
  dsimp only
  have B5 := hidK (B4.out.stepL b5 B4.out.size)
  have RD5 := hidK (RD.out.below b5)
  refine koH hK (SF.out _ B5.out) fun hHeld => ?_
  clear hK K' b5 RD hO B4
  refine tkH 8 ?_
  refine tkH 9 ?_
  refine wpAnyH_done (by kernel_rfl) ?_ _
  clear hHeld SF BD
  by_cases hl : (Z.length : Int) < nx
  · obtain ⟨rfl, rfl⟩ := Q5.out.1 (by omega)
    clear Q5 RD5 NW
    go_wp2
    exact bodyPost_ret (v := .tuple #[.slice none 0 0, .int .i64 192]) (by simp [results, Try.results24, go_sem]) rfl (planC_nil B5.out)
  · obtain ⟨rfl, rfl⟩ := Q5.out.2 (by omega)
    obtain ⟨m, rfl⟩ : ∃ m : Nat, nx = (m : Int) := ⟨nx.toNat, by omega⟩
    have hm : m ≤ Z.length := by omega
    have hm2 : m ≤ oc := by omega
    have hm3 : (m : Int) ≤ (oc : Int) := by omega
    have F : Hid (PlanC19 w 0 ((Z.map fun (i : Nat) => (i : Int)).take m) (.returned (.tuple #[.slice oa m oc, .int .i64 0])) w5) := by
      refine ⟨_, rfl, ?_, fun x a b ev => ?_, B5.out⟩
      · exact RD5.out.take19 hm
      · simp at ev
        obtain ⟨rfl, rfl, rfl⟩ := ev
        exact NW.out _ _ _ rfl
    clear Q5 RD5 NW B5
    go_wp2
    exact bodyPost_ret (v := .tuple #[.slice oa m oc, .int .i64 0]) (by simp [results, Try.results24, go_sem]) rfl F.out
end Go.Proofs.Ytndlfmofjmieaaa.Gf
