/- TEXTS JOINED: CtCH, CtCl, CtSm. -/
import Derived.Test.YtndlfmofjmieaaaPome13
import Derived.Deep.Grids
namespace Go.Proofs.Ytndlfmofjmieaaa.Gf
set_option linter.unusedVariables false
set_option linter.unusedSimpArgs false
open Go.RowKit
set_option maxRecDepth 100000 in
set_option maxHeartbeats 2000000 in
theorem capply19_any {w : World} {cb mb : Nat} {g : GeoS} {LV : List ObV} {P : Nat → Prop} (h : CatI w cb mb g LV P) {c : RcV} (hc : c.In w) {ep : Int} (he : (Lit.int .i64 ep).wf = true) {X : Int} {L : List ObS} (hX : apCX g (oL LV) c.r ep = X) (hL : apCS g (oL LV) c.r ep = L) :
    Calls Try.prog 25 #[.pointer (some ⟨cb, 0, none⟩), aggR c, .int .i64 ep] w (Put19 w cb mb g P X L) := by
  obtain ⟨⟨kd, ky, ln, st⟩, vs⟩ := c
  have HC := hidK hc
  obtain ⟨sa, sc, e⟩ := hc.rs.form
  simp only at e hX hL
  subst e
  have H := hidK h
  clear h hc
  obtain ⟨ck, hck⟩ : ∃ z, Hid (chR ⟨kd, ky, ln, st⟩ = z) := ⟨_, rfl⟩
  have KC : ∀ V, Below w.heap.size w V → Calls Try.prog 50 #[.agg #[.int .i64 kd, .string ⟨ky.toArray⟩, .int .i64 ln, .slice sa st.length sc]] V fun e w' => e = .returned (.int .i64 ck) ∧ Below V.heap.size V w' := fun V bV =>
    chk16_any (c := ⟨⟨kd, ky, ln, st⟩, .slice sa st.length sc⟩) (HC.out.below bV) hck.out
  have CKO : ck = 0 ↔ OkR ⟨kd, ky, ln, st⟩ := by
    rw [← hck.out]
    unfold chR
    by_cases q : OkR ⟨kd, ky, ln, st⟩
    · rw [if_pos q]; exact ⟨fun _ => q, fun _ => rfl⟩
    · rw [if_neg q]; exact ⟨fun k => absurd k (by decide), fun k => absurd k q⟩
  have KD : ∀ V, Below w.heap.size w V → Calls Try.prog 51 #[.pointer (some ⟨cb, 0, none⟩), .string ⟨ky.toArray⟩] V (Leaves19 V cb mb g P (if finV LV ky = none then 193 else 0) (deV LV ky)) := fun V bV => cdrop19_any (H.out.below bV) HC.out.ky rfl
  have KP : ∀ V, Below w.heap.size w V → Calls Try.prog 32 #[.pointer (some ⟨cb, 0, none⟩), .agg #[.string ⟨ky.toArray⟩, .int .i64 ln, .int .i64 ep, .slice sa st.length sc]] V (Put19 V cb mb g P (puX g (oL LV) ⟨ky, ln, ep, st⟩) (if puX g (oL LV) ⟨ky, ln, ep, st⟩ = 0 then wiC (oL LV) ⟨ky, ln, ep, st⟩ else oL LV)) := fun V bV => by
    have hV := HC.out.below bV
    exact cput19_any (c := ⟨⟨ky, ln, ep, st⟩, .slice sa st.length sc⟩) (H.out.below bV) ⟨hV.wl, he, hV.ky, hV.rs, hV.wi⟩ rfl
  have A1 : Hid (¬ ck = 0 → X = 1 ∧ oL LV = L) := fun q => by
    have e : apCX g (oL LV) ⟨kd, ky, ln, st⟩ ep = 1 := by unfold apCX; rw [if_pos fun k => q (CKO.2 k)]
    refine ⟨hX.symm.trans e, ?_⟩
    rw [← hL]
    unfold apCS
    rw [e, if_neg (by decide)]
  have A2 : Hid (ck = 0 → kd = 2 → X = (if finV LV ky = none then 193 else 0) ∧ oL (deV LV ky) = L) := fun q q2 => by
    have ok := CKO.1 q
    have e : apCX g (oL LV) ⟨kd, ky, ln, st⟩ ep = if finV LV ky = none then 193 else 0 := by
      unfold apCX
      rw [if_neg (fun k => k ok), if_pos q2]
      by_cases z : finV LV ky = none
      · rw [if_pos z, if_pos (finV_none.1 z)]
      · rw [if_neg z, if_neg (fun k => z (finV_none.2 k))]
    refine ⟨hX.symm.trans e, ?_⟩
    rw [← hL, oL_deV]
    unfold apCS
    rw [e]
    by_cases z : finV LV ky = none
    · rw [if_pos z, if_neg (by decide), ← oL_deV, deV_none z]
    · rw [if_neg z, if_pos rfl, if_pos q2]
  have A3 : Hid (ck = 0 → ¬ kd = 2 → X = puX g (oL LV) ⟨ky, ln, ep, st⟩ ∧ (if puX g (oL LV) ⟨ky, ln, ep, st⟩ = 0 then wiC (oL LV) ⟨ky, ln, ep, st⟩ else oL LV) = L) := fun q q2 => by
    have ok := CKO.1 q
    have e : apCX g (oL LV) ⟨kd, ky, ln, st⟩ ep = puX g (oL LV) ⟨ky, ln, ep, st⟩ := by
      by_cases z : finK (oL LV) ky = none ∧ g.o ≤ ((oL LV).length : Int)
      · rw [puX_room (o := ⟨ky, ln, ep, st⟩) (by rintro (k | k); exact k z.1; have := z.2; omega)]
        unfold apCX
        rw [if_neg (fun k => k ok), if_neg q2, if_pos z]
      · have y : finK (oL LV) (⟨ky, ln, ep, st⟩ : ObS).key ≠ none ∨ ((oL LV).length : Int) < g.o := by
          by_cases y : finK (oL LV) ky = none
          · exact Or.inr (by have : ¬ g.o ≤ ((oL LV).length : Int) := fun a => z ⟨y, a⟩; omega)
          · exact Or.inl y
        unfold apCX
        rw [if_neg (fun k => k ok), if_neg q2, if_neg z]
        by_cases f : fitC g (oL LV) ⟨ky, ln, ep, st⟩
        · rw [puX_ok y f]; exact if_neg (fun k => k f)
        · rw [puX_fit y f]; exact if_pos f
    refine ⟨hX.symm.trans e, ?_⟩
    rw [← hL]
    unfold apCS
    rw [e, if_neg q2]
    rfl
  obtain ⟨pX, hpX⟩ : ∃ z, z = puX g (oL LV) ⟨ky, ln, ep, st⟩ := ⟨_, rfl⟩
  obtain ⟨pL, hpL⟩ : ∃ z, z = (if puX g (oL LV) ⟨ky, ln, ep, st⟩ = 0 then wiC (oL LV) ⟨ky, ln, ep, st⟩ else oL LV) := ⟨_, rfl⟩
  obtain ⟨dX, hdX⟩ : ∃ z : Int, z = (if finV LV ky = none then 193 else 0) := ⟨_, rfl⟩
  rw [← hpL, ← hpX] at KP A3
  rw [← hdX] at KD A2
  clear hpX hpL hdX CKO hX hL hck
  obtain ⟨W, hW⟩ : ∃ W, W = w.alloc (.cells #[.int .i64 kd, .string ⟨ky.toArray⟩, .int .i64 ln, .slice sa st.length sc] 39) := ⟨_, rfl⟩
  have TA : Hid (∀ V, Below W.heap.size W V → Below w.heap.size w V ∧ V.cell? ⟨w.heap.size, 0, none⟩ = some (.int .i64 kd) ∧ V.cell? ⟨w.heap.size, 1, none⟩ = some (.string ⟨ky.toArray⟩) ∧ V.cell? ⟨w.heap.size, 2, none⟩ = some (.int .i64 ln) ∧ V.cell? ⟨w.heap.size, 3, none⟩ = some (.slice sa st.length sc) ∧ ∀ j, V.frozen? ⟨w.heap.size, j, none⟩ = false) := by rw [hW]; exact box4 _ _ _ _ _ _
  have K1 := KC W (TA.out W (Below.refl _ _)).1
  clear KC
  show Calls Try.prog 25 #[.pointer (some ⟨cb, 0, none⟩), .agg #[.int .i64 kd, .string ⟨ky.toArray⟩, .int .i64 ln, .slice sa st.length sc], .int .i64 ep] w _
  go_enter Try.func25, Try.ntmps25
  go_wp2_with fail
  rw [← hW]
  clear hW
  refine K1.mono ?_
  clear K1
  rintro _ w2 ⟨rfl, b2⟩
  obtain ⟨B2, q0, q1, q2, q3, _⟩ := TA.out w2 b2
  by_cases hck : ck = 0
  rotate_left
  · obtain ⟨rfl, e⟩ := A1.out hck
    have n1 : (ck == 0) = false := beq_eq_false_iff_ne.2 hck
    have n2 : (ck != 0) = true := by simp [bne, n1]
    have F : Hid (Put19 w cb mb g P 1 L (.returned (.int .i64 1)) w2) := ⟨LV, rfl, H.out.below B2, e, Below.turnG B2 _⟩
    clear A1 A2 A3 KD KP TA H HC b2 B2 q0 q1 q2 q3 e
    go_wp2
    go_ret
    exact F.out
  subst hck
  have BB := hidK B2
  by_cases hkd : kd = 2
  · obtain ⟨rfl, e⟩ := A2.out rfl hkd
    subst hkd
    have HE := hidK e
    have K2 := KD w2 B2
    clear A1 A2 A3 KD KP TA H HC b2 B2 q2 q3 e
    go_wp2_with fail
    refine K2.mono ?_
    clear K2
    rintro _ w3 ⟨rfl, C3, t3⟩
    have F : Hid (Put19 w cb mb g P X L (.returned (.int .i64 X)) w3) := ⟨_, rfl, C3, HE.out, (Below.turnG BB.out _).trans t3⟩
    clear C3 t3 q0 q1
    go_wp2
    go_ret
    exact F.out
  · obtain ⟨rfl, e⟩ := A3.out rfl hkd
    have HE := hidK e
    have n1 : (kd == 2) = false := beq_eq_false_iff_ne.2 hkd
    have K2 := KP w2 B2
    clear A1 A2 A3 KD KP TA H HC b2 B2 e
    go_wp2_with fail
    refine K2.mono ?_
    clear K2
    rintro _ w3 ⟨M, rfl, C3, e3, t3⟩
    have F : Hid (Put19 w cb mb g P X L (.returned (.int .i64 X)) w3) := ⟨M, rfl, C3, e3.trans HE.out, (Below.turnG BB.out _).trans t3⟩
    clear C3 t3 q0 q1 q2 q3 e3
    go_wp2
    go_ret
    exact F.out
/-- what Get answers -/
def GotC19 (w : World) (L : List ObS) (k : List UInt8) (e : Ending) (w' : World) : Prop :=
  ((finK L k = none ∧ e = .returned (.tuple #[nilO, .int .i64 193])) ∨ (∃ c : ObV, finK L k = some c.o ∧ ObOk w' c ∧ NewS w.heap.size c.vs ∧ e = .returned (.tuple #[aggO c, .int .i64 0]))) ∧ Below w.heap.size w w'
set_option maxRecDepth 100000 in
set_option maxHeartbeats 2000000 in
theorem cget19_any {w : World} {cb mb : Nat} {g : GeoS} {LV : List ObV} {P : Nat → Prop} (h : CatI w cb mb g LV P) {k : List UInt8} (hk : k.length ≤ maxLen) :
    Calls Try.prog 23 #[.pointer (some ⟨cb, 0, none⟩), .string ⟨k.toArray⟩] w (GotC19 w (oL LV) k) := by
  have H := hidK h
  obtain ⟨hs, hhs⟩ : ∃ b, Hid ((finV LV k).isSome = b) := ⟨_, rfl⟩
  obtain ⟨W, hW⟩ : ∃ W, W = w.alloc (.cells #[.string ⟨#[]⟩, .int .i64 0, .int .i64 0, .slice none 0 0] 52) := ⟨_, rfl⟩
  have TA : Hid (∀ V, Below W.heap.size W V → Below w.heap.size w V ∧ V.cell? ⟨w.heap.size, 0, none⟩ = some (.string ⟨#[]⟩) ∧ V.cell? ⟨w.heap.size, 1, none⟩ = some (.int .i64 0) ∧ V.cell? ⟨w.heap.size, 2, none⟩ = some (.int .i64 0) ∧ V.cell? ⟨w.heap.size, 3, none⟩ = some (.slice none 0 0) ∧ ∀ j, V.frozen? ⟨w.heap.size, j, none⟩ = false) := by rw [hW]; exact box4 _ _ _ _ _ _
  have hlW : Hid (w.heap.size < W.heap.size) := by show _ < _; rw [hW]; simp
  have K1 := chas19_any (H.out.below (TA.out W (Below.refl _ _)).1) hk hhs.out
  clear h
  go_enter Try.func23, Try.ntmps23
  go_wp2_with fail
  rw [← hW]
  clear hW
  refine K1.mono ?_
  clear K1
  rintro _ w2 ⟨rfl, b2⟩
  obtain ⟨B2, q0, q1, q2, q3, qf⟩ := TA.out w2 b2
  have f0 := qf 0
  have f1 := qf 1
  have f2 := qf 2
  have f3 := qf 3
  cases hs with
  | false =>
    have N : finK (oL LV) k = none := finV_none.1 (by
      have := hhs.out
      cases e : finV LV k with
      | none => rfl
      | some c => rw [e] at this; cases this)
    obtain ⟨oY, s0, s1, s2, s3⟩ := set4 (a := .string ⟨#[]⟩) (b := .int .i64 0) (c := .int .i64 0) (d := .slice none 0 0) q0 q1 q2 q3
    have F : Hid (GotC19 w (oL LV) k _ _) := ⟨Or.inl ⟨N, rfl⟩, B2.trans (oY.below (Nat.le_refl _))⟩
    clear N hhs TA H oY B2 b2 hlW qf
    go_wp2
    exact bodyPost_ret (v := .tuple #[.agg #[.string ⟨#[]⟩, .int .i64 0, .int .i64 0, .slice none 0 0], .int .i64 193]) (by simp [results, Try.results23, go_sem, s0, s1, s2, s3]) rfl F.out
  | true =>
    obtain ⟨c, hc⟩ : ∃ c, finV LV k = some c := by
      have := hhs.out
      cases e : finV LV k with
      | none => rw [e] at this; cases this
      | some c => exact ⟨c, rfl⟩
    have C2 := H.out.below B2
    have hm := (finV_mem hc).1
    have L2 := (C2.looks hk).2
    have c6 := C2.c6
    have em : mpF LV k = some (aggO c) := by unfold mpF; rw [hc]; rfl
    rw [em] at L2
    have FK : Hid (finK (oL LV) k = some c.o) := by show _ = _; rw [finV_fin, hc]; rfl
    have K2 := cown19_any (C2.ok c hm) (by have := (C2.sts c hm).1; omega)
    have HOK := hidK (C2.ok c hm)
    obtain ⟨⟨ky, ln, ep, st⟩, vs⟩ := c
    obtain ⟨sa, sc, es⟩ := HOK.out.rs.form
    simp only at es
    subst es
    have L3 : (Instr.lookup 70 (.map (some mb)) (.string ⟨k.toArray⟩) false).run Try.prog w2 = .ok (.agg #[.string ⟨ky.toArray⟩, .int .i64 ln, .int .i64 ep, .slice sa st.length sc]) w2 := L2
    clear hhs hc L2 em hm C2 q0 q1 q2 q3 f0 f1 f2 f3 qf HOK H
    have B2' := hidK B2
    clear B2
    have bb := hidK b2
    clear b2
    go_wp2_with fail
    refine K2.mono ?_
    clear K2
    rintro _ w3 ⟨v', rfl, ok3, nw3, b3⟩
    obtain ⟨pa, pc, ev'⟩ := ok3.rs.form
    simp only at ev'
    subst ev'
    obtain ⟨B3, q0, q1, q2, q3, qf⟩ := TA.out w3 (bb.out.stepL b3 bb.out.size)
    have f0 := qf 0
    have f1 := qf 1
    have f2 := qf 2
    have f3 := qf 3
    obtain ⟨oY, s0, s1, s2, s3⟩ := set4 (a := .string ⟨ky.toArray⟩) (b := .int .i64 ln) (c := .int .i64 ep) (d := .slice pa st.length pc) q0 q1 q2 q3
    have LB := bb.out.size
    have F : Hid (GotC19 w (oL LV) k (.returned (.tuple #[.agg #[.string ⟨ky.toArray⟩, .int .i64 ln, .int .i64 ep, .slice pa st.length pc], .int .i64 0])) ((((w3.setCell ⟨w.heap.size, 0, none⟩ (.string ⟨ky.toArray⟩)).setCell ⟨w.heap.size, 1, none⟩ (.int .i64 ln)).setCell ⟨w.heap.size, 2, none⟩ (.int .i64 ep)).setCell ⟨w.heap.size, 3, none⟩ (.slice pa st.length pc))) := by
      refine ⟨Or.inr ⟨⟨⟨ky, ln, ep, st⟩, .slice pa st.length pc⟩, FK.out, ok3.offG (fun x m e ev => Or.inr fun q => ?_) (oY.turnG (G := fun z => z = w.heap.size) rfl), fun x m e ev => ?_, rfl⟩, B3.trans (oY.below (Nat.le_refl _))⟩
      · have h1 := nw3 x m e ev
        have h2 := hlW.out
        have h3 : x.block = w.heap.size := q
        omega
      · have h1 := nw3 x m e ev
        have h2 := hlW.out
        omega
    rw [show aggO ⟨⟨ky, ln, ep, st⟩, .slice pa st.length pc⟩ = .agg #[.string ⟨ky.toArray⟩, .int .i64 ln, .int .i64 ep, .slice pa st.length pc] from rfl]
    clear FK TA hlW ok3 nw3 b3 B3 qf oY bb B2' LB L3 c6
    go_wp2
    exact bodyPost_ret (v := .tuple #[.agg #[.string ⟨ky.toArray⟩, .int .i64 ln, .int .i64 ep, .slice pa st.length pc], .int .i64 0]) (by simp [results, Try.results23, go_sem, s0, s1, s2, s3]) rfl F.out
end Go.Proofs.Ytndlfmofjmieaaa.Gf

namespace Go.Proofs.Ytndlfmofjmieaaa.Gf
set_option linter.unusedVariables false
set_option linter.unusedSimpArgs false
open Go.RowKit
open Go.ChangeShapes
structure CallK where
  kind : Int
  r : RcV
  ep : Int
instance : Inhabited CallK := ⟨⟨0, default, 0⟩⟩
structure CallAtK (w : World) (b off : Nat) (x : CallK) : Prop where
  s0 : w.cell? ⟨b, off, none⟩ = some (.int .i64 x.kind)
  s1 : w.cell? ⟨b, off + 1, none⟩ = some (.int .i64 x.r.r.kind)
  s2 : w.cell? ⟨b, off + 2, none⟩ = some (sv x.r.r.key)
  s3 : w.cell? ⟨b, off + 3, none⟩ = some (.int .i64 x.r.r.len)
  s4 : w.cell? ⟨b, off + 4, none⟩ = some x.r.vs
  s5 : w.cell? ⟨b, off + 5, none⟩ = some (.int .i64 x.ep)
  wk : (Lit.int .i64 x.kind).wf = true
  we : (Lit.int .i64 x.ep).wf = true
  rr : x.r.In w
  cp : ∀ n d, x.r.vs = .slice none n d → d = 0
theorem CallAtK.below {w w' : World} {b off : Nat} {x : CallK} (h : CallAtK w b off x) (hb : b < w.heap.size) (hw : Below w.heap.size w w') : CallAtK w' b off x := by
  have k : ∀ j, w'.cell? ⟨b, j, none⟩ = w.cell? ⟨b, j, none⟩ := fun j => hw.cell (p := ⟨b, j, none⟩) hb
  exact ⟨(k _).trans h.s0, (k _).trans h.s1, (k _).trans h.s2, (k _).trans h.s3, (k _).trans h.s4, (k _).trans h.s5, h.wk, h.we, h.rr.below hw, h.cp⟩
def RdC19 (w : World) (v : Value) (L : List CallK) : Prop :=
  (∃ ao cap, L = [] ∧ v = .slice ao 0 cap) ∨ (∃ b off cap, L ≠ [] ∧ v = .slice (some ⟨b, off, none⟩) L.length cap ∧ L.length ≤ maxLen ∧ b < w.heap.size ∧ ∀ i, i < L.length → CallAtK w b (off + i * 6) (L.getD i default))
theorem RdC19.form {w : World} {v : Value} {L : List CallK} (h : RdC19 w v L) : ∃ a c, v = .slice a L.length c := by
  rcases h with ⟨a, c, rfl, rfl⟩ | ⟨b, off, c, _, rfl, _⟩
  · exact ⟨a, c, rfl⟩
  · exact ⟨_, c, rfl⟩
theorem RdC19.lenEq {w : World} {a : Option Addr} {len cap : Nat} {L : List CallK} (h : RdC19 w (.slice a len cap) L) : len = L.length := by
  obtain ⟨_, _, e⟩ := h.form
  simp at e
  exact e.2.1
theorem RdC19.at {w : World} {a : Option Addr} {c : Nat} {L : List CallK} (h : RdC19 w (.slice a L.length c) L) {k : Nat} (hk : k < L.length) : ∃ b off, a = some ⟨b, off, none⟩ ∧ b < w.heap.size ∧ CallAtK w b (off + k * 6) (L.getD k default) := by
  rcases h with ⟨_, _, h1, _⟩ | ⟨b, off, c, h1, h2, h3, h4, h5⟩
  · rw [h1] at hk; simp at hk
  · simp at h2
    exact ⟨b, off, h2.1, h4, h5 k hk⟩
theorem six19 {cs : List Value} (h : cs.length = 6) : ∃ v0 v1 v2 v3 v4 v5, cs = [v0, v1, v2, v3, v4, v5] := by
  match cs, h with
  | [a, b, c, d, e, f], _ => exact ⟨a, b, c, d, e, f, rfl⟩
section
variable {H : Type} {enc : TypeId × Value → H} {P : Program} {w : World} {base : Nat} {held : Bool}
/-- a record within a struct -/
theorem open_cap19 {t si : TypeId} {fuel : Nat} {v : Value} {x : DataW H × List MemPlace} (t5 : P.underlying t = some (.slice si)) (ti : P.underlying si = some (.int .i64)) (ci : P.cellsOf si = 1) (q5 : DataW.trod enc P w base (fun _ => true) held fuel t [v] = some x) : ∀ n d, v = .slice none n d → d = 0 := by
  rcases open_ints t5 ti ci q5 with ⟨hcs, _⟩ | ⟨x5, l5, c5, zs, hcs, _⟩
  · simp at hcs
    subst hcs
    intro n d e
    simp at e
    exact e.2.symm
  · simp at hcs
    subst hcs
    intro n d e
    simp at e
theorem open_rcell19 {t si : TypeId} {f0 f1 f2 f3 : Field} {fuel : Nat} {cs : List Value} {x : DataW H × List MemPlace} (he : P.underlying t = some (.struct #[f0, f1, f2, f3])) (ce : P.cellsOf t = 4)
    (o0 : f0.offset = 0) (o1 : f1.offset = 1) (o2 : f2.offset = 2) (o3 : f3.offset = 3)
    (t0 : P.underlying f0.type = some (.int .i64)) (t1 : P.underlying f1.type = some .string) (t2 : P.underlying f2.type = some (.int .i64)) (t3 : P.underlying f3.type = some (.slice si)) (ti : P.underlying si = some (.int .i64)) (ci : P.cellsOf si = 1)
    (n0 : P.cellsOf f0.type = 1) (n1 : P.cellsOf f1.type = 1) (n2 : P.cellsOf f2.type = 1) (n3 : P.cellsOf f3.type = 1)
    (hf : DataW.trod enc P w base (fun _ => true) held fuel t cs = some x) : ∃ c : RcV, cs = [.int .i64 c.r.kind, sv c.r.key, .int .i64 c.r.len, c.vs] ∧ c.In w ∧ ∀ n d, c.vs = .slice none n d → d = 0 := by
  obtain ⟨xs, n', _, _, hlen, hxl, hfd⟩ := DataW.trod_struct he hf
  rw [ce] at hlen
  obtain ⟨v0, v1, v2, v3, rfl⟩ := four16 hlen
  have hxl' : xs.length = 4 := hxl
  have g : ∀ k, k < 4 → ∃ y, xs[k]? = some y := fun k hk => ⟨xs[k], List.getElem?_eq_getElem (by omega)⟩
  obtain ⟨y0, e0⟩ := g 0 (by omega)
  obtain ⟨y1, e1⟩ := g 1 (by omega)
  obtain ⟨y2, e2⟩ := g 2 (by omega)
  obtain ⟨y3, e3⟩ := g 3 (by omega)
  have q0 := hfd 0 f0 rfl
  have q1 := hfd 1 f1 rfl
  have q2 := hfd 2 f2 rfl
  have q3 := hfd 3 f3 rfl
  rw [o0, n0, e0] at q0
  rw [o1, n1, e1] at q1
  rw [o2, n2, e2] at q2
  rw [o3, n3, e3] at q3
  obtain ⟨z0, r0, _, w0⟩ := DataW.trod_int t0 q0
  obtain ⟨s, r1, _, ls⟩ := DataW.trod_string t1 q1
  obtain ⟨z2, r2, _, w2⟩ := DataW.trod_int t2 q2
  simp at r0 r1 r2
  subst r0 r1 r2
  have cp := open_cap19 t3 ti ci q3
  obtain ⟨pk, hk, hw⟩ := open_ints16 t3 ti ci q3
  exact ⟨⟨⟨z0, s.data.toList, z2, pk⟩, v3⟩, rfl, ⟨w0, w2, by simpa using ls, hk, hw⟩, cp⟩
/-- an argument that is a script of calls on a catalog -/
theorem open_kcalls {t e si : TypeId} {e0 e1 e2 r0 r1 r2 r3 : Field} {fuel : Nat} {cs : List Value} {x : DataW H × List MemPlace} (ht : P.underlying t = some (.slice e)) (he : P.underlying e = some (.struct #[e0, e1, e2])) (ce : P.cellsOf e = 6)
    (p0 : e0.offset = 0) (p1 : e1.offset = 1) (p2 : e2.offset = 5)
    (u0 : P.underlying e0.type = some (.int .i64)) (u2 : P.underlying e2.type = some (.int .i64))
    (m0 : P.cellsOf e0.type = 1) (m1 : P.cellsOf e1.type = 4) (m2 : P.cellsOf e2.type = 1)
    (hr : P.underlying e1.type = some (.struct #[r0, r1, r2, r3])) (ro0 : r0.offset = 0) (ro1 : r1.offset = 1) (ro2 : r2.offset = 2) (ro3 : r3.offset = 3) (rt0 : P.underlying r0.type = some (.int .i64)) (rt1 : P.underlying r1.type = some .string) (rt2 : P.underlying r2.type = some (.int .i64)) (rt3 : P.underlying r3.type = some (.slice si)) (ti : P.underlying si = some (.int .i64)) (ci : P.cellsOf si = 1) (rn0 : P.cellsOf r0.type = 1) (rn1 : P.cellsOf r1.type = 1) (rn2 : P.cellsOf r2.type = 1) (rn3 : P.cellsOf r3.type = 1)
    (h : DataW.trod enc P w base (fun _ => true) held fuel t cs = some x) : ∃ a len cap L, cs = [.slice a len cap] ∧ len = L.length ∧ RdC19 w (.slice a len cap) L := by
  rcases Go.Deep.open_slice ht h with ⟨rfl, _⟩ | ⟨a, len, cap, m, n, D, Pl, rfl, hb, hl, hm, hmm, rfl, hx⟩
  · exact ⟨none, 0, 0, [], rfl, rfl, Or.inl ⟨none, 0, rfl, rfl⟩⟩
  simp only [if_true] at hmm
  by_cases hl0 : len = 0
  · subst hl0
    exact ⟨some a, 0, cap, [], rfl, rfl, Or.inl ⟨_, _, rfl, rfl⟩⟩
  obtain ⟨bb, off, spot⟩ := a
  have hspot : spot = none := by
    obtain ⟨cs', h1, _⟩ := hx 0 (by omega)
    rw [ce] at h1
    have hc := World.cells?_some h1
    have h2 := hc.2.2 0 (by omega)
    obtain ⟨v, hv⟩ : ∃ v, cs'[0]? = some v := ⟨cs'[0]'(by omega), List.getElem?_eq_getElem (by omega)⟩
    rw [hv] at h2
    have := World.cell?_spot h2
    simpa [Addr.add] using this
  subst hspot
  have each : ∀ i, i < len → ∃ c : CallK, CallAtK w bb (off + i * 6) c := by
    intro i hi
    obtain ⟨cs', h1, h2⟩ := hx i (by omega)
    obtain ⟨xs, n', _, _, hlen, hxl, hf⟩ := DataW.trod_struct he h2
    rw [ce] at hlen h1
    obtain ⟨v0, v1, v2, v3, v4, v5, rfl⟩ := six19 hlen
    have hxl' : xs.length = 3 := hxl
    have g : ∀ k, k < 3 → ∃ y, xs[k]? = some y := fun k hk => ⟨xs[k], List.getElem?_eq_getElem (by omega)⟩
    obtain ⟨y0, q0e⟩ := g 0 (by omega)
    obtain ⟨y1, q1e⟩ := g 1 (by omega)
    obtain ⟨y2, q2e⟩ := g 2 (by omega)
    have q0 := hf 0 e0 rfl
    have q1 := hf 1 e1 rfl
    have q2 := hf 2 e2 rfl
    rw [p0, m0, q0e] at q0
    rw [p1, m1, q1e] at q1
    rw [p2, m2, q2e] at q2
    obtain ⟨z0, k0, _, w0⟩ := DataW.trod_int u0 q0
    obtain ⟨z2, k2, _, w2⟩ := DataW.trod_int u2 q2
    simp at k0 k2
    subst k0 k2
    obtain ⟨rc, hc4, hin, hcp⟩ := open_rcell19 hr m1 ro0 ro1 ro2 ro3 rt0 rt1 rt2 rt3 ti ci rn0 rn1 rn2 rn3 q1
    simp at hc4
    obtain ⟨rfl, rfl, rfl, rfl⟩ := hc4
    obtain ⟨hbase, _, hc⟩ := World.cells?_some h1
    have kk : ∀ k, k < 6 → w.cell? ⟨bb, off + i * 6 + k, none⟩ = [Value.int .i64 z0, .int .i64 rc.r.kind, sv rc.r.key, .int .i64 rc.r.len, rc.vs, .int .i64 z2][k]? := by
      intro k hk
      have := hc k hk
      rw [Go.Deep.add_add, add_at, ← Nat.add_assoc] at this
      exact this
    exact ⟨⟨z0, rc, z2⟩, kk 0 (by omega), kk 1 (by omega), kk 2 (by omega), kk 3 (by omega), kk 4 (by omega), kk 5 (by omega), w0, w2, hin, hcp⟩
  obtain ⟨F, hF⟩ := Go.Deep.choose_lt each
  have hlen : ((List.range len).map F).length = len := by simp
  refine ⟨some ⟨bb, off, none⟩, len, cap, (List.range len).map F, rfl, hlen.symm, ?_⟩
  have hc0 := (hF 0 (by omega)).s0
  have hbw : bb < w.heap.size := by
    unfold World.cell? at hc0
    by_cases hb : bb < w.heap.size
    · exact hb
    · rw [Array.getElem?_eq_none (by show w.heap.size ≤ bb; omega)] at hc0; cases hc0
  refine Or.inr ⟨bb, off, cap, fun e => by rw [e] at hlen; simp at hlen; omega, by rw [hlen], by rw [hlen]; omega, hbw, fun i hi => ?_⟩
  rw [hlen] at hi
  have e1 : ((List.range len).map F).getD i default = F i := by simp [List.getD, hi]
  rw [e1]
  exact hF i hi
end
end Go.Proofs.Ytndlfmofjmieaaa.Gf

namespace Go.Proofs.Ytndlfmofjmieaaa.Gf
set_option linter.unusedVariables false
set_option linter.unusedSimpArgs false
open Go.RowKit
def smK (x : CallK) : Bool := decide (x.r.r.key.length ≤ 100 ∧ x.r.r.st.length ≤ 40)
def aggK (x : CallK) : Value := .agg #[.int .i64 x.kind, .int .i64 x.r.r.kind, sv x.r.r.key, .int .i64 x.r.r.len, x.r.vs, .int .i64 x.ep]
set_option maxRecDepth 100000 in
set_option maxHeartbeats 1000000 in
theorem csmall19_any {w : World} {x : CallK} (h : x.r.In w) {b : Bool} (hb : smK x = b) : Calls Try.prog 14 #[aggK x] w fun e w' => e = .returned (.bool b) ∧ Below w.heap.size w w' := by
  obtain ⟨kd, ⟨⟨rk, ky, ln, st⟩, vs⟩, ep⟩ := x
  obtain ⟨sa, sc, es⟩ := h.rs.form
  simp only at es
  subst es
  clear h
  obtain ⟨W, hW⟩ : ∃ W, W = w.alloc (.cells #[.int .i64 kd, .int .i64 rk, .string ⟨ky.toArray⟩, .int .i64 ln, .slice sa st.length sc, .int .i64 ep] 41) := ⟨_, rfl⟩
  have B := hidK (show Below w.heap.size w W by rw [hW]; exact belL _ _)
  have z : ∀ j, W.cell? ⟨w.heap.size, j, none⟩ = (#[Value.int .i64 kd, .int .i64 rk, .string ⟨ky.toArray⟩, .int .i64 ln, .slice sa st.length sc, .int .i64 ep] : Array Value)[j]? := fun j => by rw [hW]; exact World.cell?_alloc_new _ _ _ _
  have z2 : W.cell? ⟨w.heap.size, 2, none⟩ = some (.string ⟨ky.toArray⟩) := z 2
  have z4 : W.cell? ⟨w.heap.size, 4, none⟩ = some (.slice sa st.length sc) := z 4
  clear z
  show Calls Try.prog 14 #[.agg #[.int .i64 kd, .int .i64 rk, .string ⟨ky.toArray⟩, .int .i64 ln, .slice sa st.length sc, .int .i64 ep]] w _
  by_cases h1 : (ky.length : Int) ≤ 100
  rotate_left
  · obtain rfl : b = false := hb.symm.trans (decide_eq_false fun q => h1 (by have := q.1; show (ky.length : Int) ≤ 100; simp only at this; omega))
    clear hb
    rw [hW] at z2 z4 B
    clear hW
    go_enter Try.func14, Try.ntmps14
    go_wp2
    go_ret
    exact ⟨rfl, B.out⟩
  have e : b = decide ((st.length : Int) ≤ 40) := by
    rw [← hb]
    unfold smK
    rw [decide_eq_decide]
    simp only
    omega
  subst e
  clear hb
  rw [hW] at z2 z4 B
  clear hW
  go_enter Try.func14, Try.ntmps14
  go_wp2
  go_ret
  exact ⟨rfl, B.out⟩
end Go.Proofs.Ytndlfmofjmieaaa.Gf
