/- TEXTS JOINED: CtCB. -/
import Derived.Lib.SliceRun
import Derived.Test.YtndlfmofjmieaaaPome9
namespace Go.Proofs.Ytndlfmofjmieaaa.Gf
set_option linter.unusedVariables false
set_option linter.unusedSimpArgs false
open Go.RowKit
open Go.Maps (Keyed)
set_option maxRecDepth 100000 in
set_option maxHeartbeats 1000000 in
theorem cclone19_any {w : World} {v : Value} {zs : List Int} (h : RdI w v zs) (hl : zs.length ≤ 1000) : Calls Try.prog 59 #[v] w fun e w' => ∃ v', e = .returned v' ∧ RdI w' v' zs ∧ NewS w.heap.size v' ∧ Below w.heap.size w w' := by
  obtain ⟨a, c, rfl⟩ := h.form
  have qT : ∀ (w : World) (a : Option Addr) (n c n' c' : Nat), (binOp .eql 37 (.slice a n c) (.slice none n' c')).run Try.prog w = .ok (.bool a.isNone) w := fun w a n c n' c' => Lib.run_eql_slice_nil w _ _ a n c n' c' Try.underlying37
  cases a with
  | none =>
    have e0 : zs = [] := by
      rcases h with ⟨_, _, e, _⟩ | ⟨b, off, cap, h1, h2, _⟩
      · exact e
      · simp at h2
    subst e0
    clear h
    go_enter Try.func59, Try.ntmps59
    go_wp2
    go_ret
    exact ⟨_, rfl, Or.inl ⟨none, 0, rfl, rfl⟩, fun x n c e => by simp at e, Below.refl _ _⟩
  | some ad =>
    have B1 : Below w.heap.size w (w.alloc (.cells #[] 3)) := belL _ _
    have O1 := made_zs w (Nat.le_refl w.heap.size)
    have h1 := h.below B1
    have hsz : w.heap.size ≤ (w.alloc (.cells #[] 3)).heap.size := B1.size
    have hca : ∀ n c', Value.slice (some ad) zs.length c = .slice none n c' → c' = 0 := fun n c' e => by cases e
    clear h
    go_enter Try.func59, Try.ntmps59
    go_wp2_with (at_builtin; go_loud (refine wpList_append_zs rfl (.tmp 5) (.tmp 6) rfl rfl rfl O1 h1 hca (by simp; omega) hsz ?_); intro v' w9 hv9 hg9)
    have HB : Hid (Below w.heap.size w w9) := hg9.bel19 B1 hsz (fun q hq => by cases hq; exact Nat.le_refl _)
    have HO : Hid (RdI w9 v' zs ∧ NewS w.heap.size v') := ⟨OwnZ.rd (by simpa using hv9) (by omega), OwnZ.new hv9⟩
    clear hv9 hg9 B1 O1 h1 qT hca
    go_wp2
    go_ret
    exact ⟨v', rfl, HO.out.1, HO.out.2, HB.out⟩
set_option maxRecDepth 100000 in
set_option maxHeartbeats 1000000 in
theorem cown19_any {w : World} {c : ObV} (h : ObOk w c) (hl : c.o.st.length ≤ 1000) : Calls Try.prog 45 #[aggO c] w fun e w' => ∃ v', e = .returned (aggO ⟨c.o, v'⟩) ∧ ObOk w' ⟨c.o, v'⟩ ∧ NewS w.heap.size v' ∧ Below w.heap.size w w' := by
  obtain ⟨⟨ky, ln, ep, st⟩, vs⟩ := c
  have HC := hidK h
  obtain ⟨sa, sc, e⟩ := h.rs.form
  simp only at e hl
  subst e
  clear h
  show Calls Try.prog 45 #[.agg #[.string ⟨ky.toArray⟩, .int .i64 ln, .int .i64 ep, .slice sa st.length sc]] w _
  obtain ⟨W1, hW1⟩ : ∃ W, W = w.alloc (.cells #[.string ⟨ky.toArray⟩, .int .i64 ln, .int .i64 ep, .slice sa st.length sc] 52) := ⟨_, rfl⟩
  obtain ⟨W, hW⟩ : ∃ W, W = W1.alloc (.cells #[.string ⟨#[]⟩, .int .i64 0, .int .i64 0, .slice none 0 0] 52) := ⟨_, rfl⟩
  have TA : Hid (∀ V, Below W1.heap.size W1 V → Below w.heap.size w V ∧ V.cell? ⟨w.heap.size, 0, none⟩ = some (.string ⟨ky.toArray⟩) ∧ V.cell? ⟨w.heap.size, 1, none⟩ = some (.int .i64 ln) ∧ V.cell? ⟨w.heap.size, 2, none⟩ = some (.int .i64 ep) ∧ V.cell? ⟨w.heap.size, 3, none⟩ = some (.slice sa st.length sc) ∧ ∀ j, V.frozen? ⟨w.heap.size, j, none⟩ = false) := by rw [hW1]; exact box4 _ _ _ _ _ _
  have TB : Hid (∀ V, Below W.heap.size W V → Below W1.heap.size W1 V ∧ V.cell? ⟨W1.heap.size, 0, none⟩ = some (.string ⟨#[]⟩) ∧ V.cell? ⟨W1.heap.size, 1, none⟩ = some (.int .i64 0) ∧ V.cell? ⟨W1.heap.size, 2, none⟩ = some (.int .i64 0) ∧ V.cell? ⟨W1.heap.size, 3, none⟩ = some (.slice none 0 0) ∧ ∀ j, V.frozen? ⟨W1.heap.size, j, none⟩ = false) := by rw [hW]; exact box4 _ _ _ _ _ _
  have s1 : Hid (W1.heap.size = w.heap.size + 1) := by show _ = _; rw [hW1]; simp
  have hs2 : Hid (W1.heap.size < W.heap.size) := by show _ < _; rw [hW]; simp
  have BW := (TA.out W (TB.out W (Below.refl _ _)).1).1
  have K := cclone19_any (HC.out.rs.below BW) hl
  obtain ⟨_, a0, a1, a2, a3, af⟩ := TA.out W (TB.out W (Below.refl _ _)).1
  clear af a0 a1 a2 BW
  go_enter Try.func45, Try.ntmps45
  go_wp2_with fail
  rw [← hW1, ← hW]
  clear hW1 hW
  refine K.mono ?_
  clear K a3
  rintro _ w2 ⟨v', rfl, rd, nw, b2⟩
  obtain ⟨b1, q0, q1, q2, q3, qf⟩ := TB.out w2 b2
  obtain ⟨bw, a0, a1, a2, a3, af⟩ := TA.out w2 b1
  obtain ⟨va, vc, ev⟩ := rd.form
  subst ev
  have hsz : W.heap.size ≥ w.heap.size := (TA.out W (TB.out W (Below.refl _ _)).1).1.size
  obtain ⟨w3, hw3⟩ : ∃ V, V = w2.setCell ⟨w.heap.size, 3, none⟩ (.slice va st.length vc) := ⟨_, rfl⟩
  have o3 : Only w.heap.size w2 w3 := by rw [hw3]; exact (Only.refl _ _).setCell _ _
  have ne : w.heap.size ≠ W1.heap.size := by rw [s1.out]; omega
  have d3 : w3.cell? ⟨w.heap.size, 3, none⟩ = some (.slice va st.length vc) := by rw [hw3]; exact World.cell?_setCell_same _ _ _ a3
  have d0 : w3.cell? ⟨w.heap.size, 0, none⟩ = some (.string ⟨ky.toArray⟩) := by rw [hw3]; exact (World.cell?_setCell_other _ _ _ _ (by simp)).trans a0
  have d1 : w3.cell? ⟨w.heap.size, 1, none⟩ = some (.int .i64 ln) := by rw [hw3]; exact (World.cell?_setCell_other _ _ _ _ (by simp)).trans a1
  have d2 : w3.cell? ⟨w.heap.size, 2, none⟩ = some (.int .i64 ep) := by rw [hw3]; exact (World.cell?_setCell_other _ _ _ _ (by simp)).trans a2
  have k0 := (o3.cell (p := ⟨W1.heap.size, 0, none⟩) ne.symm).trans q0
  have k1 := (o3.cell (p := ⟨W1.heap.size, 1, none⟩) ne.symm).trans q1
  have k2 := (o3.cell (p := ⟨W1.heap.size, 2, none⟩) ne.symm).trans q2
  have k3 := (o3.cell (p := ⟨W1.heap.size, 3, none⟩) ne.symm).trans q3
  have kf : ∀ j, w3.frozen? ⟨W1.heap.size, j, none⟩ = false := fun j => (o3.frozen (p := ⟨W1.heap.size, j, none⟩) ne.symm).trans (qf j)
  have f0 := kf 0
  have f1 := kf 1
  have f2 := kf 2
  have f3 := kf 3
  have g3 := af 3
  obtain ⟨oY, s0, s1', s2, s3⟩ := set4 (a := .string ⟨ky.toArray⟩) (b := .int .i64 ln) (c := .int .i64 ep) (d := .slice va st.length vc) k0 k1 k2 k3
  obtain ⟨w4, hw4⟩ : ∃ V, V = (((w3.setCell ⟨W1.heap.size, 0, none⟩ (.string ⟨ky.toArray⟩)).setCell ⟨W1.heap.size, 1, none⟩ (.int .i64 ln)).setCell ⟨W1.heap.size, 2, none⟩ (.int .i64 ep)).setCell ⟨W1.heap.size, 3, none⟩ (.slice va st.length vc) := ⟨_, rfl⟩
  rw [← hw4] at oY
  have FIN : Hid (∃ v', Ending.returned (Value.agg #[.string ⟨ky.toArray⟩, .int .i64 ln, .int .i64 ep, .slice va st.length vc]) = .returned (aggO ⟨⟨ky, ln, ep, st⟩, v'⟩) ∧ ObOk w4 ⟨⟨ky, ln, ep, st⟩, v'⟩ ∧ NewS w.heap.size v' ∧ Below w.heap.size w w4) := by
    have hb : Below w.heap.size w w3 := bw.trans (o3.below (Nat.le_refl _))
    have hb4 : Below w.heap.size w w4 := hb.trans (oY.below (by rw [s1.out]; omega))
    refine ⟨.slice va st.length vc, rfl, ⟨HC.out.wl, HC.out.we, HC.out.ky, ?_, HC.out.wi⟩, nw.mono hsz, hb4⟩
    rcases rd with h | ⟨b, off, cap, h1, h2, h3, h4, h5⟩
    · exact Or.inl h
    · have hb : W.heap.size ≤ b := nw _ _ _ h2
      have hs2 := hs2.out
      refine Or.inr ⟨b, off, cap, h1, h2, h3, by rw [oY.size, o3.size]; exact h4, fun i hi => ?_⟩
      rw [oY.cell (p := ⟨b, off + i, none⟩) (show b ≠ W1.heap.size by omega), o3.cell (p := ⟨b, off + i, none⟩) (show b ≠ w.heap.size by rw [s1.out] at hs2; omega)]
      exact h5 i hi
  rw [s1.out] at k0 k1 k2 k3 f0 f1 f2 f3 s0 s1' s2 s3 hw4
  clear TA TB rd nw b2 b1 hl HC hs2 s1 q0 q1 q2 q3 qf bw a0 a1 a2 af hsz o3 ne kf oY
  subst hw3
  go_wp2
  exact bodyPost_ret (v := .agg #[.string ⟨ky.toArray⟩, .int .i64 ln, .int .i64 ep, .slice va st.length vc]) (by simp [results, Try.results45, go_sem, s0, s1', s2, s3]) rfl (by rw [← hw4]; exact FIN.out)
/-- what a call leaves that changes the catalog -/
def Leaves19 (w : World) (cb mb : Nat) (g : GeoS) (P : Nat → Prop) (X : Int) (M : List ObV) (e : Ending) (w' : World) : Prop :=
  e = .returned (.int .i64 X) ∧ CatI w' cb mb g M P ∧ TurnG (fun k => k = mb) w w'
theorem deV_none {L : List ObV} {k : List UInt8} (h : finV L k = none) : deV L k = L := by
  induction L with
  | nil => rfl
  | cons y l ih =>
    unfold finV at h
    unfold deV
    by_cases e : y.o.key = k
    · rw [if_pos e] at h; cases h
    · rw [if_neg e] at h
      rw [if_neg e, ih h]
/-- the map's turn behind a delete, a store -/
theorem CatI.drops {w : World} {cb mb : Nat} {g : GeoS} {LV : List ObV} {P : Nat → Prop} (h : CatI w cb mb g LV P) {k : List UInt8} (hk : k.length ≤ maxLen) (ty : Nat) :
    ∃ w', (Builtin.delete_ #[70, 9] ty #[.map (some mb), .string ⟨k.toArray⟩]).run Try.prog w = .ok (.tuple #[]) w' ∧ CatI w' cb mb g (deV LV k) P ∧ TurnG (fun k => k = mb) w w' := by
  obtain ⟨w', hrun, hm, ht⟩ := h.mp.drop keyed_str under_omap (key_str hk) ty
  have t := mt_turn ht
  refine ⟨w', hrun, ?_, t⟩
  have ne : ¬ cb = mb := h.ne
  obtain ⟨⟨x0, x1, x2, x3, x4, x5⟩, c6, mp, ok, inv, gok, gw, lt, off, lp, pc, pm⟩ := h
  have kc : ∀ j, w'.cell? ⟨cb, j, none⟩ = w.cell? ⟨cb, j, none⟩ := fun j => t.cell (p := ⟨cb, j, none⟩) lt ne
  refine ⟨⟨(kc _).trans x0, (kc _).trans x1, (kc _).trans x2, (kc _).trans x3, (kc _).trans x4, (kc _).trans x5⟩, (kc _).trans c6, hm.congr fun d => ?_, fun c hc => ?_, ?_, gok, gw, Nat.lt_of_lt_of_le lt t.size, fun c hc => off c (deV_mem hc), fun q hq => Nat.lt_of_lt_of_le (lp q hq) t.size, pc, pm⟩
  · unfold delS mpF
    rw [deV_fin inv.rise]
    by_cases e : d = k
    · rw [if_pos e, if_pos e]; rfl
    · rw [if_neg e, if_neg e]
  · have q := ok c (deV_mem hc)
    exact q.offG (q.rs.notMap mp.isMap) t
  · rw [oL_deV]
    exact inv.del k
set_option maxRecDepth 100000 in
set_option maxHeartbeats 1000000 in
theorem cdrop19_any {w : World} {cb mb : Nat} {g : GeoS} {LV : List ObV} {P : Nat → Prop} (h : CatI w cb mb g LV P) {k : List UInt8} (hk : k.length ≤ maxLen) {X : Int} (hX : (if finV LV k = none then 193 else 0) = X) :
    Calls Try.prog 51 #[.pointer (some ⟨cb, 0, none⟩), .string ⟨k.toArray⟩] w (Leaves19 w cb mb g P X (deV LV k)) := by
  have H := hidK h
  clear h
  obtain ⟨hs, hhs⟩ : ∃ b, Hid ((finV LV k).isSome = b) := ⟨_, rfl⟩
  have K1 := chas19_any H.out hk hhs.out
  cases hs with
  | false =>
    have N : finV LV k = none := by
      have := hhs.out
      cases e : finV LV k with
      | none => rfl
      | some c => rw [e] at this; cases this
    rw [if_pos N] at hX
    subst hX
    have F : Hid (∀ V, Below w.heap.size w V → Leaves19 w cb mb g P 193 (deV LV k) (.returned (.int .i64 193)) V) := fun V bV => ⟨rfl, by rw [deV_none N]; exact H.out.below bV, Below.turnG bV _⟩
    clear N hhs H
    go_enter Try.func51, Try.ntmps51
    go_wp2_with fail
    refine K1.mono ?_
    clear K1
    rintro _ w2 ⟨rfl, b2⟩
    go_wp2
    go_ret
    exact F.out _ b2
  | true =>
    have N : ¬ finV LV k = none := fun e => by have := hhs.out; rw [e] at this; cases this
    rw [if_neg N] at hX
    subst hX
    clear N hhs
    go_enter Try.func51, Try.ntmps51
    go_wp2_with fail
    refine K1.mono ?_
    clear K1
    rintro _ w2 ⟨rfl, b2⟩
    have c6 := (H.out.below b2).c6
    obtain ⟨w3, hrun, C3, t3⟩ := (H.out.below b2).drops hk 0
    have F : Hid (Leaves19 w cb mb g P 0 (deV LV k) (.returned (.int .i64 0)) w3) := ⟨rfl, C3, (Below.turnG b2 _).trans t3⟩
    clear C3 t3 H b2
    go_wp2
    go_ret
    exact F.out
end Go.Proofs.Ytndlfmofjmieaaa.Gf
