/- TEXTS JOINED: ReRefJ, MeRw. -/
import Derived.Test.YtndlfmofjmieaaaPome5
namespace Go.Proofs.Ytndlfmofjmieaaa.Gf
set_option linter.unusedVariables false
set_option linter.unusedSimpArgs false
open Go.RowKit
theorem oL_ext {L M : List ObV} (hl : L.length = M.length) (h : ∀ i, i < L.length → (L.getD i default).o = (M.getD i default).o) : oL L = oL M := by
  refine List.ext_getElem (by rw [oL_length, oL_length, hl]) fun i h1 h2 => ?_
  have e1 := oL_getD L i
  have e2 := oL_getD M i
  rw [List.getD_eq_getElem?_getD, List.getElem?_eq_getElem h1] at e1
  rw [List.getD_eq_getElem?_getD, List.getElem?_eq_getElem h2] at e2
  rw [oL_length] at h1
  exact e1.trans ((h i h1).trans e2.symm)
theorem putR_eq {a b : ObS} : sameR (putR a) (putR b) = true ∧ a.ep = b.ep ↔ a = b := by
  rw [sameR_iff]
  obtain ⟨k, n, e, s⟩ := a
  obtain ⟨k', n', e', s'⟩ := b
  unfold putR
  simp only [RcS.mk.injEq, ObS.mk.injEq, true_and]
  constructor
  · rintro ⟨⟨h1, h2, h3⟩, h4⟩; exact ⟨h1, h2, h4, h3⟩
  · rintro ⟨h1, h2, h4, h3⟩; exact ⟨⟨h1, h2, h3⟩, h4⟩
theorem ObAt.in_put16 {w : World} {b off : Nat} {c : ObV} (h : ObAt w b off c) : RcV.In w ⟨putR c.o, c.vs⟩ := ⟨by show (Lit.int .i64 1).wf = true; decide, h.wl, h.ky, h.rs, h.wi⟩
set_option maxRecDepth 100000 in
set_option maxHeartbeats 4000000 in
theorem robjs16_any {w : World} {v u : Value} {L M : List ObV} (h : RdO w v L) (k : RdO w u M) (hL : L.length ≤ 1000) (hs : ∀ i, i < L.length → (L.getD i default).o.st.length ≤ 1000000) (hs2 : ∀ i, i < M.length → (M.getD i default).o.st.length ≤ 1000000) : Calls Try.prog 16 #[v, u] w (Says16 (oL L = oL M) w) := by
  obtain ⟨a, cp, rfl⟩ := h.form
  obtain ⟨a', cp', rfl⟩ := k.form
  by_cases h5 : L.length = M.length
  rotate_left
  · have N : Hid (¬ oL L = oL M) := fun q => h5 (by have := congrArg List.length q; rwa [oL_length, oL_length] at this)
    have h5' : ¬ (L.length : Int) = (M.length : Int) := by omega
    clear h k hs hs2
    go_enter Try.func16, Try.ntmps16
    go_wp2
    go_ret
    exact Says16.no N.out rfl (Below.refl _ _)
  have h5' : (L.length : Int) = (M.length : Int) := by omega
  have h6 : Hid (L.length = M.length) := h5
  clear h5
  go_enter Try.func16, Try.ntmps16
  go_wp2
  go_loopw [5] (fun i wr => ∃ r : Nat, r ≤ L.length ∧ i = .int .i64 (r : Int) ∧ Hid (Below w.heap.size w wr) ∧ Hid (∀ j, j < r → (L.getD j default).o = (M.getD j default).o)) (fun i _ => L.length - (intOf i).toNat)
  case atStart => exact ⟨0, Nat.zero_le _, rfl, Below.refl _ _, fun j hj => absurd hj (Nat.not_lt_zero _)⟩
  case round =>
    obtain ⟨r, hr, rfl, hB, hall⟩ := hrel
    by_cases hlt : r < L.length
    · have hlt' : (r : Int) < (L.length : Int) := by omega
      have hlt2 : r < M.length := by rw [← h6.out]; exact hlt
      have hlt3 : (r : Int) < (M.length : Int) := by omega
      obtain ⟨b, off, rfl, hb, cz⟩ := (h.below hB.out).at hlt
      obtain ⟨b', off', rfl, hb', cz'⟩ := (k.below hB.out).at hlt2
      have HA : Hid ((L.getD r default).o = (M.getD r default).o → ∀ j, j < r + 1 → (L.getD j default).o = (M.getD j default).o) := fun q j hj => by
        by_cases e : j = r
        · rw [e]; exact q
        · exact hall.out j (by omega)
      have HN : Hid ((L.getD r default).o ≠ (M.getD r default).o → ¬ oL L = oL M) := fun q e => q (by rw [← oL_getD, ← oL_getD, e])
      have l1 := hs r hlt
      have l2 := hs2 r hlt2
      generalize L.getD r default = c at cz HA HN l1
      generalize M.getD r default = d at cz' HA HN l2
      have I1 := cz.in_put16
      have I2 := cz'.in_put16
      obtain ⟨⟨ky, ln, ep, st⟩, vs⟩ := c
      obtain ⟨a2, c2, e⟩ := cz.rs.form
      simp only at e HA HN l1
      subst e
      obtain ⟨⟨ky', ln', ep', st'⟩, vs'⟩ := d
      obtain ⟨a3, c3, e⟩ := cz'.rs.form
      simp only at e HA HN l2
      subst e
      have SB : ∀ W, Below wr.heap.size wr W → (W.cell? ⟨b, off + r * 4, none⟩ = some (.string ⟨ky.toArray⟩) ∧ W.cell? ⟨b, off + r * 4 + 1, none⟩ = some (.int .i64 ln) ∧ W.cell? ⟨b, off + r * 4 + 2, none⟩ = some (.int .i64 ep) ∧ W.cell? ⟨b, off + r * 4 + 3, none⟩ = some (.slice a2 st.length c2)) ∧ W.cell? ⟨b', off' + r * 4, none⟩ = some (.string ⟨ky'.toArray⟩) ∧ W.cell? ⟨b', off' + r * 4 + 1, none⟩ = some (.int .i64 ln') ∧ W.cell? ⟨b', off' + r * 4 + 2, none⟩ = some (.int .i64 ep') ∧ W.cell? ⟨b', off' + r * 4 + 3, none⟩ = some (.slice a3 st'.length c3) := fun W q => ⟨⟨(q.cell (p := ⟨b, off + r * 4, none⟩) hb).trans cz.c0, (q.cell (p := ⟨b, off + r * 4 + 1, none⟩) hb).trans cz.c1, (q.cell (p := ⟨b, off + r * 4 + 2, none⟩) hb).trans cz.c2, (q.cell (p := ⟨b, off + r * 4 + 3, none⟩) hb).trans cz.c3⟩, (q.cell (p := ⟨b', off' + r * 4, none⟩) hb').trans cz'.c0, (q.cell (p := ⟨b', off' + r * 4 + 1, none⟩) hb').trans cz'.c1, (q.cell (p := ⟨b', off' + r * 4 + 2, none⟩) hb').trans cz'.c2, (q.cell (p := ⟨b', off' + r * 4 + 3, none⟩) hb').trans cz'.c3⟩
      have SH : Hid _ := SB
      have KA : ∀ W, Below wr.heap.size wr W → Calls Try.prog 42 #[.agg #[.string ⟨ky.toArray⟩, .int .i64 ln, .int .i64 ep, .slice a2 st.length c2]] W (fun e w' => e = .returned (.agg #[.int .i64 1, .string ⟨ky.toArray⟩, .int .i64 ln, .slice a2 st.length c2]) ∧ Below wr.heap.size wr w') := fun W q => (rput_any (c := ⟨⟨ky, ln, ep, st⟩, .slice a2 st.length c2⟩) (w := W) (cz.rs.below q)).mono fun e w' ⟨he, hb⟩ => ⟨he, q.step16 hb q.size⟩
      have KB : ∀ W, Below wr.heap.size wr W → Calls Try.prog 42 #[.agg #[.string ⟨ky'.toArray⟩, .int .i64 ln', .int .i64 ep', .slice a3 st'.length c3]] W (fun e w' => e = .returned (.agg #[.int .i64 1, .string ⟨ky'.toArray⟩, .int .i64 ln', .slice a3 st'.length c3]) ∧ Below wr.heap.size wr w') := fun W q => (rput_any (c := ⟨⟨ky', ln', ep', st'⟩, .slice a3 st'.length c3⟩) (w := W) (cz'.rs.below q)).mono fun e w' ⟨he, hb⟩ => ⟨he, q.step16 hb q.size⟩
      obtain ⟨x, hx⟩ : ∃ x, Hid (sameR (putR ⟨ky, ln, ep, st⟩) (putR ⟨ky', ln', ep', st'⟩) = x) := ⟨_, rfl⟩
      have KS : ∀ W, Below wr.heap.size wr W → Calls Try.prog 41 #[.agg #[.int .i64 1, .string ⟨ky.toArray⟩, .int .i64 ln, .slice a2 st.length c2], .agg #[.int .i64 1, .string ⟨ky'.toArray⟩, .int .i64 ln', .slice a3 st'.length c3]] W (fun e w' => e = .returned (.bool x) ∧ Below wr.heap.size wr w') := fun W q => (same16_any (c := ⟨putR ⟨ky, ln, ep, st⟩, .slice a2 st.length c2⟩) (d := ⟨putR ⟨ky', ln', ep', st'⟩, .slice a3 st'.length c3⟩) (w := W) (I1.below q) (I2.below q) (by show st.length ≤ _; omega) (by show st'.length ≤ _; omega) hx.out).mono fun e w' ⟨he, hb⟩ => ⟨he, q.step16 hb q.size⟩
      have D0 : Below wr.heap.size wr wr.drew := (Below.refl _ _).drew
      clear h k hall I1 I2 cz cz'
      go_wp2
      go_region_held3 (fun wx => (wx.cell? ⟨b, off + r * 4, none⟩ = some (.string ⟨ky.toArray⟩) ∧ wx.cell? ⟨b, off + r * 4 + 1, none⟩ = some (.int .i64 ln) ∧ wx.cell? ⟨b, off + r * 4 + 2, none⟩ = some (.int .i64 ep) ∧ wx.cell? ⟨b, off + r * 4 + 3, none⟩ = some (.slice a2 st.length c2)) ∧ wx.cell? ⟨b', off' + r * 4, none⟩ = some (.string ⟨ky'.toArray⟩) ∧ wx.cell? ⟨b', off' + r * 4 + 1, none⟩ = some (.int .i64 ln') ∧ wx.cell? ⟨b', off' + r * 4 + 2, none⟩ = some (.int .i64 ep') ∧ wx.cell? ⟨b', off' + r * 4 + 3, none⟩ = some (.slice a3 st'.length c3)) (exact SB _ (by assumption)) (first | (go_at_call_of 42 (Value.agg #[.string ⟨ky.toArray⟩, .int .i64 ln, .int .i64 ep, .slice a2 st.length c2]); refine (KA _ (by assumption)).mono ?_; rintro _ w3 ⟨rfl, b3⟩) | (go_at_call_of 42 (Value.agg #[.string ⟨ky'.toArray⟩, .int .i64 ln', .int .i64 ep', .slice a3 st'.length c3]); refine (KB _ (by assumption)).mono ?_; rintro _ w4 ⟨rfl, b4⟩) | (go_at_call 41; refine (KS _ (by assumption)).mono ?_; rintro _ w5 ⟨rfl, b5⟩))
      obtain ⟨⟨z0, z1, z2, z3⟩, y0, y1, y2, y3⟩ := SB _ b5
      have BF : Hid (Below w.heap.size w w5) := hB.out.step16 b5 hB.out.size
      clear SB SH KA KB KS D0 b3 b4 b5 hB z0 z1 z3 y0 y1 y3
      cases x with
      | false =>
        have N : Hid (¬ oL L = oL M) := HN.out fun e => by
          have := (putR_eq.2 e).1
          rw [hx.out] at this
          cases this
        clear HA HN hx
        go_wp2_with fail
        go_quiet (fail)
        go_wp2
        go_ret
        exact Says16.no N.out rfl (BF.out.drewN _)
      | true =>
        by_cases he : ep = ep'
        · have H3 : Hid _ := HA.out (putR_eq.1 ⟨hx.out, he⟩)
          subst he
          clear HA HN hx
          go_wp2_with fail
          go_quiet (fail)
          have BF2 : Hid (Below w.heap.size w (w5.drewN nq)) := BF.out.drewN nq
          go_wp2
          go_roundw
          case rel => exact ⟨r + 1, by omega, by go_num, BF2, H3⟩
          case measure => simp [intOf]; omega
        · have N : Hid (¬ oL L = oL M) := HN.out fun e => he (putR_eq.2 e).2
          have he' : (ep != ep') = true := bne_iff_ne.2 he
          clear HA HN hx
          go_wp2_with fail
          go_quiet (fail)
          go_wp2
          go_ret
          exact Says16.no N.out rfl (BF.out.drewN _)
    · obtain rfl : r = L.length := by omega
      have hge : ¬ (L.length : Int) < (L.length : Int) := by omega
      have Y : Hid (oL L = oL M) := oL_ext h6.out hall.out
      have BF := hB.out
      clear h k hall hs hs2
      go_wp2
      go_ret
      exact Says16.yes Y.out rfl BF
end Go.Proofs.Ytndlfmofjmieaaa.Gf

namespace Go.Proofs.Ytndlfmofjmieaaa.Gf
set_option linter.unusedVariables false
set_option linter.unusedSimpArgs false
open Go.RowKit
instance : Inhabited RcV := ⟨⟨noR, .slice none 0 0⟩⟩
/-- a slice in blocks of the call's own, besides v's -/
def NearR (base lim : Nat) (v u : Value) : Prop := ∀ x n c, u = .slice (some x) n c → n = 0 ∨ (base ≤ x.block ∧ x.block < lim ∧ v.ownBlock ≠ some x.block)
theorem NearR.mono {base lim lim' : Nat} {v u : Value} (h : NearR base lim v u) (hl : lim ≤ lim') : NearR base lim' v u := fun x n c e => (h x n c e).imp id fun q => ⟨q.1, by omega, q.2.2⟩
theorem RdI.groR {w w' : World} {base lim : Nat} {v v' x : Value} {zs : List Int} (h : RdI w x zs) (g : Gro w v w' v') (hn : NearR base lim v x) : RdI w' x zs := by
  rcases h with h | ⟨b, off, cap, h1, rfl, h3, h5, h6⟩
  · exact Or.inl h
  · have hp : zs.length ≠ 0 := fun e => h1 (List.length_eq_zero_iff.1 e)
    have ne := ((hn _ _ _ rfl).resolve_left hp).2.2
    exact Or.inr ⟨b, off, cap, h1, rfl, h3, Nat.lt_of_lt_of_le h5 g.gr.size, fun i hi => (g.cell (p := ⟨b, off + i, none⟩) h5 ne).trans (h6 i hi)⟩
theorem row_late18 {w w' : World} {base e s n : Nat} {v : Value} {xs : List Value} (h : w.ownsRow base e s v n xs) (t : Below w.heap.size w w') : w'.ownsRow base e s v n xs := by
  obtain ⟨h0, h | ⟨g2, cap, cur, hv, hgg, hh, r⟩⟩ := h
  · exact ⟨h0, Or.inl h⟩
  · have hlt : g2 < w.heap.size := (Array.getElem?_eq_some_iff.1 hh).1
    exact ⟨h0, Or.inr ⟨g2, cap, cur, hv, hgg, by rw [t.block g2 hlt]; exact hh, r⟩⟩
end Go.Proofs.Ytndlfmofjmieaaa.Gf
