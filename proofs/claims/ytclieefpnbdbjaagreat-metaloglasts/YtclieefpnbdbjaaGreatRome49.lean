/- TEXTS JOINED: MeRefJ. -/
import Derived.Deep.CutRange
import Derived.Test.YtclieefpnbdbjaaGreatRome37
import Derived.Test.YtclieefpnbdbjaaGreatRome27
namespace Go.Proofs.YtclieefpnbdbjaaGreat.Gf
set_option linter.unusedVariables false
set_option linter.unusedSimpArgs false
open Go.RowKit
theorem rcL_ext {L M : List RcV} (hl : L.length = M.length) (h : ∀ i, i < L.length → (L.getD i default).r = (M.getD i default).r) : L.map (·.r) = M.map (·.r) := by
  refine List.ext_getElem (by simp [hl]) fun i h1 h2 => ?_
  have q1 : i < L.length := by simpa using h1
  have q2 : i < M.length := by omega
  have := h i q1
  rw [show L.getD i default = L[i] by simp [List.getD, q1], show M.getD i default = M[i] by simp [List.getD, q2]] at this
  simpa using this
theorem rcL_at {L M : List RcV} (h : L.map (·.r) = M.map (·.r)) {i : Nat} (hi : i < L.length) : (L.getD i default).r = (M.getD i default).r := by
  have hl : L.length = M.length := by simpa using congrArg List.length h
  have q2 : i < M.length := by omega
  have e := congrArg (fun l => l[i]?) h
  simp [hi, q2] at e
  rw [show L.getD i default = L[i] by simp [List.getD, hi], show M.getD i default = M[i] by simp [List.getD, q2]]
  exact e
theorem hidR {p : Prop} (h : p) : Hid p := h
set_option maxRecDepth 100000 in
set_option maxHeartbeats 4000000 in
theorem rrecs18_any {w : World} {v u : Value} {L M : List RcV} (h : RdR w v L) (k : RdR w u M) (hL : L.length ≤ 100000) (hs : ∀ i, i < L.length → (L.getD i default).r.st.length ≤ 1000000) (hs2 : ∀ i, i < M.length → (M.getD i default).r.st.length ≤ 1000000) : Calls Tryz.prog 24 #[v, u] w (Says16 (L.map (·.r) = M.map (·.r)) w) := by
  obtain ⟨a, cp, rfl⟩ := h.form
  obtain ⟨a', cp', rfl⟩ := k.form
  by_cases h5 : L.length = M.length
  rotate_left
  · have N : Hid (¬ L.map (·.r) = M.map (·.r)) := fun q => h5 (by simpa using congrArg List.length q)
    have h5' : ¬ (L.length : Int) = (M.length : Int) := by omega
    clear h k hs hs2
    go_enter Tryz.func24, Tryz.ntmps24
    go_wp2
    go_ret
    exact Says16.no N.out rfl (Below.refl _ _)
  have h5' : (L.length : Int) = (M.length : Int) := by omega
  have h6 : Hid (L.length = M.length) := h5
  clear h5
  go_enter Tryz.func24, Tryz.ntmps24
  go_wp2
  go_loopw [5] (fun i wr => ∃ r : Nat, r ≤ L.length ∧ i = .int .i64 (r : Int) ∧ Hid (Below w.heap.size w wr) ∧ Hid (∀ j, j < r → (L.getD j default).r = (M.getD j default).r)) (fun i _ => L.length - (intOf i).toNat)
  case atStart => exact ⟨0, Nat.zero_le _, rfl, Below.refl _ _, fun j hj => absurd hj (Nat.not_lt_zero _)⟩
  case round =>
    obtain ⟨r, hr, rfl, hB, hall⟩ := hrel
    by_cases hlt : r < L.length
    · have hlt' : (r : Int) < (L.length : Int) := by omega
      have hlt2 : r < M.length := by rw [← h6.out]; exact hlt
      have hlt3 : (r : Int) < (M.length : Int) := by omega
      obtain ⟨b, off, rfl, hb, cz⟩ := (h.below hB.out).at hlt
      obtain ⟨b', off', rfl, hb', cz'⟩ := (k.below hB.out).at hlt2
      have HA : Hid ((L.getD r default).r = (M.getD r default).r → ∀ j, j < r + 1 → (L.getD j default).r = (M.getD j default).r) := fun q j hj => by
        by_cases e : j = r
        · rw [e]; exact q
        · exact hall.out j (by omega)
      have HN : Hid ((L.getD r default).r ≠ (M.getD r default).r → ¬ L.map (·.r) = M.map (·.r)) := fun q e => q (rcL_at e hlt)
      have l1 := hs r hlt
      have l2 := hs2 r hlt2
      generalize L.getD r default = c at cz HA HN l1
      generalize M.getD r default = d at cz' HA HN l2
      have I1 := cz.ok
      have I2 := cz'.ok
      obtain ⟨⟨kd, ky, ln, st⟩, vs⟩ := c
      obtain ⟨a2, c2, e⟩ := I1.rs.form
      simp only at e HA HN l1
      subst e
      obtain ⟨⟨kd', ky', ln', st'⟩, vs'⟩ := d
      obtain ⟨a3, c3, e⟩ := I2.rs.form
      simp only at e HA HN l2
      subst e
      obtain ⟨x, hx⟩ : ∃ x, Hid (sameR ⟨kd, ky, ln, st⟩ ⟨kd', ky', ln', st'⟩ = x) := ⟨_, rfl⟩
      have KS : ∀ W, Below wr.heap.size wr W → Calls Tryz.prog 73 #[.agg #[.int .i64 kd, .string ⟨ky.toArray⟩, .int .i64 ln, .slice a2 st.length c2], .agg #[.int .i64 kd', .string ⟨ky'.toArray⟩, .int .i64 ln', .slice a3 st'.length c3]] W (fun e w' => e = .returned (.bool x) ∧ Below wr.heap.size wr w') := fun W q => (same16_any (c := ⟨⟨kd, ky, ln, st⟩, .slice a2 st.length c2⟩) (d := ⟨⟨kd', ky', ln', st'⟩, .slice a3 st'.length c3⟩) (w := W) (I1.below q) (I2.below q) l1 l2 hx.out).mono fun e w' ⟨he, hb⟩ => ⟨he, q.step16 hb q.size⟩
      have BD : Below wr.heap.size wr wr.drew := (Below.refl _ _).drew
      have SH := hidR (fun W (q : Below wr.heap.size wr W) => And.intro (cz.below hb q) (cz'.below hb' q))
      have SB : ∀ W, Below wr.heap.size wr W → (W.cell? ⟨b, off + r * 4, none⟩ = some (.int .i64 kd) ∧ W.cell? ⟨b, off + r * 4 + 1, none⟩ = some (.string ⟨ky.toArray⟩) ∧ W.cell? ⟨b, off + r * 4 + 2, none⟩ = some (.int .i64 ln) ∧ W.cell? ⟨b, off + r * 4 + 3, none⟩ = some (.slice a2 st.length c2)) ∧ W.cell? ⟨b', off' + r * 4, none⟩ = some (.int .i64 kd') ∧ W.cell? ⟨b', off' + r * 4 + 1, none⟩ = some (.string ⟨ky'.toArray⟩) ∧ W.cell? ⟨b', off' + r * 4 + 2, none⟩ = some (.int .i64 ln') ∧ W.cell? ⟨b', off' + r * 4 + 3, none⟩ = some (.slice a3 st'.length c3) := fun W q => ⟨⟨(SH.out W q).1.c0, (SH.out W q).1.c1, (SH.out W q).1.c2, (SH.out W q).1.c3⟩, (SH.out W q).2.c0, (SH.out W q).2.c1, (SH.out W q).2.c2, (SH.out W q).2.c3⟩
      have SBH := hidR SB
      have sD := SB _ BD
      clear h k hall I1 I2 cz cz' SH SB
      go_upto_region 6 with fail
      go_cut [6] from 18 to 26 (fun s6 wx => s6 = .bool x ∧ Below wr.heap.size wr wx)
      case first =>
        refine wp_region_held_drew (S := fun wx => (wx.cell? ⟨b, off + r * 4, none⟩ = some (.int .i64 kd) ∧ wx.cell? ⟨b, off + r * 4 + 1, none⟩ = some (.string ⟨ky.toArray⟩) ∧ wx.cell? ⟨b, off + r * 4 + 2, none⟩ = some (.int .i64 ln) ∧ wx.cell? ⟨b, off + r * 4 + 3, none⟩ = some (.slice a2 st.length c2)) ∧ wx.cell? ⟨b', off' + r * 4, none⟩ = some (.int .i64 kd') ∧ wx.cell? ⟨b', off' + r * 4 + 1, none⟩ = some (.string ⟨ky'.toArray⟩) ∧ wx.cell? ⟨b', off' + r * 4 + 2, none⟩ = some (.int .i64 ln') ∧ wx.cell? ⟨b', off' + r * 4 + 3, none⟩ = some (.slice a3 st'.length c3)) (by kernel_rfl) sD (fun hHeld => ?_)
        refine tkH 0 ?_
        refine tkH 1 ?_
        refine tkH 2 ?_
        refine tkH 3 ?_
        refine tkH 4 ?_
        refine tkH 5 ?_
        refine tkH 6 ?_
        refine tkH 7 ?_
        refine rnH 8 (fun K' hK => ?_)
        go_simp
        go_at_call 73
        refine (KS _ BD).mono ?_
        rintro _ v1 ⟨rfl, bt⟩
        dsimp only
        refine koH hK (SBH.out _ bt) fun hHeld => ?_
        clear hK K'
        have BT := hidR bt
        refine tkH 9 ?_
        refine wpAnyH_done (by kernel_rfl) ?_ _
        go_wp2
        go_meet
        case rel => exact ⟨rfl, BT.out⟩
      case rest =>
        obtain ⟨rfl, bC⟩ := hcut
        have BF := hidR (hB.out.step16 bC hB.out.size)
        clear KS SBH sD BD bC hB
        cases x with
        | false =>
          have N : Hid (¬ L.map (·.r) = M.map (·.r)) := HN.out fun e => by
            have := (sameR_iff).2 e
            rw [hx.out] at this
            cases this
          clear HA HN hx
          go_wp2
          go_ret
          exact Says16.no N.out rfl BF.out
        | true =>
          have H3 := hidR (HA.out (sameR_iff.1 hx.out))
          clear HA HN hx
          go_wp2
          go_roundw
          case rel => exact ⟨r + 1, by omega, by go_num, BF, H3⟩
          case measure => simp [intOf]; omega
    · obtain rfl : r = L.length := by omega
      have hge : ¬ (L.length : Int) < (L.length : Int) := by omega
      have Y : Hid (L.map (·.r) = M.map (·.r)) := rcL_ext h6.out hall.out
      clear h k
      go_wp2
      go_ret
      exact Says16.yes Y.out rfl hB.out
end Go.Proofs.YtclieefpnbdbjaaGreat.Gf
