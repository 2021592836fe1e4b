/- TEXTS JOINED: ReCI, ReSn, ReCJ, ReCD. -/
import Derived.Deep.OwnRows
import Derived.Test.YthmoiffkgcnjmaaQome8
namespace Go.Proofs.Ythmoiffkgcnjmaa.Gf
set_option linter.unusedVariables false
set_option linter.unusedSimpArgs false
open Go.RowKit
theorem Rd.firstK {w : World} {a : Option Addr} {n c k : Nat} {p : List UInt8} (h : Rd w (.slice a n c) p) (hk : k ≤ n) : Rd w (.slice a k k) (p.take k) := by
  have hc := rd_cap h
  rcases h.first16 hk with ⟨ao, cap, h0, e, h1, h2⟩ | ⟨b, off, cap, h0, e, h1, h2, h3, h4⟩
  · simp at e
    obtain ⟨rfl, rfl, rfl⟩ := e
    exact Or.inl ⟨_, _, h0, rfl, Nat.zero_le _, fun _ => rfl⟩
  · simp at e
    obtain ⟨rfl, e2, rfl⟩ := e
    have hl : (p.take k).length = k := by rw [List.length_take]; omega
    exact Or.inr ⟨b, off, k, h0, by rw [hl], by omega, by omega, h3, h4⟩
theorem info_bytes16 : (Try.prog.info? 26).map (fun i => (i.zero, i.size, i.bytes)) = some (some (.slice none 0 0), 1, 24) := by kernel_rfl
/-- what 'cut' has laid so far -/
structure Cut16 (w : World) (p : List UInt8) (g : Nat) (wr : World) (r : Nat) : Prop where
  x0 : ∃ x, wr.cell? ⟨g, 0, none⟩ = some x ∧ (1 ≤ r → Rd w x (p.take 4096))
  x1 : ∃ x, wr.cell? ⟨g, 1, none⟩ = some x ∧ (2 ≤ r → Rd w x (p.drop 4096))
  f0 : wr.frozen? ⟨g, 0, none⟩ = false
  f1 : wr.frozen? ⟨g, 1, none⟩ = false
  bl : Below w.heap.size w wr
  lg : w.heap.size ≤ g
theorem Cut16.put0 {w : World} {p : List UInt8} {g : Nat} {wr : World} (h : Cut16 w p g wr 0) {u : Value} (hu : Rd w u (p.take 4096)) : Cut16 w p g (wr.setCell ⟨g, 0, none⟩ u).drew 1 := by
  obtain ⟨y0, c0, _⟩ := h.x0
  obtain ⟨y1, c1, _⟩ := h.x1
  exact ⟨⟨u, World.cell?_setCell_same _ _ _ c0, fun _ => hu⟩, ⟨y1, (World.cell?_setCell_other _ _ _ _ (by simp)).trans c1, fun q => by omega⟩, (World.frozen?_setCell _ _ _ _).trans h.f0, (World.frozen?_setCell _ _ _ _).trans h.f1, (h.bl.setCell h.lg _).drew, h.lg⟩
theorem Cut16.put1 {w : World} {p : List UInt8} {g : Nat} {wr : World} (h : Cut16 w p g wr 1) {u : Value} (hu : Rd w u (p.drop 4096)) : Cut16 w p g (wr.setCell ⟨g, 1, none⟩ u).drew 2 := by
  obtain ⟨y0, c0, r0⟩ := h.x0
  obtain ⟨y1, c1, _⟩ := h.x1
  exact ⟨⟨y0, (World.cell?_setCell_other _ _ _ _ (by simp)).trans c0, fun _ => r0 (Nat.le_refl _)⟩, ⟨u, World.cell?_setCell_same _ _ _ c1, fun _ => hu⟩, (World.frozen?_setCell _ _ _ _).trans h.f0, (World.frozen?_setCell _ _ _ _).trans h.f1, (h.bl.setCell h.lg _).drew, h.lg⟩
theorem cut_moves {p : Prop} (h : p := by
  go_wp2_with fail
  refine wp_region_held_drew (S := fun _ => True) (by kernel_rfl) trivial (fun hHeld => ?_)
  refine tkH 0 ?_
  refine tkH 1 ?_
  refine tkH 2 ?_
  refine tkH 3 ?_
  refine tkH 4 ?_
  refine tkH 5 ?_
  refine tkH 6 ?_
  refine tkH 7 ?_
  refine tkH 8 ?_
  refine tkH 9 ?_
  refine rnH 10 fun K hK => ?_
  go_simp
  refine koH hK trivial fun hHeld => ?_
  clear hK K
  refine tkH 11 ?_
  refine wpAnyH_done (by kernel_rfl) ?_ _
  go_wp2
  go_roundw
  case rel => first | exact ⟨1, _, by omega, rfl, rfl, R2.out, C2.out⟩ | exact ⟨2, _, by omega, rfl, rfl, R2.out, C2.out⟩
  case measure => simp [intOf]) : p := h
set_option maxRecDepth 100000 in
set_option maxHeartbeats 2000000 in
theorem cut16_any {w : World} {v : Value} {p : List UInt8} (h : Rd w v p) (hl : p.length ≤ 8192) : Calls Try.prog 39 #[v] w fun e w' => ∃ u, e = .returned u ∧ Rs w' u [p.take 4096, p.drop 4096] ∧ Below w.heap.size w w' := by
  obtain ⟨a, cp, rfl⟩ := h.form
  have mk := run_make_row' (P := Try.prog) 38 26 (.slice none 0 0) 24 Try.underlying38 info_bytes16 rfl .i64 .i64 2 (by omega) (by omega) w
  obtain ⟨w1, hw1⟩ : ∃ w1, w1 = w.alloc (.cells (madeCells #[.slice none 0 0] 2) 26) := ⟨_, rfl⟩
  have C1 : Cut16 w p w.heap.size w1 0 := ⟨⟨.slice none 0 0, by rw [hw1, World.cell?_alloc_new]; kernel_rfl, fun q => by omega⟩, ⟨.slice none 0 0, by rw [hw1, World.cell?_alloc_new]; kernel_rfl, fun q => by omega⟩, by rw [hw1]; simp [go_sem], by rw [hw1]; simp [go_sem], by rw [hw1]; exact belR _ _, Nat.le_refl _⟩
  rw [← hw1] at mk
  clear hw1
  have mk2 : (Instr.makeSlice 38 (.int .i64 2) (.int .i64 2)).run Try.prog w = .ok (.slice (some ⟨w.heap.size, 0, none⟩) 2 2) w1 := mk
  clear mk
  go_enter Try.func39, Try.ntmps39
  go_wp2
  clear mk2
  go_loopw [0, 9] (fun b i wr => ∃ (r : Nat) (u : Value), r ≤ 2 ∧ i = .int .i64 (r : Int) ∧ b = u ∧ Rd w u (p.drop (4096 * r)) ∧ Cut16 w p w.heap.size wr r) (fun _ i _ => 2 - (intOf i).toNat)
  case atStart => exact ⟨0, _, Nat.zero_le _, rfl, rfl, h, C1⟩
  case round =>
    obtain ⟨r, u, hr, rfl, rfl, hu, hC⟩ := hrel
    clear h C1
    have hc : r = 0 ∨ r = 1 ∨ r = 2 := by omega
    rcases hc with rfl | rfl | rfl
    · obtain ⟨y, c, _⟩ := hC.x0
      have f := hC.f0
      obtain ⟨ua, uc, rfl⟩ := hu.form
      have hcap := (rd_cap hu).2
      have hq : (p.drop (4096 * 0)).length = p.length - 4096 * 0 := List.length_drop
      by_cases hm : (4096 : Int) < ((p.drop (4096 * 0)).length : Int)
      · have E1 : ∀ W, (Instr.slice 26 (.slice ua (p.drop (4096 * 0)).length uc) none (some (.int .i64 4096)) (some (.int .i64 4096))).run Try.prog W = .ok (.slice ua 4096 4096) W := fun W => cut_hm16 W ua (k := 4096) (by omega)
        have E2 := fun W => cut_lo16 W ua (n := (p.drop (4096 * 0)).length) (c := uc) (k := 4096) (by omega)
        obtain ⟨a2, ha2⟩ : ∃ a2, a2 = (if uc = 4096 then ua else ua.map (·.add 4096)) := ⟨_, rfl⟩
        have R1 := hu.firstK (k := 4096) (by omega)
        have R2 : Hid (Rd w (.slice a2 ((p.drop (4096 * 0)).length - 4096) (uc - 4096)) (p.drop (4096 * (0 + 1)))) := by
          have e := hu.rest16 (k := 4096) (by omega)
          rw [← ha2] at e
          rw [List.drop_drop] at e; exact e
        rw [← ha2] at E2
        have C2 : Hid _ := hC.put0 (u := .slice ua 4096 4096) (by exact R1)
        generalize (p.drop (4096 * 0)).length - 4096 = n2 at E2 R2
        generalize uc - 4096 = c2 at E2 R2
        have E2' : ∀ W, (Instr.slice 26 (.slice ua (p.drop (4096 * 0)).length uc) (some (.int .i64 4096)) none none).run Try.prog W = .ok (.slice a2 n2 c2) W := E2
        clear ha2 E2 hu hC R1 hcap
        generalize (p.drop (4096 * 0)).length = m at E1 E2' hm C2
        clear hq
        exact cut_moves
      · have E1 : ∀ W, (Instr.slice 26 (.slice ua (p.drop (4096 * 0)).length uc) none (some (.int .i64 ((p.drop (4096 * 0)).length : Int))) (some (.int .i64 ((p.drop (4096 * 0)).length : Int)))).run Try.prog W = .ok (.slice ua (p.drop (4096 * 0)).length (p.drop (4096 * 0)).length) W := fun W => cut_hm16 W ua (by omega)
        have E2 := fun W => cut_lo16 W ua (n := (p.drop (4096 * 0)).length) (c := uc) (k := (p.drop (4096 * 0)).length) (by omega)
        obtain ⟨a2, ha2⟩ : ∃ a2, a2 = (if uc = (p.drop (4096 * 0)).length then ua else ua.map (·.add (p.drop (4096 * 0)).length)) := ⟨_, rfl⟩
        have R1 := hu.firstK (k := (p.drop (4096 * 0)).length) (by omega)
        have R2 : Hid (Rd w (.slice a2 ((p.drop (4096 * 0)).length - (p.drop (4096 * 0)).length) (uc - (p.drop (4096 * 0)).length)) (p.drop (4096 * (0 + 1)))) := by
          have e := hu.rest16 (k := (p.drop (4096 * 0)).length) (by omega)
          rw [← ha2] at e
          rw [List.drop_eq_nil_of_le (show p.length ≤ 4096 * (0 + 1) by omega)]; rw [List.drop_length] at e; exact e
        rw [← ha2] at E2
        have C2 : Hid _ := hC.put0 (u := .slice ua (p.drop (4096 * 0)).length (p.drop (4096 * 0)).length) (by rw [List.take_length] at R1; rw [List.take_of_length_le (show p.length ≤ 4096 by omega)]; exact R1)
        generalize (p.drop (4096 * 0)).length - (p.drop (4096 * 0)).length = n2 at E2 R2
        generalize uc - (p.drop (4096 * 0)).length = c2 at E2 R2
        have E2' : ∀ W, (Instr.slice 26 (.slice ua (p.drop (4096 * 0)).length uc) (some (.int .i64 ((p.drop (4096 * 0)).length : Int))) none none).run Try.prog W = .ok (.slice a2 n2 c2) W := E2
        clear ha2 E2 hu hC R1 hcap
        generalize (p.drop (4096 * 0)).length = m at E1 E2' hm C2
        clear hq
        exact cut_moves
    · obtain ⟨y, c, _⟩ := hC.x1
      have f := hC.f1
      obtain ⟨ua, uc, rfl⟩ := hu.form
      have hcap := (rd_cap hu).2
      have hq : (p.drop (4096 * 1)).length = p.length - 4096 * 1 := List.length_drop
      have hm : ¬ (4096 : Int) < ((p.drop (4096 * 1)).length : Int) := by omega
      · have E1 : ∀ W, (Instr.slice 26 (.slice ua (p.drop (4096 * 1)).length uc) none (some (.int .i64 ((p.drop (4096 * 1)).length : Int))) (some (.int .i64 ((p.drop (4096 * 1)).length : Int)))).run Try.prog W = .ok (.slice ua (p.drop (4096 * 1)).length (p.drop (4096 * 1)).length) W := fun W => cut_hm16 W ua (by omega)
        have E2 := fun W => cut_lo16 W ua (n := (p.drop (4096 * 1)).length) (c := uc) (k := (p.drop (4096 * 1)).length) (by omega)
        obtain ⟨a2, ha2⟩ : ∃ a2, a2 = (if uc = (p.drop (4096 * 1)).length then ua else ua.map (·.add (p.drop (4096 * 1)).length)) := ⟨_, rfl⟩
        have R1 := hu.firstK (k := (p.drop (4096 * 1)).length) (by omega)
        have R2 : Hid (Rd w (.slice a2 ((p.drop (4096 * 1)).length - (p.drop (4096 * 1)).length) (uc - (p.drop (4096 * 1)).length)) (p.drop (4096 * (1 + 1)))) := by
          have e := hu.rest16 (k := (p.drop (4096 * 1)).length) (by omega)
          rw [← ha2] at e
          rw [List.drop_eq_nil_of_le (show p.length ≤ 4096 * (1 + 1) by omega)]; rw [List.drop_length] at e; exact e
        rw [← ha2] at E2
        have C2 : Hid _ := hC.put1 (u := .slice ua (p.drop (4096 * 1)).length (p.drop (4096 * 1)).length) (by rw [List.take_length] at R1; exact R1)
        generalize (p.drop (4096 * 1)).length - (p.drop (4096 * 1)).length = n2 at E2 R2
        generalize uc - (p.drop (4096 * 1)).length = c2 at E2 R2
        have E2' : ∀ W, (Instr.slice 26 (.slice ua (p.drop (4096 * 1)).length uc) (some (.int .i64 ((p.drop (4096 * 1)).length : Int))) none none).run Try.prog W = .ok (.slice a2 n2 c2) W := E2
        clear ha2 E2 hu hC R1 hcap
        generalize (p.drop (4096 * 1)).length = m at E1 E2' hm C2
        clear hq
        exact cut_moves
    · obtain ⟨y0, c0, r0⟩ := hC.x0
      obtain ⟨y1, c1, r1⟩ := hC.x1
      have FIN : Hid (Rs wr (.slice (some ⟨w.heap.size, 0, none⟩) 2 2) [p.take 4096, p.drop 4096] ∧ Below w.heap.size w wr) := by
        refine ⟨⟨_, 2, rfl, Nat.le_refl _, by decide, (fun q => by cases q), fun i hi => ?_⟩, hC.bl⟩
        have lw : w.heap.size < wr.heap.size := World.block_lt_of_cell? _ _ c0
        have hi2 : i = 0 ∨ i = 1 := by simp at hi; omega
        rcases hi2 with rfl | rfl
        · exact ⟨w.heap.size, 0, y0, rfl, lw, c0, (r0 (by omega)).below hC.bl⟩
        · exact ⟨w.heap.size, 0, y1, rfl, lw, c1, (r1 (by omega)).below hC.bl⟩
      obtain ⟨ua, uc, rfl⟩ := hu.form
      clear hu hC c0 c1 r0 r1
      go_wp2
      go_ret
      exact ⟨_, rfl, FIN.out.1, FIN.out.2⟩
end Go.Proofs.Ythmoiffkgcnjmaa.Gf

namespace Go.Proofs.Ythmoiffkgcnjmaa.Gf
set_option linter.unusedVariables false
set_option linter.unusedSimpArgs false
open Go.RowKit
def Snaps16 (w : World) (L : List ObV) (e : Ending) (w' : World) : Prop :=
  (MayL (oL L) ∧ ∃ u, e = .returned (.tuple #[u, .int .i64 0]) ∧ Rs w' u (snP (oL L)) ∧ Below w.heap.size w w') ∨ (¬ MayL (oL L) ∧ e = .returned (.tuple #[.slice none 0 0, .int .i64 1]) ∧ Below w.heap.size w w')
theorem obs_step {L : List ObV} {r : Nat} (h : r < L.length) : obsB ((oL L).take (r + 1)) = obsB ((oL L).take r) ++ obB (L.getD r default).o := by
  have h' : r < (oL L).length := by rw [oL_length]; exact h
  rw [List.take_succ_eq_append_getElem h', obsB_append]
  show _ ++ (obB (oL L)[r] ++ []) = _
  have e : (oL L)[r] = (L.getD r default).o := by
    rw [← oL_getD, List.getD_eq_getElem?_getD, List.getElem?_eq_getElem h']; rfl
  rw [e, List.append_nil]
theorem obs_take {L : List ObV} (h : MayL (oL L)) (r : Nat) : (obsB ((oL L).take r)).length ≤ 6000 := by
  have e : obsB (oL L) = obsB ((oL L).take r) ++ obsB ((oL L).drop r) := by rw [← obsB_append, List.take_append_drop]
  have h1 := snB_le h
  unfold snB at h1
  rw [e, List.length_append, List.length_append] at h1
  omega
end Go.Proofs.Ythmoiffkgcnjmaa.Gf

namespace Go.Proofs.Ythmoiffkgcnjmaa.Gf
set_option linter.unusedVariables false
set_option linter.unusedSimpArgs false
open Go.RowKit
set_option maxRecDepth 100000 in
set_option maxHeartbeats 4000000 in
theorem snap16_any {w : World} {v : Value} {L : List ObV} (h : RdO w v L) (hs : ∀ i, i < L.length → (L.getD i default).o.st.length ≤ 1000000) : Calls Try.prog 21 #[v] w (Snaps16 w L) := by
  have K0 := mbt16_any h hs
  obtain ⟨a, cp, rfl⟩ := h.form
  go_enter Try.func21, Try.ntmps21
  go_wp2_with fail
  refine K0.mono ?_
  rintro _ w2 ⟨x, rfl, hx, B2⟩
  clear K0
  have HX : Hid (x = true ↔ MayL (oL L)) := hx
  clear hx
  cases x with
  | false =>
    have N : Hid (¬ MayL (oL L)) := fun q => by have := HX.out.2 q; cases this
    clear HX h hs
    go_wp2
    exact bodyPost_ret (v := .tuple #[.slice none 0 0, .int .i64 1]) (by simp [results, Try.results21, go_sem]) rfl (Or.inr ⟨N.out, rfl, B2⟩)
  | true =>
    have Y : Hid (MayL (oL L)) := HX.out.1 rfl
    clear HX
    have l64 : L.length ≤ 64 := by have := Y.out.1; rwa [oL_length] at this
    have oN : OwnP w2 w2.heap.size 5 (.slice none 0 0) [] := World.ownsRow_nil w2 w2.heap.size 5 1
    have K1 := num16_any (n := L.length) (k := 2) (z := 2) oN (Nat.le_refl _) (by omega) (by show 0 ≤ _; omega) rfl rfl
    go_wp2_with fail
    refine K1.mono ?_
    rintro _ w3 ⟨v3, rfl, o3, G3⟩
    clear K1
    rw [List.nil_append, nb_two] at o3
    have B3 : Below w2.heap.size w2 w3 := G3.below (Below.refl _ _) (Nat.le_refl _) oN
    clear G3 oN
    obtain ⟨a3, c3, e3⟩ := owns_form o3
    subst e3
    have LB : Hid (∀ r, (obsB ((oL L).take r)).length ≤ 6000) := fun r => obs_take Y.out r
    go_wp2_with fail
    go_loopw [4, 15] (fun ov i wr => ∃ r : Nat, r ≤ L.length ∧ i = .int .i64 (r : Int) ∧ OwnP wr w2.heap.size 5 ov (tw L.length ++ obsB ((oL L).take r)) ∧ Hid (Below w2.heap.size w2 wr)) (fun _ i _ => L.length - (intOf i).toNat)
    case atStart => exact ⟨0, Nat.zero_le _, rfl, ownAs o3 (by rw [List.take_zero, show obsB [] = [] from rfl, List.append_nil]), B3⟩
    case round =>
      clear o3 B3
      obtain ⟨r, hr, rfl, hO, hB⟩ := hrel
      obtain ⟨Q, hQ⟩ : ∃ Q, Hid (Q = tw L.length ++ obsB ((oL L).take r)) := ⟨_, rfl⟩
      have hQl : Q.length ≤ 6002 := by rw [hQ.out, List.length_append, tw_length]; have := LB.out r; omega
      rw [← hQ.out] at hO
      obtain ⟨oa, oc, rfl⟩ := owns_form hO
      have BW := B2.step16 hB.out B2.size
      by_cases hlt : r < L.length
      · have hlt' : (r : Int) < (L.length : Int) := by omega
        obtain ⟨b, off, rfl, hb, cz⟩ := (h.below BW).at hlt
        obtain ⟨_, _, ea, _, cw⟩ := h.at hlt
        have rsW : Hid (∀ W, Below w.heap.size w W → RdI W (L.getD r default).vs (L.getD r default).o.st) := fun W q => cw.rs.below q
        have ok : Hid (OkO (L.getD r default).o) := ((may_up.1 Y.out).2.1 r hlt).1
        have HQ2 : Hid (Q ++ obB (L.getD r default).o = tw L.length ++ obsB ((oL L).take (r + 1))) := by
          show _ = _
          rw [hQ.out, obs_step hlt, List.append_assoc]
        clear ea cw
        generalize L.getD r default = c at cz rsW ok HQ2
        obtain ⟨⟨ky, ln, ep, st⟩, vs⟩ := c
        obtain ⟨a2, c2, e⟩ := cz.rs.form
        simp only at e ok HQ2 rsW
        subst e
        have z0 : wr.cell? ⟨b, off + r * 4, none⟩ = some (.string ⟨ky.toArray⟩) := cz.c0
        have z1 : wr.cell? ⟨b, off + r * 4 + 1, none⟩ = some (.int .i64 ln) := cz.c1
        have z2 : wr.cell? ⟨b, off + r * 4 + 2, none⟩ = some (.int .i64 ep) := cz.c2
        have z3 : wr.cell? ⟨b, off + r * 4 + 3, none⟩ = some (.slice a2 st.length c2) := cz.c3
        obtain ⟨w1, hw1⟩ : ∃ w1, w1 = wr.alloc (.cells #[.string ⟨ky.toArray⟩, .int .i64 ln, .int .i64 ep, .slice a2 st.length c2] 62) := ⟨_, rfl⟩
        have B1 : Below wr.heap.size wr w1 := by rw [hw1]; exact belR _ _
        have s1 : wr.heap.size < w1.heap.size := by rw [hw1]; show wr.heap.size < (wr.heap.push _).size; rw [Array.size_push]; exact Nat.lt_succ_self _
        have y : ∀ j, w1.cell? ⟨wr.heap.size, j, none⟩ = #[Value.string ⟨ky.toArray⟩, .int .i64 ln, .int .i64 ep, .slice a2 st.length c2][j]? := fun j => by rw [hw1, World.cell?_alloc_new]
        have o1 : OwnP w1 w2.heap.size 5 (.slice oa Q.length oc) Q := owns_later hO B1
        have hne : (Value.slice oa Q.length oc).ownBlock ≠ some wr.heap.size := own_ne hO (Nat.le_refl _)
        have C1 : Below w2.heap.size w2 w1 := hB.out.step16 B1 hB.out.size
        have hep := ok.out.2
        have K1 := num16_any (n := ep.toNat) (k := 4) (z := 4) o1 C1.size (by omega) (by omega) (Int.toNat_of_nonneg hep.1).symm rfl
        clear cz BW hO
        have y2 : w1.cell? ⟨wr.heap.size, 2, none⟩ = some (.int .i64 ep) := y 2
        go_wp2_with fail
        rw [← hw1]
        clear hw1 y2 z0 z1 z2 z3
        refine K1.mono ?_
        rintro _ w4 ⟨v4, rfl, o4, G4⟩
        clear K1
        rw [nb_four] at o4
        obtain ⟨Q4, hQ4⟩ : ∃ Q4, Hid (Q4 = Q ++ fo ep.toNat) := ⟨_, rfl⟩
        rw [← hQ4.out] at o4
        have hQ4l : Q4.length ≤ 6010 := by rw [hQ4.out, List.length_append, fo_length]; omega
        have C4 : Below w2.heap.size w2 w4 := G4.below C1 C1.size o1
        have y' : ∀ j, w4.cell? ⟨wr.heap.size, j, none⟩ = #[Value.string ⟨ky.toArray⟩, .int .i64 ln, .int .i64 ep, .slice a2 st.length c2][j]? := fun j => (G4.cell (p := ⟨wr.heap.size, j, none⟩) s1 hne).trans (y j)
        have x0 : w4.cell? ⟨wr.heap.size, 0, none⟩ = some (.string ⟨ky.toArray⟩) := y' 0
        have x1 : w4.cell? ⟨wr.heap.size, 1, none⟩ = some (.int .i64 ln) := y' 1
        have x2 : w4.cell? ⟨wr.heap.size, 2, none⟩ = some (.int .i64 ep) := y' 2
        have x3 : w4.cell? ⟨wr.heap.size, 3, none⟩ = some (.slice a2 st.length c2) := y' 3
        have BW4 : Below w.heap.size w w4 := B2.step16 C4 B2.size
        have K2 : Calls Try.prog 38 #[.agg #[.string ⟨ky.toArray⟩, .int .i64 ln, .int .i64 ep, .slice a2 st.length c2]] w4 (fun e w' => e = .returned (aggR ⟨putR ⟨ky, ln, ep, st⟩, .slice a2 st.length c2⟩) ∧ Below w4.heap.size w4 w') := put16_any (c := ⟨⟨ky, ln, ep, st⟩, .slice a2 st.length c2⟩) (rsW.out w4 BW4)
        clear G4 o1 C1 y y' hne s1 B1
        obtain ⟨a4, c4, e4⟩ := owns_form o4
        subst e4
        go_wp2_with fail
        refine K2.mono ?_
        rintro _ w5 ⟨rfl, B5⟩
        clear K2 x0 x1 x2 x3
        have o5 : OwnP w5 w2.heap.size 5 (.slice a4 Q4.length c4) Q4 := owns_later o4 B5
        have C5 : Below w2.heap.size w2 w5 := C4.step16 B5 C4.size
        have K3 := wrec16_any (c := ⟨putR ⟨ky, ln, ep, st⟩, .slice a2 st.length c2⟩) o5 C5.size ok.out.1 (fun W V g => rsW.out W (B2.step16 (g.below C5 C5.size o5) B2.size)) (by omega)
        clear C4 B5 BW4 o4
        go_wp2_with fail
        refine K3.mono ?_
        rintro _ w6 ⟨v6, rfl, o6, G6⟩
        have C6 : Hid (Below w2.heap.size w2 w6) := G6.below C5 C5.size o5
        have o7 := ownAs o6 (show _ = tw L.length ++ obsB ((oL L).take (r + 1)) by rw [hQ4.out, List.append_assoc]; exact HQ2.out)
        clear K3 o5 o6 G6 C5
        go_wp2
        go_roundw
        case rel => exact ⟨r + 1, by omega, by go_num, o7, C6⟩
        case measure => simp [intOf]; omega
      · obtain rfl : r = L.length := by omega
        have hge : ¬ (L.length : Int) < (L.length : Int) := by omega
        have eQ : Hid (Q = snB (oL L)) := by
          show _ = _
          rw [hQ.out]
          unfold snB
          rw [oL_length, ← oL_length L, List.take_length]
        have lQ : Q.length ≤ 8192 := by omega
        have K4 := cut16_any (Rd.owned hO) lQ
        clear h hs hO
        go_wp2_with fail
        refine K4.mono ?_
        rintro _ w6 ⟨u, rfl, RS, B6⟩
        clear K4
        have FIN : Hid (Snaps16 w L (.returned (.tuple #[u, .int .i64 0])) w6) := Or.inl ⟨Y.out, u, rfl, by rw [eQ.out] at RS; exact RS, BW.step16 B6 BW.size⟩
        obtain ⟨ua, uc, rfl⟩ := RS.form
        clear RS eQ
        go_wp2
        exact bodyPost_ret (v := .tuple #[.slice ua _ uc, .int .i64 0]) (by simp [results, Try.results21, go_sem]) rfl FIN.out
end Go.Proofs.Ythmoiffkgcnjmaa.Gf

namespace Go.Proofs.Ythmoiffkgcnjmaa.Gf
set_option linter.unusedVariables false
set_option linter.unusedSimpArgs false
open Go.RowKit
/-- a reading that gave up -/
def pz16 : List PanicEntry := [{ v := .iface 28 (.int .i64 160), recovered := false }]
set_option maxRecDepth 100000 in
theorem ask16_yes {w : World} {x : Bool} (hx : x = true) : Calls Try.prog 48 #[.bool x] w fun e w' => e = .returned (.tuple #[]) ∧ w' = w := by
  subst hx
  go_enter Try.func48, Try.ntmps48
  go_wp2
  go_end0
  exact ⟨rfl, rfl⟩
set_option maxRecDepth 100000 in
theorem ask16_no {w : World} {x : Bool} (hx : x = false) : Calls Try.prog 48 #[.bool x] w fun e w' => e = .panicked pz16 ∧ w' = w := by
  subst hx
  go_enter Try.func48, Try.ntmps48
  go_wp2
  exact ⟨rfl, rfl, rfl⟩
/-- a reader at block rb: what is left to read lies in memory that w0 has -/
structure RdrAt (w0 : World) (rb : Nat) (w : World) (p : List UInt8) : Prop where
  at0 : ∃ v, w.cell? ⟨rb, 0, none⟩ = some v ∧ Rd w0 v p
  fz : w.frozen? ⟨rb, 0, none⟩ = false
  bl : Below w0.heap.size w0 w
  lo : w0.heap.size ≤ rb
theorem RdrAt.only {w0 : World} {rb g : Nat} {w w' : World} {p : List UInt8} (h : RdrAt w0 rb w p) (o : Only g w w') (hg : w0.heap.size ≤ g) (hne : g ≠ rb) : RdrAt w0 rb w' p := by
  obtain ⟨v, c, R⟩ := h.at0
  exact ⟨⟨v, (o.cell (p := ⟨rb, 0, none⟩) (fun e => hne e.symm)).trans c, R⟩, (o.frozen (p := ⟨rb, 0, none⟩) (fun e => hne e.symm)).trans h.fz, h.bl.trans (o.below hg), h.lo⟩
theorem RdrAt.lt {w0 : World} {rb : Nat} {w : World} {p : List UInt8} (h : RdrAt w0 rb w p) : rb < w.heap.size := by
  obtain ⟨v, c, R⟩ := h.at0
  exact World.block_lt_of_cell? _ _ c
theorem RdrAt.below {w0 : World} {rb : Nat} {w w' : World} {p : List UInt8} (h : RdrAt w0 rb w p) (o : Below w.heap.size w w') : RdrAt w0 rb w' p := by
  obtain ⟨v, c, R⟩ := h.at0
  have l := h.lt
  exact ⟨⟨v, (o.cell (p := ⟨rb, 0, none⟩) l).trans c, R⟩, (o.frozen (p := ⟨rb, 0, none⟩) l).trans h.fz, h.bl.trans (o.mono h.bl.size), h.lo⟩
/-- bytes that are taken, and the reader behind them -/
def Takes16 (w0 : World) (rb : Nat) (w : World) (q r : List UInt8) (e : Ending) (w' : World) : Prop := ∃ u, e = .returned u ∧ Rd w0 u q ∧ RdrAt w0 rb w' r ∧ Only rb w w'
set_option maxRecDepth 100000 in
set_option maxHeartbeats 1000000 in
theorem take16_yes {w0 w : World} {rb : Nat} {p : List UInt8} (h : RdrAt w0 rb w p) {n : Nat} (hn : n ≤ p.length) {z : Int} (hz : z = (n : Int)) : Calls Try.prog 50 #[.pointer (some ⟨rb, 0, none⟩), .int .i64 z] w (Takes16 w0 rb w (p.take n) (p.drop n)) := by
  subst hz
  obtain ⟨v, c, R⟩ := h.at0
  obtain ⟨a, cp, rfl⟩ := R.form
  have hn' : (n : Int) ≤ (p.length : Int) := by omega
  have E1 := fun W => cut_hi16 W a (n := p.length) (c := cp) (k := n) (Nat.le_trans hn (rd_cap R).2)
  have E2 := fun W => cut_lo16 W a (n := p.length) (c := cp) (k := n) hn
  obtain ⟨a2, ha2⟩ : ∃ a2, a2 = (if cp = n then a else a.map (·.add n)) := ⟨_, rfl⟩
  have R2 : Rd w0 (.slice a2 (p.length - n) (cp - n)) (p.drop n) := by rw [ha2]; exact R.rest16 hn
  rw [← ha2] at E2
  generalize p.length - n = n2 at E2 R2
  generalize cp - n = c2 at E2 R2
  have fz := h.fz
  have HF : Hid (Takes16 w0 rb w (p.take n) (p.drop n) (.returned (.slice a n cp)) (w.setCell ⟨rb, 0, none⟩ (.slice a2 n2 c2))) := by
    have O : Only rb w (w.setCell ⟨rb, 0, none⟩ (.slice a2 n2 c2)) := (Only.refl _ _).setCell _ _
    exact ⟨_, rfl, R.first16 hn, ⟨⟨_, World.cell?_setCell_same _ _ _ c, R2⟩, (World.frozen?_setCell _ _ _ _).trans h.fz, h.bl.trans (O.below h.lo), h.lo⟩, O⟩
  generalize p.length = m at c E1 E2 hn' hn
  clear ha2 R h R2
  go_enter Try.func50, Try.ntmps50
  go_wp2_with fail
  refine (ask16_yes rfl).mono ?_
  rintro _ _ ⟨rfl, rfl⟩
  go_wp2
  go_ret
  exact HF.out
set_option maxRecDepth 100000 in
set_option maxHeartbeats 1000000 in
theorem take16_no {w0 w : World} {rb : Nat} {p : List UInt8} (h : RdrAt w0 rb w p) {n : Nat} (hn : p.length < n) {z : Int} (hz : z = (n : Int)) : Calls Try.prog 50 #[.pointer (some ⟨rb, 0, none⟩), .int .i64 z] w fun e w' => e = .panicked pz16 ∧ w' = w := by
  subst hz
  obtain ⟨v, c, R⟩ := h.at0
  obtain ⟨a, cp, rfl⟩ := R.form
  have hn' : ¬ (n : Int) ≤ (p.length : Int) := by omega
  generalize p.length = m at c hn' hn
  clear R h
  go_enter Try.func50, Try.ntmps50
  go_wp2_with fail
  refine (ask16_no rfl).mono ?_
  rintro _ _ ⟨rfl, rfl⟩
  exact ⟨rfl, rfl, rfl⟩
/-- the number of bytes, the highest first -/
def nuL (l : List UInt8) : Nat := l.foldl (fun n x => n * 256 + x.toNat) 0
theorem nuL_snoc (l : List UInt8) (x : UInt8) : nuL (l ++ [x]) = nuL l * 256 + x.toNat := by
  unfold nuL
  rw [List.foldl_append]; rfl
theorem nuL_acc (l : List UInt8) (a : Nat) : l.foldl (fun n x => n * 256 + x.toNat) a < (a + 1) * 256 ^ l.length := by
  induction l generalizing a with
  | nil => show a < (a + 1) * 1; omega
  | cons x l ih =>
    have h := ih (a * 256 + x.toNat)
    have hx := x.toNat_lt
    rw [List.foldl_cons, List.length_cons, Nat.pow_succ, Nat.mul_comm (256 ^ l.length), ← Nat.mul_assoc]
    exact Nat.lt_of_lt_of_le h (Nat.mul_le_mul_right _ (by omega))
theorem nuL_lt (l : List UInt8) : nuL l < 256 ^ l.length := by
  have := nuL_acc l 0
  rw [Nat.zero_add, Nat.one_mul] at this
  exact this
theorem or16 (a : Nat) (x : UInt8) (ha : a < 16777216) : bits .or .i64 ((a : Int) * 256) ((x.toNat : Nat) : Int) = ((a * 256 + x.toNat : Nat) : Int) := by
  have hx := x.toNat_lt
  have e : (a * 256) ||| x.toNat = a * 256 + x.toNat := by
    have := Nat.two_pow_add_eq_or_of_lt (i := 8) (b := x.toNat) hx a
    rw [Nat.mul_comm a 256]
    exact this.symm
  show IntKind.i64.wrap ((BitVec.ofInt 64 ((a : Int) * 256) ||| BitVec.ofInt 64 ((x.toNat : Nat) : Int)).toNat : Int) = _
  rw [show ((a : Int) * 256) = ((a * 256 : Nat) : Int) by omega, BitVec.toNat_or, ofInt_u64 (a * 256) (by omega), ofInt_u64 x.toNat (by omega), e, IntKind.wrap_i64]
  omega
set_option maxRecDepth 100000 in
set_option maxHeartbeats 1000000 in
theorem rnum16_yes {w0 w : World} {rb : Nat} {p : List UInt8} (h : RdrAt w0 rb w p) {k : Nat} (hk : k ≤ 4) (hn : k ≤ p.length) {z : Int} (hz : z = (k : Int)) {N : Int} (hN : ((nuL (p.take k) : Nat) : Int) = N) : Calls Try.prog 49 #[.pointer (some ⟨rb, 0, none⟩), .int .i64 z] w fun e w' => e = .returned (.int .i64 N) ∧ RdrAt w0 rb w' (p.drop k) ∧ Only rb w w' := by
  have K := take16_yes h hn rfl
  subst hz
  go_enter Try.func49, Try.ntmps49
  go_wp2_with fail
  refine K.mono ?_
  rintro _ w1 ⟨u, rfl, R, H1, O1⟩
  clear K h
  have hl : (p.take k).length = k := by rw [List.length_take]; omega
  have HN : Hid (((nuL (p.take k) : Nat) : Int) = N) := hN
  have HF : Hid (RdrAt w0 rb w1 (p.drop k) ∧ Only rb w w1) := ⟨H1, O1⟩
  have R1 := R.below H1.bl
  clear hN H1 O1 R
  generalize p.take k = q at hl R1 HN
  obtain ⟨a, cp, rfl⟩ := R1.form
  go_wp2
  go_loopw [5, 12] (fun n i wr => ∃ r : Nat, r ≤ q.length ∧ n = .int .i64 ((nuL (q.take r) : Nat) : Int) ∧ i = .int .i64 (r : Int) ∧ wr = w1) (fun _ i _ => q.length - (intOf i).toNat)
  case atStart => exact ⟨0, Nat.zero_le _, rfl, rfl, rfl⟩
  case round =>
    obtain ⟨r, hr, rfl, rfl, rfl⟩ := hrel
    by_cases hlt : r < q.length
    · have hlt' : (r : Int) < (q.length : Int) := by omega
      obtain ⟨b, off, rfl, _, cz⟩ := R1.byte hlt
      have hs : Hid (nuL (q.take (r + 1)) = nuL (q.take r) * 256 + (co q r).toNat) := by
        have e : co q r = q[r] := by unfold co; simp [List.getElem?_eq_getElem hlt]
        show _ = _
        rw [List.take_succ_eq_append_getElem hlt, nuL_snoc, e]
      have hb : nuL (q.take r) < 16777216 := by
        have h1 := nuL_lt (q.take r)
        rw [List.length_take, Nat.min_eq_left hr] at h1
        exact Nat.lt_of_lt_of_le h1 (Nat.le_trans (Nat.pow_le_pow_right (by omega) (show r ≤ 3 by omega)) (by decide))
      generalize co q r = x at cz hs
      have E := or16 _ x hb
      generalize nuL (q.take r) = n at hs hb E
      have ew : wrap64 ((x.toNat : Nat) : Int) = ((x.toNat : Nat) : Int) := by have := x.toNat_lt; unfold wrap64; omega
      generalize hm : n * 256 + x.toNat = m at E hs
      have HS : Hid (nuL (q.take (r + 1)) = m) := hs.out
      clear hs hm
      go_wp2
      go_roundw
      case rel => exact ⟨r + 1, by omega, by rw [HS.out, ← E], by go_num, by first | rfl | trivial⟩
      case measure => simp [intOf]; omega
    · obtain rfl : r = q.length := by omega
      have hge : ¬ (q.length : Int) < (q.length : Int) := by omega
      rw [List.take_length]
      go_wp2
      go_ret
      exact ⟨congrArg (fun t => Ending.returned (.int .i64 t)) HN.out, HF.out.1, HF.out.2⟩
set_option maxRecDepth 100000 in
set_option maxHeartbeats 1000000 in
theorem rnum16_no {w0 w : World} {rb : Nat} {p : List UInt8} (h : RdrAt w0 rb w p) {k : Nat} (hn : p.length < k) {z : Int} (hz : z = (k : Int)) : Calls Try.prog 49 #[.pointer (some ⟨rb, 0, none⟩), .int .i64 z] w fun e w' => e = .panicked pz16 ∧ w' = w := by
  have K := take16_no h hn rfl
  subst hz
  go_enter Try.func49, Try.ntmps49
  go_wp2_with fail
  refine K.mono ?_
  rintro _ _ ⟨rfl, rfl⟩
  exact ⟨rfl, rfl, rfl⟩
end Go.Proofs.Ythmoiffkgcnjmaa.Gf
