/- TEXTS JOINED: ReRefS, ReUO, ReNx. -/
import Derived.Test.YthmoiffkgcnjmaaQome15
namespace Go.Proofs.Ythmoiffkgcnjmaa.Gf
set_option linter.unusedVariables false
set_option linter.unusedSimpArgs false
open Go.RowKit
theorem info_bytesS : (Try.prog.info? 26).map (fun i => (i.zero, i.size, i.bytes)) = some (some (.slice none 0 0), 1, 24) := by kernel_rfl
theorem info_bytesS' : ∃ i, Try.prog.info? 26 = some i ∧ i.zero = some (.slice none 0 0) ∧ i.size = 1 ∧ i.bytes = 24 := by
  have h := info_bytesS
  cases e : Try.prog.info? 26 with
  | none => rw [e] at h; cases h
  | some i =>
    rw [e] at h
    simp only [Option.map_some, Option.some.injEq, Prod.mk.injEq] at h
    exact ⟨i, rfl, h.1, h.2.1, h.2.2⟩
theorem ownS {w : World} {B e : Nat} {v : Value} {p q : List UInt8} (h : OwnP w B e v p) (k : p = q) : OwnP w B e v q := k ▸ h
theorem Rd.gro16 {w w' : World} {v x : Value} {p : List UInt8} (h : Rd w x p) (g : w.grownBy w' v.ownBlock) (hne : ∀ k, x.ownBlock = some k → v.ownBlock ≠ some k) : Rd w' x p := by
  rcases h with h | ⟨b, off, cap, h1, rfl, h3, h4, h5, h6⟩
  · exact Or.inl h
  · exact Or.inr ⟨b, off, cap, h1, rfl, h3, h4, Nat.lt_of_lt_of_le h5 g.size, fun i hi => (World.cell?_of_block (w := w) (a := ⟨b, off + i, none⟩) (g.block b h5 (fun e => hne b rfl e.symm))).trans (h6 i hi)⟩
theorem par_step {p : Prop} (h : p := by
  have oA := World.ownsRow.alloc hP.row (.cells #[.slice ua k uc] 26)
  have bA := hP.bl.step16 (belR wr (.cells #[.slice ua k uc] 26)) hP.bl.size
  have cA : (wr.alloc (.cells #[.slice ua k uc] 26)).cell? ⟨wr.heap.size, 0, none⟩ = some (.slice ua k uc) := by rw [World.cell?_alloc_new]; rfl
  go_wp2_with (at_builtin; (refine wpList_append_one _ rfl (.tmp 53) (.tmp 57) 38 rfl wb.heap.size 26 j0 Try.underlying38 hj hy0 hy1 hy2 _ _ _ rfl oA _ _ _ rfl cA rfl (by omega) bA.size ?_); intro v7 w7 h7 g7 e7; have C7 := bA.grown g7 bA.size (fun q hq => (World.ownsRow.lt oA q hq).1); clear g7 e7 oA bA cA)
  go_roundw
  case rel => exact ⟨_, _, _, by first | exact hr1 | omega, by first | rfl | go_num, rfl, R2.out, ⟨h7, C7, HV0.out, HV1.out⟩⟩
  case measure => simp [intOf]) : p := h
/-- two parts laid one behind the other -/
structure Par16 (wb : World) (p : List UInt8) (wr : World) (ov : Value) (r : Nat) (vals : List Value) : Prop where
  row : wr.ownsRow wb.heap.size 26 1 ov r vals
  bl : Below wb.heap.size wb wr
  v0 : ∀ x, vals[0]? = some x → Rd wb x (p.take 4096)
  v1 : ∀ x, vals[1]? = some x → Rd wb x ((p.drop 4096).take 4096)
set_option maxRecDepth 100000 in
set_option maxHeartbeats 4000000 in
theorem rsnap16_any {w : World} {v : Value} {L : List ObV} (h : RdO w v L) (hs : ∀ i, i < L.length → (L.getD i default).o.st.length ≤ 1000000) : Calls Try.prog 22 #[v] w (Snaps16 w L) := by
  have K0 := rmay16_any h hs
  obtain ⟨a, cp, rfl⟩ := h.form
  go_enter Try.func22, Try.ntmps22
  go_wp2_with fail
  refine K0.mono ?_
  rintro _ w2 ⟨x, rfl, hx, B2⟩
  clear K0
  have HX : Hid (x = true ↔ MayL (oL L)) := hx
  clear hx
  cases x with
  | false =>
    have N : Hid (¬ MayL (oL L)) := fun q => by have := HX.out.2 q; cases this
    clear HX h hs
    go_wp2
    exact bodyPost_ret (v := .tuple #[.slice none 0 0, .int .i64 1]) (by simp [results, Try.results22, go_sem]) rfl (Or.inr ⟨N.out, rfl, B2⟩)
  | true =>
    have Y : Hid (MayL (oL L)) := HX.out.1 rfl
    clear HX
    have l64 : L.length ≤ 64 := by have := Y.out.1; rwa [oL_length] at this
    obtain ⟨i0, hi, hz0, hz1, hz2⟩ := info_parts info_u8
    go_wp2_with fail
    refine (rtwo_any (n := L.length) (by omega) rfl).mono ?_
    rintro _ w3 ⟨v3, rfl, o3', B3⟩
    have o3 : OwnP w3 w2.heap.size 5 v3 (tw L.length) := o3'
    clear o3'
    obtain ⟨a3, c3, e3⟩ := owns_form o3
    subst e3
    have LB : Hid (∀ r, (obsB ((oL L).take r)).length ≤ 6000) := fun r => obs_take Y.out r
    go_wp2_with fail
    go_loopw [5, 6] (fun ov i wr => ∃ r : Nat, r ≤ L.length ∧ i = .int .i64 (r : Int) ∧ OwnP wr w2.heap.size 5 ov (tw L.length ++ obsB ((oL L).take r)) ∧ Hid (Below w2.heap.size w2 wr)) (fun _ i _ => L.length - (intOf i).toNat)
    case atStart => exact ⟨0, Nat.zero_le _, rfl, ownS o3 (by rw [List.take_zero, show obsB [] = [] from rfl, List.append_nil]), B3⟩
    case round =>
      clear o3 B3
      obtain ⟨r, hr, rfl, hO, hB⟩ := hrel
      obtain ⟨Q, hQ⟩ : ∃ Q, Hid (Q = tw L.length ++ obsB ((oL L).take r)) := ⟨_, rfl⟩
      have hQl : Q.length ≤ 6002 := by rw [hQ.out, List.length_append, tw_length]; have := LB.out r; omega
      rw [← hQ.out] at hO
      obtain ⟨oa, oc, rfl⟩ := owns_form hO
      have BW := B2.step16 hB.out B2.size
      by_cases hlt : r < L.length
      · have hlt' : (r : Int) < (L.length : Int) := by omega
        obtain ⟨b, off, rfl, hb, cz⟩ := (h.below BW).at hlt
        have ok : Hid (OkO (L.getD r default).o) := ((may_up.1 Y.out).2.1 r hlt).1
        have HQ2 : Hid (Q ++ obB (L.getD r default).o = tw L.length ++ obsB ((oL L).take (r + 1))) := by
          show _ = _
          rw [hQ.out, obs_step hlt, List.append_assoc]
        have PK := rput_any (c := L.getD r default) (w := wr) cz.rs
        have IN := cz.in_putM
        generalize L.getD r default = c at cz ok HQ2 PK IN
        obtain ⟨⟨ky, ln, ep, st⟩, vs⟩ := c
        obtain ⟨a2, c2, e⟩ := cz.rs.form
        simp only at e ok HQ2
        subst e
        have z0 : wr.cell? ⟨b, off + r * 4, none⟩ = some (.string ⟨ky.toArray⟩) := cz.c0
        have z1 : wr.cell? ⟨b, off + r * 4 + 1, none⟩ = some (.int .i64 ln) := cz.c1
        have z2 : wr.cell? ⟨b, off + r * 4 + 2, none⟩ = some (.int .i64 ep) := cz.c2
        have z3 : wr.cell? ⟨b, off + r * 4 + 3, none⟩ = some (.slice a2 st.length c2) := cz.c3
        have PK1 : Calls Try.prog 41 #[.agg #[.string ⟨ky.toArray⟩, .int .i64 ln, .int .i64 ep, .slice a2 st.length c2]] wr (fun e w' => e = .returned (.agg #[.int .i64 1, .string ⟨ky.toArray⟩, .int .i64 ln, .slice a2 st.length c2]) ∧ Below wr.heap.size wr w') := PK
        clear cz PK
        go_wp2_with fail
        refine PK1.mono ?_
        rintro _ w4 ⟨rfl, B4⟩
        clear PK1
        have KE : Calls Try.prog 12 #[.agg #[.int .i64 1, .string ⟨ky.toArray⟩, .int .i64 ln, .slice a2 st.length c2]] w4 (MakesF16 w4 0 (enR (putR ⟨ky, ln, ep, st⟩))) := renc16_far (c := ⟨putR ⟨ky, ln, ep, st⟩, .slice a2 st.length c2⟩) (IN.below B4) (if_pos ok.out.1) (if_pos ok.out.1)
        go_wp2_with fail
        refine KE.mono ?_
        rintro _ w5 ⟨v5, rfl, R5, B5, F5⟩
        clear KE IN
        have b45 : Below wr.heap.size wr w5 := B4.step16 B5 B4.size
        have y2 : w5.cell? ⟨b, off + r * 4 + 2, none⟩ = some (.int .i64 ep) := (b45.cell (p := ⟨b, off + r * 4 + 2, none⟩) hb).trans z2
        have o5 := owns_later hO b45
        have C5 := hB.out.step16 b45 hB.out.size
        have hep := ok.out.2
        have w32 : IntKind.u32.wrap ep = ep := by rw [IntKind.wrap_u32]; simp only at hep; omega
        obtain ⟨E5, hE5⟩ : ∃ E5, Hid (E5 = enR (putR ⟨ky, ln, ep, st⟩)) := ⟨_, rfl⟩
        rw [← hE5.out] at R5
        have lE : E5.length ≤ 600 := by
          have h1 := ok.out.1.2.2.1
          have h2 := ok.out.1.2.2.2.2.2.1
          rw [hE5.out, enR_length]
          omega
        obtain ⟨a5, c5, e5⟩ := R5.form
        subst e5
        have AP : Hid (∀ k, (Value.slice a5 E5.length c5).ownBlock = some k → (Value.slice oa Q.length oc).ownBlock ≠ some k) := fun k hk e => by
          have a1 := F5 k hk
          have a2 := (World.ownsRow.lt hO k e).2
          have a3 := B4.size
          omega
        clear F5
        clear z0 z1 z2 z3 B4 B5 b45 hO hB BW
        go_wp2_with fail
        refine (rfour_any (n := ep.toNat) (Int.toNat_of_nonneg hep.1).symm).mono ?_
        rintro _ w6 ⟨v6, rfl, o6, b6⟩
        have R6 : Rd w6 v6 (fo ep.toNat) := Rd.owned o6
        have p6 := owns_later o5 b6
        have C6 := C5.step16 b6 C5.size
        have R5' := R5.below b6
        clear o6 b6 o5 C5 y2 R5
        go_wp2_with (first
          | (at_builtin; (refine wpList_append_rd2 _ rfl (.tmp 34) (.tmp 41) 26 rfl w2.heap.size 5 i0 Try.underlying26 hi hz0 hz1 hz2 _ _ _ rfl p6 _ _ rfl R6 (by rw [fo_length]; omega) C6.size ?_); intro v7 w7 h7 g7 e7; have o7 := cat16 h7; have R7 := R5'.gro16 g7 AP.out; have C7 := C6.grown g7 C6.size (fun q hq => (World.ownsRow.lt p6 q hq).1); clear h7 g7 e7 p6 R6 C6)
          | (at_builtin; (refine wpList_append_rd2 _ rfl (.tmp 42) (.tmp 43) 26 rfl w2.heap.size 5 i0 Try.underlying26 hi hz0 hz1 hz2 _ _ _ rfl o7 _ E5 rfl R7 (by rw [List.length_append, fo_length]; omega) C7.size ?_); intro v8 w8 h8 g8 e8; have o8 := cat16 h8; have C8 := C7.grown g8 C7.size (fun q hq => (World.ownsRow.lt o7 q hq).1); clear h8 g8 e8 o7 R7 C7))
        have o9 := ownS o8 (show _ = tw L.length ++ obsB ((oL L).take (r + 1)) by rw [hE5.out, List.append_assoc]; exact HQ2.out)
        have C8' : Hid (Below w2.heap.size w2 w8) := C8
        exact ⟨⟨r + 1, by omega, by go_num, o9, C8'⟩, by simp [intOf]; omega⟩
      · obtain rfl : r = L.length := by omega
        have hge : ¬ (L.length : Int) < (L.length : Int) := by omega
        have eQ : Hid (Q = snB (oL L)) := by
          show _ = _
          rw [hQ.out]
          unfold snB
          rw [oL_length, ← oL_length L, List.take_length]
        have RQ : Rd wr (.slice oa Q.length oc) Q := Rd.owned hO
        obtain ⟨j0, hj, hy0, hy1, hy2⟩ := info_bytesS'
        clear h hs hO
        go_wp2_with fail
        obtain ⟨wb, hwb⟩ : ∃ wb, wb = wr := ⟨_, rfl⟩
        subst hwb
        have PN : Par16 wb Q wb (.slice none 0 0) 0 [] := ⟨World.ownsRow_nil _ _ _ _, Below.refl _ _, (fun x hx => by cases hx), (fun x hx => by cases hx)⟩
        have lQ : Q.length ≤ 5378 := by rw [eQ.out]; exact snB_le Y.out
        go_loopw [5, 9, 10] (fun bv ov i wr => ∃ (r : Nat) (u : Value) (vals : List Value), r ≤ 2 ∧ i = .int .i64 (r : Int) ∧ bv = u ∧ Rd wb u (Q.drop (4096 * r)) ∧ Par16 wb Q wr ov r vals) (fun _ _ i _ => 2 - (intOf i).toNat)
        case atStart => exact ⟨0, _, [], Nat.zero_le _, rfl, rfl, RQ, PN⟩
        case round =>
          obtain ⟨r, u, vals, hr2, rfl, rfl, hu, hP⟩ := hrel
          clear RQ PN
          have hc : r = 0 ∨ r = 1 ∨ r = 2 := by omega
          obtain ⟨ua, uc, rfl⟩ := hu.form
          obtain ⟨pa, pc, ep⟩ := owns_form hP.row
          subst ep
          have hlen : vals.length = r := by have := hP.row.1; omega
          rcases hc with rfl | rfl | rfl
          · have hcap := (rd_cap hu).2
            have hq : (Q.drop (4096 * 0)).length = Q.length - 4096 * 0 := List.length_drop
            by_cases hm : ((Q.drop (4096 * 0)).length : Int) > 4096
            · have hr1 : 1 ≤ 2 := by omega
              obtain ⟨k, hk⟩ : ∃ k : Nat, Hid (k = 4096) := ⟨_, rfl⟩
              have E1 : ∀ W, (Instr.slice 26 (.slice ua (Q.drop (4096 * 0)).length uc) none (some (.int .i64 4096)) none).run Try.prog W = .ok (.slice ua k uc) W := fun W => by rw [hk.out]; exact cut_hi16 W ua (k := 4096) (by omega)
              have E2 : ∀ W, (Instr.slice 26 (.slice ua (Q.drop (4096 * 0)).length uc) (some (.int .i64 4096)) none none).run Try.prog W = .ok (.slice (if uc = k then ua else ua.map (·.add k)) ((Q.drop (4096 * 0)).length - k) (uc - k)) W := fun W => by rw [hk.out]; exact cut_lo16 W ua (k := 4096) (by omega)
              have R1 := hu.first16 (k := k) (by have := hk.out; omega)
              have R2 : Hid (Rd wb (.slice (if uc = k then ua else ua.map (·.add k)) ((Q.drop (4096 * 0)).length - k) (uc - k)) (Q.drop (4096 * (0 + 1)))) := by
                have e := hu.rest16 (k := k) (by have := hk.out; omega)
                rw [hk.out, List.drop_drop] at e; rw [hk.out]; exact e
              generalize (if uc = k then ua else ua.map (·.add k)) = a2 at E2 R2
              generalize (Q.drop (4096 * 0)).length - k = n2 at E2 R2
              generalize uc - k = c2 at E2 R2
              have HV0 : Hid (∀ x, (vals ++ [Value.slice ua k uc])[0]? = some x → Rd wb x (Q.take 4096)) := by
                intro x hx; rw [List.length_eq_zero_iff.1 hlen] at hx; simp at hx; subst hx; rw [hk.out] at R1 ⊢; exact R1
              have HV1 : Hid (∀ x, (vals ++ [Value.slice ua k uc])[1]? = some x → Rd wb x ((Q.drop 4096).take 4096)) := by
                intro x hx; rw [List.length_eq_zero_iff.1 hlen] at hx; simp at hx
              clear R1 hu hq hcap
              generalize (Q.drop (4096 * 0)).length = m at E1 E2 hm
              exact par_step
            · have hr1 : 1 ≤ 2 := by omega
              obtain ⟨k, hk⟩ : ∃ k : Nat, Hid (k = (Q.drop (4096 * 0)).length) := ⟨_, rfl⟩
              have E1 : ∀ W, (Instr.slice 26 (.slice ua (Q.drop (4096 * 0)).length uc) none (some (.int .i64 ((Q.drop (4096 * 0)).length : Int))) none).run Try.prog W = .ok (.slice ua k uc) W := fun W => by rw [hk.out]; exact cut_hi16 W ua (by omega)
              have E2 : ∀ W, (Instr.slice 26 (.slice ua (Q.drop (4096 * 0)).length uc) (some (.int .i64 ((Q.drop (4096 * 0)).length : Int))) none none).run Try.prog W = .ok (.slice (if uc = k then ua else ua.map (·.add k)) ((Q.drop (4096 * 0)).length - k) (uc - k)) W := fun W => by rw [hk.out]; exact cut_lo16 W ua (by omega)
              have R1 := hu.first16 (k := k) (by have := hk.out; omega)
              have R2 : Hid (Rd wb (.slice (if uc = k then ua else ua.map (·.add k)) ((Q.drop (4096 * 0)).length - k) (uc - k)) (Q.drop (4096 * (0 + 1)))) := by
                have e := hu.rest16 (k := k) (by have := hk.out; omega)
                rw [hk.out] at e ⊢; rw [List.drop_length] at e; rw [List.drop_eq_nil_of_le (show Q.length ≤ 4096 * (0 + 1) by omega)]; exact e
              generalize (if uc = k then ua else ua.map (·.add k)) = a2 at E2 R2
              generalize (Q.drop (4096 * 0)).length - k = n2 at E2 R2
              generalize uc - k = c2 at E2 R2
              have HV0 : Hid (∀ x, (vals ++ [Value.slice ua k uc])[0]? = some x → Rd wb x (Q.take 4096)) := by
                intro x hx; rw [List.length_eq_zero_iff.1 hlen] at hx; simp at hx; subst hx; rw [hk.out, List.take_length] at R1; rw [hk.out, List.take_of_length_le (show Q.length ≤ 4096 by omega)]; exact R1
              have HV1 : Hid (∀ x, (vals ++ [Value.slice ua k uc])[1]? = some x → Rd wb x ((Q.drop 4096).take 4096)) := by
                intro x hx; rw [List.length_eq_zero_iff.1 hlen] at hx; simp at hx
              clear R1 hu hq hcap
              generalize (Q.drop (4096 * 0)).length = m at E1 E2 hm
              exact par_step
          · have hcap := (rd_cap hu).2
            have hq : (Q.drop (4096 * 1)).length = Q.length - 4096 * 1 := List.length_drop
            have hm : ¬ ((Q.drop (4096 * 1)).length : Int) > 4096 := by omega
            obtain ⟨x0, ex⟩ := List.length_eq_one_iff.1 hlen
            have V0 := hP.v0
            have hr1 : 2 ≤ 2 := by omega
            obtain ⟨k, hk⟩ : ∃ k : Nat, Hid (k = (Q.drop (4096 * 1)).length) := ⟨_, rfl⟩
            have E1 : ∀ W, (Instr.slice 26 (.slice ua (Q.drop (4096 * 1)).length uc) none (some (.int .i64 ((Q.drop (4096 * 1)).length : Int))) none).run Try.prog W = .ok (.slice ua k uc) W := fun W => by rw [hk.out]; exact cut_hi16 W ua (by omega)
            have E2 : ∀ W, (Instr.slice 26 (.slice ua (Q.drop (4096 * 1)).length uc) (some (.int .i64 ((Q.drop (4096 * 1)).length : Int))) none none).run Try.prog W = .ok (.slice (if uc = k then ua else ua.map (·.add k)) ((Q.drop (4096 * 1)).length - k) (uc - k)) W := fun W => by rw [hk.out]; exact cut_lo16 W ua (by omega)
            have R1 := hu.first16 (k := k) (by have := hk.out; omega)
            have R2 : Hid (Rd wb (.slice (if uc = k then ua else ua.map (·.add k)) ((Q.drop (4096 * 1)).length - k) (uc - k)) (Q.drop (4096 * (1 + 1)))) := by
              have e := hu.rest16 (k := k) (by have := hk.out; omega)
              rw [hk.out] at e ⊢; rw [List.drop_length] at e; rw [List.drop_eq_nil_of_le (show Q.length ≤ 4096 * (1 + 1) by omega)]; exact e
            generalize (if uc = k then ua else ua.map (·.add k)) = a2 at E2 R2
            generalize (Q.drop (4096 * 1)).length - k = n2 at E2 R2
            generalize uc - k = c2 at E2 R2
            have HV0 : Hid (∀ x, (vals ++ [Value.slice ua k uc])[0]? = some x → Rd wb x (Q.take 4096)) := by
              intro x hx; rw [ex] at hx; simp at hx; exact V0 x (by rw [ex]; simpa using hx)
            have HV1 : Hid (∀ x, (vals ++ [Value.slice ua k uc])[1]? = some x → Rd wb x ((Q.drop 4096).take 4096)) := by
              intro x hx; rw [ex] at hx; simp at hx; subst hx; rw [hk.out] at R1 ⊢; exact (by rw [List.take_length] at R1; rw [List.take_of_length_le (show (Q.drop 4096).length ≤ 4096 by rw [List.length_drop]; omega)]; exact R1)
            clear R1 hu hq hcap
            generalize (Q.drop (4096 * 1)).length = m at E1 E2 hm
            exact par_step
          · have FIN : Hid (Snaps16 w L (.returned (.tuple #[.slice pa 2 pc, .int .i64 0])) wr) := by
              refine Or.inl ⟨Y.out, _, rfl, ?_, (B2.step16 hB.out B2.size).step16 hP.bl (Nat.le_trans B2.size hB.out.size)⟩
              have hrow := hP.row
              obtain ⟨_, ⟨_, hn⟩ | ⟨g, cap, cur, e, hg, hh, hc1, hc2, _⟩⟩ := hP.row
              · cases hn
              · simp at e
                obtain ⟨rfl, rfl⟩ := e
                have eS : snP (oL L) = [Q.take 4096, Q.drop 4096] := by rw [eQ.out]; rfl
                rw [eS]
                have lw := (World.ownsRow.lt hrow g rfl).2
                refine ⟨_, pc, rfl, hc1, hc2, (fun q => by cases q), fun i hi => ?_⟩
                have hi2 : i = 0 ∨ i = 1 := by simp at hi; omega
                have get : ∀ j, j < 2 → ∃ x, vals[j]? = some x ∧ wr.cell? ⟨g, 0 + j, none⟩ = some x := fun j hj => ⟨vals[j]'(by omega), List.getElem?_eq_getElem (by omega), by rw [Nat.zero_add, World.ownsRow.cellAt hrow j (by omega), List.getElem?_eq_getElem (by omega)]⟩
                rcases hi2 with rfl | rfl
                · obtain ⟨x, h1, h2⟩ := get 0 (by omega)
                  exact ⟨g, 0, x, rfl, lw, h2, (hP.v0 x h1).below hP.bl⟩
                · obtain ⟨x, h1, h2⟩ := get 1 (by omega)
                  refine ⟨g, 0, x, rfl, lw, h2, ?_⟩
                  have h3 := (hP.v1 x h1).below hP.bl
                  rw [List.take_of_length_le (show (Q.drop 4096).length ≤ 4096 by rw [List.length_drop]; omega)] at h3
                  exact h3
            clear hP hu
            go_wp2
            exact bodyPost_ret (v := .tuple #[.slice pa 2 pc, .int .i64 0]) (by simp [results, Try.results22, go_sem]) rfl FIN.out
end Go.Proofs.Ythmoiffkgcnjmaa.Gf

namespace Go.Proofs.Ythmoiffkgcnjmaa.Gf
set_option linter.unusedVariables false
set_option linter.unusedSimpArgs false
open Go.RowKit
theorem unO_snoc {n : Nat} {b : List UInt8} {l : List ObS} {r : List UInt8} (h : unO n b = some (l, r)) : unO (n + 1) b = if NxO r then some (l ++ [raO r], reO r) else none := by
  induction n generalizing b l with
  | zero =>
    have h : some (([] : List ObS), b) = some (l, r) := h
    simp only [Option.some.injEq, Prod.mk.injEq] at h
    obtain ⟨rfl, rfl⟩ := h
    rfl
  | succ n ih =>
    unfold unO at h
    by_cases q : NxO b
    · rw [if_pos q] at h
      cases e : unO n (reO b) with
      | none => rw [e] at h; cases h
      | some x =>
        obtain ⟨l', r'⟩ := x
        rw [e] at h
        simp only [Option.map_some, Option.some.injEq, Prod.mk.injEq] at h
        obtain ⟨rfl, rfl⟩ := h
        show (if NxO b then (unO (n + 1) (reO b)).map (fun x => (raO b :: x.1, x.2)) else none) = _
        rw [if_pos q, ih e]
        by_cases q2 : NxO r'
        · rw [if_pos q2, if_pos q2]; rfl
        · rw [if_neg q2, if_neg q2]; rfl
    · rw [if_neg q] at h; cases h
theorem unO_none {n m : Nat} {b : List UInt8} (h : unO n b = none) (hm : n ≤ m) : unO m b = none := by
  induction n generalizing b m with
  | zero => cases h
  | succ n ih =>
    obtain ⟨m, rfl⟩ : ∃ k, m = k + 1 := ⟨m - 1, by omega⟩
    unfold unO at h ⊢
    by_cases q : NxO b
    · rw [if_pos q] at h ⊢
      cases e : unO n (reO b) with
      | none => rw [ih e (by omega)]; rfl
      | some x => rw [e] at h; cases h
    · rw [if_neg q]
theorem unO_rest {n : Nat} {b : List UInt8} {l : List ObS} {r : List UInt8} (h : unO n b = some (l, r)) : r.length ≤ b.length ∧ l.length = n := by
  have k := un_back h
  refine ⟨?_, k.1⟩
  have := congrArg List.length k.2.2
  rw [List.length_append] at this
  omega
theorem un_cut {r C : Nat} {b s : List UInt8} {l m : List ObS} {t : List UInt8} (h : unO r b = some (l, s)) (hr : r < C) (hn : ¬ NxO s) : unO C b ≠ some (m, t) := fun e => by
  have h1 := unO_snoc h
  rw [if_neg hn] at h1
  rw [unO_none h1 (by omega)] at e
  cases e
theorem raO_stU (q : List UInt8) : (raO q).st.length < 65536 := by
  show (stN _ _).length < _
  rw [stN_length]
  exact un_lt _
theorem row_later {w w' : World} {base e s n : Nat} {v : Value} {xs : List Value} (h : w.ownsRow base e s v n xs) (t : Below w.heap.size w w') : w'.ownsRow base e s v n xs := by
  obtain ⟨h0, h | ⟨g2, cap, cur, hv, hgg, hh, r⟩⟩ := h
  · exact ⟨h0, Or.inl h⟩
  · have hlt : g2 < w.heap.size := (Array.getElem?_eq_some_iff.1 hh).1
    exact ⟨h0, Or.inr ⟨g2, cap, cur, hv, hgg, by rw [t.block g2 hlt]; exact hh, r⟩⟩
theorem OwnO.later {w w' : World} {base : Nat} {v : Value} {L : List ObV} (h : OwnO w base v L) (t : Below w.heap.size w w') : OwnO w' base v L :=
  ⟨row_later h.row t, fun c hc => ⟨(h.ea c hc).wl, (h.ea c hc).we, (h.ea c hc).ky, (h.ea c hc).rs.below t, (h.ea c hc).wi⟩, fun c hc k hk => ⟨(h.ap c hc k hk).1, Nat.lt_of_lt_of_le (h.ap c hc k hk).2.1 t.size, (h.ap c hc k hk).2.2⟩⟩
end Go.Proofs.Ythmoiffkgcnjmaa.Gf

namespace Go.Proofs.Ythmoiffkgcnjmaa.Gf
set_option linter.unusedVariables false
set_option linter.unusedSimpArgs false
open Go.RowKit
structure GotN (w1 : World) (G : Nat) (wr : World) (k : Int) (y : List UInt8) (n : Int) (v : Value) (zs : List Int) : Prop where
  c0 : wr.cell? ⟨G, 0, none⟩ = some (.int .i64 k)
  c1 : wr.cell? ⟨G, 1, none⟩ = some (.string ⟨y.toArray⟩)
  c2 : wr.cell? ⟨G, 2, none⟩ = some (.int .i64 n)
  c3 : wr.cell? ⟨G, 3, none⟩ = some v
  fz : ∀ j, wr.frozen? ⟨G, j, none⟩ = false
  own : OwnZ wr w1.heap.size 3 v zs
  tn : Turn G w1 wr
  lg : G < w1.heap.size
section
variable {w1 : World} {G : Nat} {wr w' : World} {k : Int} {y : List UInt8} {n : Int} {v v' : Value} {zs zs' : List Int}
theorem GotN.below (h : GotN w1 G wr k y n v zs) (b : Below wr.heap.size wr w') : GotN w1 G w' k y n v zs := by
  have l : G < wr.heap.size := Nat.lt_of_lt_of_le h.lg h.tn.size
  exact ⟨(b.cell (p := ⟨G, 0, none⟩) l).trans h.c0, (b.cell (p := ⟨G, 1, none⟩) l).trans h.c1, (b.cell (p := ⟨G, 2, none⟩) l).trans h.c2, (b.cell (p := ⟨G, 3, none⟩) l).trans h.c3, fun j => (b.frozen (p := ⟨G, j, none⟩) l).trans (h.fz j), owns_later h.own b, h.tn.trans (Below.turn b G), h.lg⟩
theorem GotN.put2 (h : GotN w1 G wr k y n v zs) (n' : Int) : GotN w1 G (wr.setCell ⟨G, 2, none⟩ (.int .i64 n')) k y n' v zs := by
  have o : Only G wr (wr.setCell ⟨G, 2, none⟩ (.int .i64 n')) := (Only.refl _ _).setCell _ _
  exact ⟨(World.cell?_setCell_other _ _ _ _ (by simp)).trans h.c0, (World.cell?_setCell_other _ _ _ _ (by simp)).trans h.c1, World.cell?_setCell_same _ _ _ h.c2, (World.cell?_setCell_other _ _ _ _ (by simp)).trans h.c3, fun j => (World.frozen?_setCell _ _ _ _).trans (h.fz j), h.own.only o h.lg, h.tn.trans o.turn, h.lg⟩
theorem GotN.spot (h : GotN w1 G wr k y n v zs) (g : Gro wr v w' v') : w'.cell? ⟨G, 3, none⟩ = some v ∧ w'.frozen? ⟨G, 3, none⟩ = false := by
  have nb : v.ownBlock ≠ some G := fun e => by have := (World.ownsRow.lt h.own G e).1; have := h.lg; omega
  have lw : G < wr.heap.size := Nat.lt_of_lt_of_le h.lg h.tn.size
  exact ⟨(g.cell (p := ⟨G, 3, none⟩) lw nb).trans h.c3, (g.frozen (p := ⟨G, 3, none⟩) lw nb).trans (h.fz 3)⟩
theorem GotN.grow (h : GotN w1 G wr k y n v zs) (g : Gro wr v w' v') (o : OwnZ w' w1.heap.size 3 v' zs') : GotN w1 G (w'.setCell ⟨G, 3, none⟩ v') k y n v' zs' := by
  have nb : ∀ b, b < w1.heap.size → v.ownBlock ≠ some b := fun b hb e => by have := (World.ownsRow.lt h.own b e).1; omega
  have lw : ∀ b, b < w1.heap.size → b < wr.heap.size := fun b hb => Nat.lt_of_lt_of_le hb h.tn.size
  have e : ∀ j, w'.cell? ⟨G, j, none⟩ = wr.cell? ⟨G, j, none⟩ := fun j => g.cell (p := ⟨G, j, none⟩) (lw _ h.lg) (nb _ h.lg)
  have O : Only G w' (w'.setCell ⟨G, 3, none⟩ v') := (Only.refl _ _).setCell _ _
  have oth : ∀ j, j ≠ 3 → (w'.setCell ⟨G, 3, none⟩ v').cell? ⟨G, j, none⟩ = w'.cell? ⟨G, j, none⟩ := fun j hj => World.cell?_setCell_other _ _ _ _ (by simp; try omega)
  refine ⟨?_, ?_, ?_, ?_, fun i => (World.frozen?_setCell _ _ _ _).trans ((g.frozen (p := ⟨G, i, none⟩) (lw _ h.lg) (nb _ h.lg)).trans (h.fz i)), o.only O h.lg, ?_, h.lg⟩
  · rw [oth 0 (by omega), e 0, h.c0]
  · rw [oth 1 (by omega), e 1, h.c1]
  · rw [oth 2 (by omega), e 2, h.c2]
  · exact World.cell?_setCell_same _ _ _ ((e 3).trans h.c3)
  · have T1 : Turn G w1 w' := ⟨g.gr.os.trans h.tn.os, g.gr.tape.trans h.tn.tape, g.gr.output.trans h.tn.output, Nat.le_trans h.tn.size g.gr.size, fun i hi hg => (g.gr.block i (lw i hi) (fun e => nb i hi e.symm)).trans (h.tn.block i hi hg)⟩
    exact T1.trans O.turn
end
theorem cut_lh16 (w : World) (a : Option Addr) {n c lo hi : Nat} (h : lo ≤ hi) (h2 : hi ≤ c) : (Instr.slice 26 (.slice a n c) (some (.int .i64 (lo : Int))) (some (.int .i64 (hi : Int))) none).run Try.prog w = .ok (.slice (if c = lo then a else a.map (·.add lo)) (hi - lo) (c - lo)) w := by
  have e := run_slice_lh (P := Try.prog) w 26 a n c und_bytes16 .i64 .i64 (lo : Int) (hi : Int) (by omega) (by omega) (by omega)
  rw [e, elem_bytes16, size_u816]
  simp [sliced]
theorem Rd.mid16 {w : World} {a : Option Addr} {n c lo hi : Nat} {p : List UInt8} (h : Rd w (.slice a n c) p) (h1 : lo ≤ hi) (h2 : hi ≤ n) : Rd w (.slice (if c = lo then a else a.map (·.add lo)) (hi - lo) (c - lo)) ((p.drop lo).take (hi - lo)) :=
  (h.rest16 (k := lo) (by omega)).first16 (by omega)
end Go.Proofs.Ythmoiffkgcnjmaa.Gf
