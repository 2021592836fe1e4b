/- TEXTS JOINED: ReRefU. -/
import Derived.Test.YthmoiffkgcnjmaaQome17
namespace Go.Proofs.Ythmoiffkgcnjmaa.Gf
set_option linter.unusedVariables false
set_option linter.unusedSimpArgs false
open Go.RowKit
theorem un_bad {p : Prop} (h : p := by
  go_wp2
  exact bodyPost_ret (v := .tuple #[.slice none 0 0, .int .i64 160]) (by simp [results, Try.results24, go_sem]) rfl (Or.inr ⟨N.out, rfl, FIN.out⟩)) : p := h
theorem isP_two {p q B : List UInt8} (h : CutP p q) (e : B = p ++ q) (l : List ObS) : IsP [p, q] l ↔ 2 ≤ B.length ∧ unO (un B) (B.drop 2) = some (l, []) ∧ MayL l := by
  subst e
  constructor
  · rintro ⟨p', q', e, h1, h2, h3, h4⟩
    simp only [List.cons.injEq, and_true] at e
    obtain ⟨rfl, rfl⟩ := e
    exact ⟨h2, h3, h4⟩
  · rintro ⟨h2, h3, h4⟩
    exact ⟨p, q, rfl, h, h2, h3, h4⟩
set_option maxRecDepth 100000 in
set_option maxHeartbeats 4000000 in
theorem runs16_any {w : World} {v : Value} {P : List (List UInt8)} (h : Rs w v P) : Calls Try.prog 24 #[v] w (UnP16 w P) := by
  obtain ⟨a, cp, rfl⟩ := h.form
  by_cases h2 : P.length = 2
  rotate_left
  · have h2' : ¬ (P.length : Int) = 2 := by omega
    have N : Hid (∀ l, ¬ IsP P l) := fun l ⟨p, q, e, _⟩ => h2 (by rw [e]; rfl)
    have FIN : Hid (Below w.heap.size w w) := Below.refl _ _
    clear h
    go_enter Try.func24, Try.ntmps24
    exact un_bad
  obtain ⟨p, q, rfl⟩ : ∃ p q, P = [p, q] := by
    match P, h2 with
    | [p, q], _ => exact ⟨p, q, rfl⟩
  clear h2
  obtain ⟨b, off, xa, xc, rfl, hb, c0, r0⟩ := h.at (i := 0) (by simp)
  obtain ⟨b', off', ya, yc, e, _, c1, r1⟩ := h.at (i := 1) (by simp)
  simp at e
  obtain ⟨rfl, rfl⟩ := e
  have z0 : w.cell? ⟨b, off, none⟩ = some (.slice xa p.length xc) := c0
  have z1 : w.cell? ⟨b, off + 1, none⟩ = some (.slice ya q.length yc) := c1
  have R0 : Rd w (.slice xa p.length xc) p := r0
  have R1 : Rd w (.slice ya q.length yc) q := r1
  show Calls Try.prog 24 #[.slice (some ⟨b, off, none⟩) 2 cp] w _
  clear c0 c1 r0 r1 h
  obtain ⟨i0, hi, hz0, hz1, hz2⟩ := info_parts info_u8
  go_enter Try.func24, Try.ntmps24
  go_wp2_with fail
  go_loopw [4, 5] (fun bv i wr => ∃ r : Nat, i = .int .i64 (r : Int) ∧ Hid (Below w.heap.size w wr) ∧ ((r = 0 ∧ bv = .slice none 0 0) ∨ (r = 1 ∧ OwnP wr w.heap.size 5 bv p ∧ Hid (p.length ≤ 4096)) ∨ (r = 2 ∧ OwnP wr w.heap.size 5 bv (p ++ q) ∧ Hid (CutP p q)))) (fun _ i _ => 2 - (intOf i).toNat)
  case atStart => exact ⟨0, rfl, Below.refl _ _, Or.inl ⟨rfl, rfl⟩⟩
  case round =>
    obtain ⟨r, rfl, hB, ⟨rfl, rfl⟩ | ⟨rfl, hO, hm⟩ | ⟨rfl, hO, hC⟩⟩ := hrel
    · have y0 : wr.cell? ⟨b, off, none⟩ = some (.slice xa p.length xc) := (hB.out.cell (p := ⟨b, off, none⟩) hb).trans z0
      by_cases hm : (p.length : Int) > 4096
      · have N : Hid (∀ l, ¬ IsP [p, q] l) := fun l ⟨p', q', e, k, _⟩ => by
          simp only [List.cons.injEq, and_true] at e
          obtain ⟨rfl, rfl⟩ := e
          have := k.1
          omega
        have FIN := hB
        clear R0 R1 hB
        exact un_bad
      · have R0' := R0.below hB.out
        have BW := hB.out
        have on : wr.ownsRow w.heap.size 5 1 (.slice none 0 0) 0 [] := World.ownsRow_nil _ _ _ _
        have hm' : Hid (p.length ≤ 4096) := by show _ ≤ _; omega
        have lp : 0 + p.length ≤ 1000000 := by omega
        clear R0 R1 hB
        go_wp2_with (at_builtin; (refine wpList_append_rd2 _ rfl (.tmp 48) (.tmp 52) 26 rfl w.heap.size 5 i0 Try.underlying26 hi hz0 hz1 hz2 _ _ _ rfl on _ _ rfl R0' lp BW.size ?_); intro v7 w7 h7 g7 e7; have o7 := (show OwnP w7 w.heap.size 5 v7 p by have := h7; rw [Nat.zero_add, List.nil_append] at this; exact this); have C7 := BW.grown g7 BW.size (fun q hq => (World.ownsRow.lt on q hq).1); clear h7 g7 e7 on)
        have C8 : Hid (Below w.heap.size w w7) := C7
        go_roundw
        case rel => exact ⟨1, by first | rfl | go_num, C8, Or.inr (Or.inl ⟨rfl, o7, hm'⟩)⟩
        case measure => simp [intOf]
    · have y0 : wr.cell? ⟨b, off, none⟩ = some (.slice xa p.length xc) := (hB.out.cell (p := ⟨b, off, none⟩) hb).trans z0
      have y1 : wr.cell? ⟨b, off + 1, none⟩ = some (.slice ya q.length yc) := (hB.out.cell (p := ⟨b, off + 1, none⟩) hb).trans z1
      have NC : Hid (¬ CutP p q → ∀ l, ¬ IsP [p, q] l) := fun n l ⟨p', q', e, k, _⟩ => by
        simp only [List.cons.injEq, and_true] at e
        obtain ⟨rfl, rfl⟩ := e
        exact n k
      have FIN := hB
      obtain ⟨oa, oc, rfl⟩ := owns_form hO
      by_cases hn : (q.length : Int) > 4096
      · have N : Hid (∀ l, ¬ IsP [p, q] l) := NC.out fun k => by have := k.2.1; omega
        clear R0 R1 hB NC hO
        exact un_bad
      have R1' := R1.below hB.out
      have BW := hB.out
      have lpq : p.length + q.length ≤ 1000000 := by have := hm.out; omega
      by_cases h0 : (q.length : Int) > 0
      · by_cases hf : (p.length : Int) < 4096
        · have N : Hid (∀ l, ¬ IsP [p, q] l) := NC.out fun k => by
            rcases k.2.2 with k | k
            · rw [k] at h0; simp at h0
            · omega
          clear R0 R1 hB NC hO R1' BW
          exact un_bad
        · have Y : Hid (CutP p q) := ⟨hm.out, by omega, Or.inr (by have := hm.out; omega)⟩
          clear R0 R1 hB NC FIN
          go_wp2_with (at_builtin; (refine wpList_append_rd2 _ rfl (.tmp 48) (.tmp 52) 26 rfl w.heap.size 5 i0 Try.underlying26 hi hz0 hz1 hz2 _ _ _ rfl hO _ _ rfl R1' lpq BW.size ?_); intro v7 w7 h7 g7 e7; have o7 := cat16 h7; have C7 := BW.grown g7 BW.size (fun q hq => (World.ownsRow.lt hO q hq).1); clear h7 g7 e7 hO)
          have C8 : Hid (Below w.heap.size w w7) := C7
          go_roundw
          case rel => exact ⟨2, by first | rfl | go_num, C8, Or.inr (Or.inr ⟨rfl, o7, Y⟩)⟩
          case measure => simp [intOf]
      · have Y : Hid (CutP p q) := ⟨hm.out, by omega, Or.inl (List.length_eq_zero_iff.1 (by omega))⟩
        clear R0 R1 hB NC FIN
        go_wp2_with (at_builtin; (refine wpList_append_rd2 _ rfl (.tmp 48) (.tmp 52) 26 rfl w.heap.size 5 i0 Try.underlying26 hi hz0 hz1 hz2 _ _ _ rfl hO _ _ rfl R1' lpq BW.size ?_); intro v7 w7 h7 g7 e7; have o7 := cat16 h7; have C7 := BW.grown g7 BW.size (fun q hq => (World.ownsRow.lt hO q hq).1); clear h7 g7 e7 hO)
        have C8 : Hid (Below w.heap.size w w7) := C7
        go_roundw
        case rel => exact ⟨2, by first | rfl | go_num, C8, Or.inr (Or.inr ⟨rfl, o7, Y⟩)⟩
        case measure => simp [intOf]
    · obtain ⟨B, eB⟩ : ∃ B, Hid (B = p ++ q) := ⟨_, rfl⟩
      have IP : Hid (∀ l, IsP [p, q] l ↔ 2 ≤ B.length ∧ unO (un B) (B.drop 2) = some (l, []) ∧ MayL l) := isP_two hC.out eB.out
      have lB : B.length ≤ 8192 := by rw [eB.out, List.length_append]; have := hC.out.1; have := hC.out.2.1; omega
      rw [← eB.out] at hO
      have R : Rd wr _ B := Rd.owned hO
      obtain ⟨oa, oc, rfl⟩ := owns_form hO
      clear hO R0 R1 z0 z1 eB hC
      have FIN := hB
      by_cases l2 : (B.length : Int) < 2
      · have N : Hid (∀ l, ¬ IsP [p, q] l) := fun l k => by have := ((IP.out l).1 k).1; omega
        clear R hB
        exact un_bad
      obtain ⟨b0, o0, e0, _, c6⟩ := R.byte (i := 0) (by omega)
      subst e0
      obtain ⟨b1, o1, e1, _, c7⟩ := R.byte (i := 1) (by omega)
      simp at e1
      obtain ⟨rfl, rfl⟩ := e1
      rw [Nat.add_zero] at c6
      have EC : Hid (un B = 256 * (co B 0).toNat + (co B 1).toNat) := rfl
      have x6 : (co B 0).toNat < 256 := (co B 0).toNat_lt
      have x7 : (co B 1).toNat < 256 := (co B 1).toNat_lt
      generalize (co B 0).toNat = t6 at c6 EC x6
      generalize (co B 1).toNat = t7 at c7 EC x7
      obtain ⟨C, hC6⟩ : ∃ C : Nat, C = 256 * t6 + t7 := ⟨_, rfl⟩
      have hC : Hid (C = un B) := hC6.trans EC.out.symm
      have eC : 256 * (t6 : Int) + (t7 : Int) = (C : Int) := by rw [hC6, Int.natCast_add, Int.natCast_mul]; rfl
      have C0 : C < 65536 := by omega
      clear hC6
      have h6 : IntKind.i64.wrap (t6 : Int) = (t6 : Int) := by rw [IntKind.wrap_i64]; omega
      have h7 : IntKind.i64.wrap (t7 : Int) = (t7 : Int) := by rw [IntKind.wrap_i64]; omega
      have h8 : IntKind.i64.wrap (256 * (t6 : Int)) = 256 * (t6 : Int) := by rw [IntKind.wrap_i64]; omega
      have h9 : IntKind.i64.wrap (C : Int) = (C : Int) := by rw [IntKind.wrap_i64]; omega
      have i6 : (0 : Int) < (B.length : Int) := by omega
      have i7 : (1 : Int) < (B.length : Int) := by omega
      have i6' : 0 < B.length := by omega
      have i7' : 1 < B.length := by omega
      obtain ⟨h6', h7'⟩ : wrap64 (t6 : Int) = (t6 : Int) ∧ wrap64 (t7 : Int) = (t7 : Int) := ⟨w64_in (by omega) (by omega), w64_in (by omega) (by omega)⟩
      clear EC
      go_wp2_with fail
      go_quiet (fail)
      have Rb := R.below (show Below wr.heap.size wr (wr.drewN nq) from (Below.refl _ _).drewN nq)
      have BA : Below w.heap.size w (wr.drewN nq) := hB.out.drewN nq
      generalize wr.drewN nq = wb at Rb BA
      clear R hB FIN c6 c7 h6 h7 h8 h9 h6' h7' eC i6 i7 i6' i7' x6 x7
      have E2 : ∀ W, (Instr.slice 26 (.slice (some ⟨b0, o0, none⟩) B.length oc) (some (.int .i64 2)) none none).run Try.prog W = _ := fun W => cut_lo16 W (some ⟨b0, o0, none⟩) (n := B.length) (c := oc) (k := 2) (by omega)
      have M2 := Rb.rest16 (k := 2) (by omega)
      obtain ⟨a2, ha2⟩ : ∃ a2, a2 = (if oc = 2 then some (⟨b0, o0, none⟩ : Addr) else (some (⟨b0, o0, none⟩ : Addr)).map (·.add 2)) := ⟨_, rfl⟩
      rw [← ha2] at M2
      simp only [← ha2] at E2
      generalize oc - 2 = c2 at M2 E2
      generalize B.length - 2 = n2 at M2 E2
      clear ha2 Rb
      have lB2 : (B.drop 2).length ≤ 8192 := by rw [List.length_drop]; omega
      go_wp2_with fail
      go_loopw [4, 7, 8] (fun bv ov i wr => ∃ (r : Nat) (L : List ObV) (s : List UInt8) (u : Value), r ≤ C ∧ i = .int .i64 (r : Int) ∧ bv = u ∧ Rd wb u s ∧ OwnO wr wb.heap.size ov L ∧ Hid (unO r (B.drop 2) = some (oL L, s)) ∧ Hid (Below wb.heap.size wb wr) ∧ Hid (∀ c ∈ L, c.o.st.length ≤ 1000000)) (fun _ _ i _ => C - (intOf i).toNat)
      case atStart => exact ⟨0, [], B.drop 2, _, Nat.zero_le _, rfl, rfl, M2, OwnO.nil _ _, rfl, Below.refl _ _, fun c hc => by cases hc⟩
      case round =>
        clear M2 E2
        rename_i wo _ _ _ _
        obtain ⟨r, L, s, u, hr, rfl, rfl, hu, hO, hU, hB, hS⟩ := hrel
        have ls : s.length ≤ 8192 := Nat.le_trans (unO_rest hU.out).1 lB2
        have ll : Hid (L.length = r) := by have := (unO_rest hU.out).2; rwa [oL_length] at this
        obtain ⟨la, lc, rfl⟩ := (hO.rd (by have := ll.out; omega)).form
        obtain ⟨ua, uc, rfl⟩ := hu.form
        have BF := BA.step16 hB.out BA.size
        by_cases hlt : r < C
        · have hlt' : (r : Int) < (C : Int) := by omega
          have NN : Hid (¬ NxO s → ∀ l, ¬ IsP [p, q] l) := fun n l k => by
            have k2 := ((IP.out l).1 k).2.1
            rw [← hC.out] at k2
            exact un_cut hU.out hlt n k2
          by_cases l4 : (s.length : Int) < 4
          · have N : Hid (∀ l, ¬ IsP [p, q] l) := NN.out fun k => by have := k.1; omega
            have FIN : Hid (Below w.heap.size w wr) := BF
            clear hO hU hS hu hB
            exact un_bad
          have KN := rnumL_any (hu.below hB.out) (by omega)
          have vb : Hid (∀ k, (Value.slice la L.length lc).ownBlock = some k → wb.heap.size ≤ k ∧ k < wr.heap.size) := World.ownsRow.lt hO.row
          go_wp2_with fail
          refine KN.mono ?_
          rintro _ w3 ⟨rfl, B3⟩
          clear KN
          obtain ⟨E0, hE0⟩ : ∃ E0 : Nat, Hid (E0 = nu s) := ⟨_, rfl⟩
          have E00 : E0 < 4294967296 := by rw [hE0.out]; exact nu_lt _
          rw [← hE0.out]
          have E4 : ∀ W, (Instr.slice 26 (.slice ua s.length uc) (some (.int .i64 4)) none none).run Try.prog W = _ := fun W => cut_lo16 W ua (n := s.length) (c := uc) (k := 4) (by omega)
          have M4 := hu.rest16 (k := 4) (by omega)
          obtain ⟨a4, ha4⟩ : ∃ a4, a4 = (if uc = 4 then ua else ua.map (·.add 4)) := ⟨_, rfl⟩
          rw [← ha4] at M4
          simp only [← ha4] at E4
          generalize uc - 4 = c4 at M4 E4
          generalize s.length - 4 = n4 at M4 E4
          clear ha4
          have BB3 := hB.out.step16 B3 hB.out.size
          have BF3 := BF.step16 B3 BF.size
          have l5 : (s.drop 4).length ≤ 100000 := by rw [List.length_drop]; omega
          have KX := rnxt16_any (M4.below BB3) l5
          have s3 := B3.size
          have HM4 : Hid (Rd wb (.slice a4 n4 c4) (s.drop 4)) := M4
          have O3 := hO.later B3
          clear M4 hO hu hB B3 BF
          go_wp2_with fail
          refine KX.mono ?_
          rintro _ w5 (⟨hn, c, ra, rm, rq, rfl, hc, hj, hf, Rr, B5⟩ | ⟨hn, k, n, y, va, ra, vn, vc, rm, rq, rfl, B5⟩)
          rotate_left
          · have N : Hid (∀ l, ¬ IsP [p, q] l) := NN.out fun k => hn k.2.1
            have FIN : Hid (Below w.heap.size w (w5.alloc (.cells #[.int .i64 k, .string ⟨y.toArray⟩, .int .i64 n, .slice va vn vc] 25))) := (BF3.step16 B5 BF3.size).step16 (belR _ _) (Nat.le_trans BF3.size B5.size)
            clear KX hn O3 B5 BF3 BB3 NN hU hS
            exact un_bad
          clear KX
          obtain ⟨⟨kd, ky, ln, st⟩, vs⟩ := c
          obtain ⟨va, vc, ev⟩ := hj.rs.form
          simp only at ev hc
          subst ev
          rw [show aggR ⟨⟨kd, ky, ln, st⟩, .slice va st.length vc⟩ = .agg #[.int .i64 kd, .string ⟨ky.toArray⟩, .int .i64 ln, .slice va st.length vc] from rfl]
          have HR : Hid (raR (s.drop 4) = ⟨kd, ky, ln, st⟩) := hc.symm
          have HX : Hid (NxO s ↔ ((E0 : Int) ≤ 2147483647 ∧ kd = 1)) := by
            show _ ↔ _
            unfold NxO
            rw [HR.out, ← hE0.out]
            exact ⟨fun k => ⟨by have := k.2.2.1; omega, k.2.2.2⟩, fun k => ⟨by omega, hn, by omega, k.2⟩⟩
          have HO : Hid (raO s = ⟨ky, ln, (E0 : Int), st⟩) := by
            show _ = _
            unfold raO
            rw [HR.out, ← hE0.out]
          have B6 : Below w5.heap.size w5 (w5.alloc (.cells #[.int .i64 kd, .string ⟨ky.toArray⟩, .int .i64 ln, .slice va st.length vc] 25)) := belR _ _
          have FIN : Hid (Below w.heap.size w (w5.alloc (.cells #[.int .i64 kd, .string ⟨ky.toArray⟩, .int .i64 ln, .slice va st.length vc] 25))) := (BF3.step16 B5 BF3.size).step16 B6 (Nat.le_trans BF3.size B5.size)
          by_cases ge : (E0 : Int) > 2147483647
          · have N : Hid (∀ l, ¬ IsP [p, q] l) := NN.out fun k => by have := (HX.out.1 k).1; omega
            clear hn O3 B5 BF3 BB3 NN hU hS hj hf Rr hc B6
            exact un_bad
          have d1 : decide ((E0 : Int) > 2147483647) = false := decide_eq_false ge
          have d2 : decide (2147483647 < (E0 : Int)) = false := decide_eq_false ge
          by_cases gk : kd = 1
          rotate_left
          · have N : Hid (∀ l, ¬ IsP [p, q] l) := NN.out fun k => gk (HX.out.1 k).2
            clear hn O3 B5 BF3 BB3 NN hU hS hj hf Rr hc B6
            exact un_bad
          subst gk
          have hx : NxO s := HX.out.2 ⟨by omega, rfl⟩
          have HU2 : Hid (unO (r + 1) (B.drop 2) = some (oL (L ++ [⟨⟨ky, ln, (E0 : Int), st⟩, .slice va st.length vc⟩]), reR (s.drop 4))) := by
            show _ = _
            rw [unO_snoc hU.out, if_pos hx, HO.out]
            show some (oL L ++ [_], reR (s.drop 4)) = some ((L ++ [_]).map ObV.o, reR (s.drop 4))
            rw [List.map_append]
            rfl
          have HS2 : Hid (∀ d ∈ L ++ [(⟨⟨ky, ln, (E0 : Int), st⟩, .slice va st.length vc⟩ : ObV)], d.o.st.length ≤ 1000000) := fun d hd => by
            rcases List.mem_append.1 hd with hd | hd
            · exact hS.out d hd
            · simp only [List.mem_singleton] at hd
              subst hd
              have h1 := raO_stU s
              rw [HO.out] at h1
              show st.length ≤ _
              exact Nat.le_trans (Nat.le_of_lt h1) (by decide)
          obtain ⟨w6, hw6⟩ : ∃ w6, w6 = w5.alloc (.cells #[.int .i64 1, .string ⟨ky.toArray⟩, .int .i64 ln, .slice va st.length vc] 25) := ⟨_, rfl⟩
          rw [← hw6] at B6 FIN
          have O6 := O3.later (B5.step16 B6 B5.size)
          have HA : ∀ k, (Value.slice va st.length vc).ownBlock = some k → wb.heap.size ≤ k ∧ k < w6.heap.size ∧ (Value.slice la L.length lc).ownBlock ≠ some k := fun k hk => ⟨by have := (hf k hk).1; have := BB3.size; omega, Nat.lt_of_lt_of_le (hf k hk).2 B6.size, fun e => by have := (hf k hk).1; have := (vb.out k e).2; omega⟩
          have hj6 := hj.below B6
          have OK6 : ObOk w6 ⟨⟨ky, ln, (E0 : Int), st⟩, .slice va st.length vc⟩ := ⟨hj6.wl, wf64 (by show _ ≤ (E0 : Int); omega) (by show (E0 : Int) ≤ _; omega), hj6.ky, hj6.rs, hj6.wi⟩
          have s6 : wb.heap.size ≤ w6.heap.size := Nat.le_trans BB3.size (Nat.le_trans B5.size B6.size)
          have BB6 : Below wb.heap.size wb w6 := (BB3.step16 B5 BB3.size).step16 B6 (Nat.le_trans BB3.size B5.size)
          have RN : Hid (Rd wb (.slice ra rm rq) (reR (s.drop 4))) := Rr wb HM4.out
          have lo := (World.ownsRow.lt O6.row)
          clear hn O3 B5 BF3 BB3 NN hU hS hj hf Rr hc B6 hj6 HX HO HR FIN
          have sz6 : w6.heap.size = w5.heap.size + 1 := by rw [hw6]; simp
          obtain ⟨q1, q2⟩ := two_wrap (n := (E0 : Int)) (by omega) (by omega)
          go_wp2_with (at_builtin; (refine wpList_append_o (w := w6) (c := ⟨⟨ky, ln, (E0 : Int), st⟩, .slice va st.length vc⟩) rfl (.tmp 97) (.tmp 107) rfl rfl rfl O6 OK6 HA rfl (by rw [hw6]; rfl) (by rw [sz6]) (by have := ll.out; omega) s6 ?_); intro v7 w7 o7 G7; have B7 := BB6.grown G7.gr BB6.size (fun q hq => (lo q hq).1); clear G7 O6 OK6 HA BB6 lo)
          clear q1 q2
          have B8 : Hid (Below wb.heap.size wb w7) := B7
          go_roundw
          case rel => exact ⟨r + 1, _, _, _, by omega, by go_num, rfl, RN.out, o7, HU2, B8, HS2⟩
          case measure => simp [intOf]; omega
        · obtain rfl : r = C := by omega
          have hge : ¬ (r : Int) < (r : Int) := by omega
          have RO := hO.rd (by have := ll.out; omega)
          have K := rmay16_any RO (fun i hi => hS.out _ (by rw [List.getD_eq_getElem?_getD, List.getElem?_eq_getElem hi]; exact List.getElem_mem hi))
          have HU : Hid (unO (un B) (B.drop 2) = some (oL L, s)) := by rw [← hC.out]; exact hU
          clear hU hO hu
          go_wp2_with fail
          refine K.mono ?_
          rintro _ w3 ⟨x, rfl, hx, B3⟩
          have HX : Hid (x = true ↔ MayL (oL L)) := hx
          clear K hx
          have FIN : Hid (Below w.heap.size w w3) := BF.step16 B3 BF.size
          have LE : Hid (∀ l, IsP [p, q] l → l = oL L ∧ s = []) := fun l k => by
            have h1 := ((IP.out l).1 k).2.1
            rw [HU.out] at h1
            simp only [Option.some.injEq, Prod.mk.injEq] at h1
            exact ⟨h1.1.symm, h1.2⟩
          cases x with
          | false =>
            have N : Hid (∀ l, ¬ IsP [p, q] l) := fun l k => by
              have h1 := ((IP.out l).1 k).2.2
              rw [(LE.out l k).1] at h1
              have := HX.out.2 h1
              cases this
            clear RO B3 BF
            exact un_bad
          | true =>
            by_cases h0 : (s.length : Int) > 0
            · have N : Hid (∀ l, ¬ IsP [p, q] l) := fun l k => by
                have h1 := (LE.out l k).2
                rw [h1] at h0
                simp at h0
              clear RO B3 BF
              exact un_bad
            · have h00 : s = [] := List.length_eq_zero_iff.1 (by omega)
              have FN : Hid (UnP16 w [p, q] (.returned (.tuple #[.slice la L.length lc, .int .i64 0])) w3) := Or.inl ⟨L, _, (IP.out _).2 ⟨by omega, by rw [HU.out, h00], HX.out.1 rfl⟩, rfl, RO.below B3, FIN.out⟩
              clear RO B3 BF h00
              go_wp2
              exact bodyPost_ret (v := .tuple #[.slice la L.length lc, .int .i64 0]) (by simp [results, Try.results24, go_sem]) rfl FN.out
end Go.Proofs.Ythmoiffkgcnjmaa.Gf
