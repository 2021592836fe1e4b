/- TEXTS JOINED: DkRf, DkRg. -/
import Derived.Test.YtgahaebfgmbckaaGreatTome17
namespace Go.Proofs.YtgahaebfgmbckaaGreat.Gf
set_option linter.unusedVariables false
set_option linter.unusedSimpArgs false
open Go.RowKit
/-- some sectors, one behind another -/
def putsL (f : Int → Option (List UInt8)) (M : List (Int × List UInt8)) : Int → Option (List UInt8) := M.foldl (fun f t => putB f t.1 t.2) f
theorem putsL_none {M : List (Int × List UInt8)} {y : Int} (h : ∀ t ∈ M, t.1 ≠ y) (f : Int → Option (List UInt8)) : putsL f M y = f y := by
  induction M generalizing f with
  | nil => rfl
  | cons t M ih =>
    show putsL (putB f t.1 t.2) M y = f y
    rw [ih (fun u hu => h u (List.mem_cons_of_mem _ hu))]
    exact if_neg (fun e => h t (List.mem_cons_self ..) e.symm)
theorem putsL_some {M : List (Int × List UInt8)} (hs : Sorted12 M) {y : Int} {b : List UInt8} (h : (y, b) ∈ M) (f : Int → Option (List UInt8)) : putsL f M y = some b := by
  induction M generalizing f with
  | nil => cases h
  | cons t M ih =>
    obtain ⟨h1, h2⟩ := List.pairwise_cons.1 hs
    show putsL (putB f t.1 t.2) M y = some b
    rcases List.mem_cons.1 h with e | h3
    · subst e
      rw [putsL_none (fun u hu => by have := h1 u hu; simp at this; omega)]
      exact if_pos rfl
    · exact ih h2 h3 _
theorem puts_all {f : Int → Option (List UInt8)} {g : Int → Option (List UInt8)} {s : Nat} (hg : InS s g) (y : Int) : putsL f (heldL g s) y = overB g f y := by
  unfold overB
  cases hy : g y with
  | some b => exact putsL_some (heldL_sorted g s) (heldL_mem.2 ⟨(hg y b hy).1, (hg y b hy).2.1, hy⟩) f
  | none =>
    refine putsL_none (fun t ht e => ?_) f
    have := (heldL_mem (x := t.1) (b := t.2)).1 ht
    rw [e, hy] at this
    cases this.2.2
theorem held_only (g : Int → Option (List UInt8)) (K : List Int) (s : Nat) : (heldL g s).filter (fun t => decide (t.1 ∈ K)) = heldL (onlyB g K) s := by
  refine sorted_ext ((heldL_sorted g s).filter _) (heldL_sorted _ _) fun z => ?_
  obtain ⟨y, q⟩ := z
  rw [List.mem_filter, heldL_mem, heldL_mem]
  unfold onlyB
  by_cases h : y ∈ K
  · simp [h]
  · simp [h]
theorem puts_snoc (f : Int → Option (List UInt8)) (M : List (Int × List UInt8)) (t : Int × List UInt8) : putsL f (M ++ [t]) = putB (putsL f M) t.1 t.2 := by unfold putsL; rw [List.foldl_append]; rfl
theorem take_snoc {M : List (Int × List UInt8)} {i : Nat} (h : i < M.length) : M.take (i + 1) = M.take i ++ [M[i]] := by rw [List.take_add_one, List.getElem?_eq_getElem h]; rfl
section
variable {w w' : World} {rb : Nat} {vl vw : Value} {Tl Tw : List TH} {H : Nat → Prop} {d : DkS}
/-- the document's loop over what waits, under way -/
def FlR (w0 : World) (rb : Nat) (vw : Value) (Tw : List TH) (H : Nat → Prop) (d : DkS) (f : Int → Option (List UInt8)) (wr : World) : Prop := ∃ vl Tl, RefIn wr rb vl vw Tl Tw H { d with last := f } ∧ TurnG (fun k => k = rb) w0 wr
theorem RefIn.entry (h : RefIn w rb vl vw Tl Tw H d) {i : Nat} (hi : i < Tw.length) : ∃ hi2 : i < (heldL d.wait d.s).length, (heldL d.wait d.s)[i] = ((Tw.getD i default).1, (Tw.getD i default).2.1) ∧ 0 ≤ (Tw.getD i default).1 ∧ (Tw.getD i default).1 < (d.s : Int) := by
  have hi2 : i < (heldL d.wait d.s).length := by rw [← h.ew, bareT_length]; exact hi
  have hi3 : i < (bareT Tw).length := by rw [bareT_length]; exact hi
  have e : (heldL d.wait d.s)[i] = (bareT Tw)[i] := by simp only [h.ew]
  rw [bare_at hi3] at e
  have hm : ((Tw.getD i default).1, (Tw.getD i default).2.1) ∈ heldL d.wait d.s := by rw [← e]; exact List.getElem_mem hi2
  have := heldL_mem.1 hm
  exact ⟨hi2, e, this.1, this.2.1⟩
set_option maxRecDepth 100000 in
set_option maxHeartbeats 1000000 in
theorem rflush_any (h : RefIn w rb vl vw Tl Tw H d) (ok : d.Ok) : Calls Tryz.prog 85 #[.pointer (some ⟨rb, 0, none⟩)] w (LeavesR w rb H (flS d) (.int .i64 (flX d))) := by
  have c3 := h.c3
  cases hd : d.dead with
  | true =>
    have e1 : flX d = 120 := if_pos hd
    have FIN : Hid (RefAt w rb H (flS d) ∧ TurnG (fun k => k = rb) w w) := by
      show _ ∧ _
      rw [show flS d = d from if_pos hd]
      exact ⟨⟨_, _, _, _, h⟩, TurnG.refl _ _⟩
    rw [hd] at c3
    rw [e1]
    clear e1 h
    go_enter Tryz.func85, Tryz.ntmps85
    go_wp2
    go_ret
    exact ⟨rfl, FIN.out⟩
  | false =>
    have e1 : flX d = 0 := by unfold flX; rw [if_neg (by rw [hd]; decide)]
    rw [hd] at c3
    rw [e1]
    have START : Hid (FlR w rb vw Tw H d (putsL d.last ((heldL d.wait d.s).take 0)) w) := ⟨vl, Tl, h, TurnG.refl _ _⟩
    have ENT : Hid (∀ i, i < Tw.length → ∃ hi2 : i < (heldL d.wait d.s).length, (heldL d.wait d.s)[i] = ((Tw.getD i default).1, (Tw.getD i default).2.1) ∧ 0 ≤ (Tw.getD i default).1 ∧ (Tw.getD i default).1 < (d.s : Int)) := fun i hi => h.entry hi
    have hlw := h.len_w
    obtain ⟨aw, cw, rfl⟩ := h.tw.rd.form
    have hel : Hid (Tw.length = (heldL d.wait d.s).length) := by show _ = _; rw [← h.ew, bareT_length]
    clear h
    go_enter Tryz.func85, Tryz.ntmps85
    go_wp2
    go_loopw [3] (fun i wr => ∃ k : Nat, k ≤ Tw.length ∧ i = .int .i64 (k : Int) ∧ FlR w rb (.slice aw Tw.length cw) Tw H d (putsL d.last ((heldL d.wait d.s).take k)) wr) (fun i _ => Tw.length - (intOf i).toNat)
    case atStart => exact ⟨0, Nat.zero_le _, rfl, START.out⟩
    case round =>
      obtain ⟨k, hk, rfl, vl, Tl, hI, hT⟩ := hrel
      clear START
      have c2 := hI.c2
      by_cases hlt : k < Tw.length
      · have hlt' : (k : Int) < (Tw.length : Int) := by omega
        have g1 : IntKind.i64.wrap ((k : Int) + 1) = ((k + 1 : Nat) : Int) := by rw [IntKind.wrap_i64]; omega
        obtain ⟨hi2, e2, e3, e4⟩ := ENT.out k hlt
        obtain ⟨b, off, rfl, x0, x1, r1⟩ := hI.tw.rd.at hlt
        have c1 := hI.c1
        have f1 := hI.f1
        have HN : Hid (putB (putsL d.last ((heldL d.wait d.s).take k)) (Tw.getD k default).1 (Tw.getD k default).2.1 = putsL d.last ((heldL d.wait d.s).take (k + 1))) := by
          show _ = _
          rw [take_snoc hi2, puts_snoc, e2]
        have tm := getD_mem12 hlt
        have TB : Told wr H (Tw.getD k default).2.2 (Tw.getD k default).2.1 := ⟨r1, hI.tw.each _ tm⟩
        obtain ⟨f, hf⟩ : ∃ f, f = putsL d.last ((heldL d.wait d.s).take k) := ⟨_, rfl⟩
        rw [← hf] at hI HN
        obtain ⟨t, ht⟩ : ∃ t, t = Tw.getD k default := ⟨_, rfl⟩
        rw [← ht] at x0 x1 TB HN e3 e4
        obtain ⟨q1, q2, q3⟩ := t
        simp only at x0 x1 TB e3 e4
        obtain ⟨qa, qc, rfl⟩ := TB.rd.form
        obtain ⟨al, cl, rfl⟩ := hI.tl.rd.form
        clear r1 e2 hf ht tm c3
        have bD : Below wr.heap.size wr wr.drew := (Below.refl _ _).drew
        have I0 := hI.below bD
        have TB0 := TB.below bD
        have hTl : Hid (TurnG (fun k => k = rb) w wr) := hT
        clear hT
        go_wp2_with fail
        go_region_law (first
          | (go_simp; go_at_call 104; (refine (with_is I0.tl I0.kl I0.el I0.s2 I0.lt e3 e4 TB0).mono ?_); rintro _ w5 ⟨v5, T5, rfl, t5, k5, e5, b5⟩; have I5 := I0.below b5; have c15 := I5.c1; have f15 := I5.f1; have I6 := I5.setL t5 k5 e5; have B5 := bD.step12 b5 bD.size; obtain ⟨a5, m5, rfl⟩ := t5.rd.form; dsimp only))
        all_goals
          have E3 : Hid (FlR w rb (.slice (some ⟨b, off, none⟩) Tw.length cw) Tw H d (putsL d.last ((heldL d.wait d.s).take (k + 1))) (w5.setCell ⟨rb, 1, none⟩ (.slice a5 T5.length m5))) := ⟨_, _, by rw [← HN.out]; exact I6, (hTl.out.trans (Below.turnG B5 _)).trans (turnR_set 1 _)⟩
          clear I6 c15 f15 I5 b5 t5 k5 e5 B5 I0 TB0 hI TB x0 x1 c1 f1 c2 bD hTl HN
          go_wp2
          go_roundw
          case rel => exact ⟨k + 1, by omega, by go_num, E3.out⟩
          case measure => simp [intOf]; omega
      · have hge : ¬ (k : Int) < (Tw.length : Int) := by omega
        have hk' : k = Tw.length := by omega
        have f2 := hI.f2
        have I6 := hI.setW (told_nil _ H) cap_nil (f := noneI) (by rw [heldL_none]; rfl)
        have eS : ({ ({ d with last := putsL d.last ((heldL d.wait d.s).take k) } : DkS) with wait := noneI } : DkS) = flS d := by
          rw [hk', hel.out, List.take_length]
          unfold flS
          rw [if_neg (by rw [hd]; decide), DkS.mk.injEq]
          exact ⟨rfl, funext fun y => puts_all ok.iw y, rfl, rfl⟩
        have FIN : Hid (RefAt (wr.setCell ⟨rb, 2, none⟩ (.slice none 0 0)) rb H (flS d) ∧ TurnG (fun k => k = rb) w (wr.setCell ⟨rb, 2, none⟩ (.slice none 0 0))) := ⟨⟨_, _, _, _, by rw [← eS]; exact I6⟩, hT.trans (turnR_set 2 _)⟩
        clear I6 eS hI hT ENT hel hk' c3
        go_wp2
        go_ret
        exact ⟨rfl, FIN.out⟩
set_option maxRecDepth 100000 in
set_option maxHeartbeats 2000000 in
theorem rcrash_any (h : RefIn w rb vl vw Tl Tw H d) (ok : d.Ok) {v : Value} {K : List Int} (hK : RdI w v K) (hA : ApartG (fun k => k = rb) v) (hl : K.length ≤ 9223372036854775807) : Calls Tryz.prog 87 #[.pointer (some ⟨rb, 0, none⟩), v] w (LeavesR w rb H (crS d K) (.tuple #[])) := by
  obtain ⟨ad, cp, rfl⟩ := hK.form
  have START : Hid (FlR w rb vw Tw H d (putsL d.last (((heldL d.wait d.s).take 0).filter (fun t => decide (t.1 ∈ K)))) w) := ⟨vl, Tl, h, TurnG.refl _ _⟩
  have ENT : Hid (∀ i, i < Tw.length → ∃ hi2 : i < (heldL d.wait d.s).length, (heldL d.wait d.s)[i] = ((Tw.getD i default).1, (Tw.getD i default).2.1) ∧ 0 ≤ (Tw.getD i default).1 ∧ (Tw.getD i default).1 < (d.s : Int)) := fun i hi => h.entry hi
  have hcell : Hid (∀ W, TurnG (fun k => k = rb) w W → ∀ k, k < K.length → ∃ b o, ad = some ⟨b, o, none⟩ ∧ W.cell? ⟨b, o + k, none⟩ = some (.int .i64 (K.getD k 0))) := by
    intro W hW k hk
    rcases hK with ⟨_, _, h1, _⟩ | ⟨b, o, c, h1, h2, h3, h4, h5⟩
    · rw [h1] at hk; simp at hk
    · have e : ad = some ⟨b, o, none⟩ := by simp at h2; exact h2.1
      refine ⟨b, o, e, ?_⟩
      rw [← h5 k hk]
      refine hW.cell (p := ⟨b, o + k, none⟩) h4 ?_
      rcases hA _ _ _ h2 with h6 | h6
      · omega
      · exact h6
  have hlw := h.len_w
  obtain ⟨aw, cw, rfl⟩ := h.tw.rd.form
  have hel : Hid (Tw.length = (heldL d.wait d.s).length) := by show _ = _; rw [← h.ew, bareT_length]
  clear h hK hA
  go_enter Tryz.func87, Tryz.ntmps87
  go_wp2
  go_loopw [4] (fun i wr => ∃ k : Nat, k ≤ Tw.length ∧ i = .int .i64 (k : Int) ∧ FlR w rb (.slice aw Tw.length cw) Tw H d (putsL d.last (((heldL d.wait d.s).take k).filter (fun t => decide (t.1 ∈ K)))) wr) (fun i _ => Tw.length - (intOf i).toNat)
  case atStart => exact ⟨0, Nat.zero_le _, rfl, START.out⟩
  case round =>
    obtain ⟨k, hk, rfl, vl, Tl, hI, hT⟩ := hrel
    clear START
    have c2 := hI.c2
    by_cases hlt : k < Tw.length
    · have hlt' : (k : Int) < (Tw.length : Int) := by omega
      have g1 : IntKind.i64.wrap ((k : Int) + 1) = ((k + 1 : Nat) : Int) := by rw [IntKind.wrap_i64]; omega
      obtain ⟨hi2, e2, e3, e4⟩ := ENT.out k hlt
      obtain ⟨b, off, rfl, x0, x1, r1⟩ := hI.tw.rd.at hlt
      have HN : Hid (putsL d.last (((heldL d.wait d.s).take (k + 1)).filter (fun t => decide (t.1 ∈ K))) = if (Tw.getD k default).1 ∈ K then putB (putsL d.last (((heldL d.wait d.s).take k).filter (fun t => decide (t.1 ∈ K)))) (Tw.getD k default).1 (Tw.getD k default).2.1 else putsL d.last (((heldL d.wait d.s).take k).filter (fun t => decide (t.1 ∈ K)))) := by
        show _ = _
        rw [take_snoc hi2, List.filter_append, e2]
        by_cases hm : (Tw.getD k default).1 ∈ K
        · rw [if_pos hm, List.filter_cons_of_pos (by simpa using hm), List.filter_nil, puts_snoc]
        · rw [if_neg hm, List.filter_cons_of_neg (by simpa using hm), List.filter_nil, List.append_nil]
      have tm := getD_mem12 hlt
      have TB : Told wr H (Tw.getD k default).2.2 (Tw.getD k default).2.1 := ⟨r1, hI.tw.each _ tm⟩
      obtain ⟨f, hf⟩ : ∃ f, f = putsL d.last (((heldL d.wait d.s).take k).filter (fun t => decide (t.1 ∈ K))) := ⟨_, rfl⟩
      rw [← hf] at hI HN
      obtain ⟨t, ht⟩ : ∃ t, t = Tw.getD k default := ⟨_, rfl⟩
      rw [← ht] at x0 x1 TB HN e3 e4
      obtain ⟨q1, q2, q3⟩ := t
      simp only at x0 x1 TB e3 e4 HN
      obtain ⟨qa, qc, rfl⟩ := TB.rd.form
      obtain ⟨al, cl, rfl⟩ := hI.tl.rd.form
      obtain ⟨wo, hwo⟩ : ∃ x, x = wr := ⟨wr, rfl⟩
      subst hwo
      have hck : Hid (∀ k, k < K.length → ∃ b o, ad = some ⟨b, o, none⟩ ∧ wo.cell? ⟨b, o + k, none⟩ = some (.int .i64 (K.getD k 0))) := hcell.out _ hT
      have hTl : Hid (TurnG (fun k => k = rb) w wo) := hT
      have HI : Hid (RefIn wo rb (.slice al Tl.length cl) (.slice (some ⟨b, off, none⟩) Tw.length cw) Tl Tw H { d with last := f }) := hI
      have HTB : Hid (Told wo H (.slice qa q2.length qc) q2) := TB
      clear r1 e2 hf ht tm hT hI TB
      go_wp2
      go_loopw [5, 6] (fun kp i wx => ∃ j : Nat, j ≤ K.length ∧ i = .int .i64 (j : Int) ∧ kp = .bool (decide (q1 ∈ K.take j)) ∧ ∃ m, Hid (wx = wo.drewN m)) (fun _ i _ => K.length - (intOf i).toNat)
      case atStart => exact ⟨0, Nat.zero_le _, rfl, by simp, 0, rfl⟩
      case round =>
        obtain ⟨j, hj, rfl, rfl, m, hwx⟩ := hrel
        have z2 : wr.cell? ⟨rb, 2, none⟩ = some (.slice (some ⟨b, off, none⟩) Tw.length cw) := by rw [hwx.out]; exact c2
        have z0 : wr.cell? ⟨b, off + k * 2, none⟩ = some (.int .i64 q1) := by rw [hwx.out]; exact x0
        have z1 : wr.cell? ⟨b, off + k * 2 + 1, none⟩ = some (.slice qa q2.length qc) := by rw [hwx.out]; exact x1
        by_cases hjl : j < K.length
        · have hjl' : (j : Int) < (K.length : Int) := by omega
          have g2 : IntKind.i64.wrap ((j : Int) + 1) = ((j + 1 : Nat) : Int) := by rw [IntKind.wrap_i64]; omega
          obtain ⟨bk, okk, rfl, cj⟩ := hck.out j hjl
          have cj' : wr.cell? ⟨bk, okk + j, none⟩ = some (.int .i64 (K.getD j 0)) := by rw [hwx.out]; exact cj
          have M := mem_take hjl q1
          have HM : Hid (decide (q1 ∈ K.take (j + 1)) = (decide (q1 ∈ K.take j) || (K.getD j 0 == q1))) := M
          clear M hck cj c2 x0 x1
          cases hm : decide (q1 ∈ K.take j) with
          | true =>
            rw [hm] at HM
            go_wp2
            go_quiet (fail)
            go_wp2
            go_roundw
            case rel => exact ⟨j + 1, by omega, by go_num, by rw [HM.out]; rfl, _, by show _ = _; rw [hwx.out, World.drewN_drewN]⟩
            case measure => simp [intOf]; omega
          | false =>
            rw [hm] at HM
            obtain ⟨z, hz⟩ : ∃ z, z = K.getD j 0 := ⟨_, rfl⟩
            rw [← hz] at cj' HM
            clear hz
            cases hq : (z == q1) with
            | true =>
              rw [hq] at HM
              have hq' := beq_iff_eq.1 hq
              go_wp2
              go_quiet (fail)
              go_wp2
              go_roundw
              case rel => exact ⟨j + 1, by omega, by go_num, by rw [HM.out]; simp [hq'], _, by show _ = _; rw [hwx.out, World.drewN_drewN]⟩
              case measure => simp [intOf]; omega
            | false =>
              rw [hq] at HM
              go_wp2
              go_quiet (fail)
              go_wp2
              go_roundw
              case rel => exact ⟨j + 1, by omega, by go_num, by rw [HM.out]; rfl, _, by show _ = _; rw [hwx.out, World.drewN_drewN]⟩
              case measure => simp [intOf]; omega
        · have hjl' : ¬ (j : Int) < (K.length : Int) := by omega
          have hjK : j = K.length := by omega
          rw [hjK, List.take_length]
          rw [hjK] at hjl'
          clear hjK hjl hj hck
          have bW : Below wo.heap.size wo wr := by rw [hwx.out]; exact (Below.refl _ _).drewN _
          have I1 := HI.out.below bW
          have TB := HTB.out.below bW
          have hT1 := hTl.out.trans (Below.turnG bW _)
          have hTw : Hid (TurnG (fun k => k = rb) w wr) := hT1
          clear hT1 hTl HI HTB hwx bW c2 x0 x1
          by_cases hm : q1 ∈ K
          · rw [decide_eq_true hm]
            rw [if_pos hm] at HN
            have c1 := I1.c1
            have f1 := I1.f1
            have bD : Below wr.heap.size wr wr.drew := (Below.refl _ _).drew
            have I0 := I1.below bD
            have TB0 := TB.below bD
            go_wp2_with fail
            go_region_law (first
              | (go_simp; go_at_call 104; (refine (with_is I0.tl I0.kl I0.el I0.s2 I0.lt e3 e4 TB0).mono ?_); rintro _ w5 ⟨v5, T5, rfl, t5, k5, e5, b5⟩; have I5 := I0.below b5; have c15 := I5.c1; have f15 := I5.f1; have I6 := I5.setL t5 k5 e5; have B5 := bD.step12 b5 bD.size; obtain ⟨a5, m5, rfl⟩ := t5.rd.form; dsimp only))
            all_goals
              have E3 : Hid (FlR w rb (.slice (some ⟨b, off, none⟩) Tw.length cw) Tw H d (putsL d.last (((heldL d.wait d.s).take (k + 1)).filter (fun t => decide (t.1 ∈ K)))) (w5.setCell ⟨rb, 1, none⟩ (.slice a5 T5.length m5))) := ⟨_, _, by rw [HN.out]; exact I6, (hTw.out.trans (Below.turnG B5 _)).trans (turnR_set 1 _)⟩
              clear I6 c15 f15 I5 b5 t5 k5 e5 B5 I0 TB0 I1 TB z0 z1 z2 c1 f1 bD hTw HN
              go_wp2
              go_roundw
              case rel => exact ⟨k + 1, by omega, by go_num, E3.out⟩
              case measure => simp [intOf]; omega
          · rw [decide_eq_false hm]
            rw [if_neg hm] at HN
            have E3 : Hid (FlR w rb (.slice (some ⟨b, off, none⟩) Tw.length cw) Tw H d (putsL d.last (((heldL d.wait d.s).take (k + 1)).filter (fun t => decide (t.1 ∈ K)))) wr) := ⟨_, _, by rw [HN.out]; exact I1, hTw.out⟩
            clear I1 TB z0 z1 z2 hTw HN
            go_wp2
            go_roundw
            case rel => exact ⟨k + 1, by omega, by go_num, E3.out⟩
            case measure => simp [intOf]; omega
    · have hge : ¬ (k : Int) < (Tw.length : Int) := by omega
      have hk' : k = Tw.length := by omega
      have f2 := hI.f2
      have I6 := hI.setW (told_nil _ H) cap_nil (f := noneI) (by rw [heldL_none]; rfl)
      have eS : ({ ({ d with last := putsL d.last (((heldL d.wait d.s).take k).filter (fun t => decide (t.1 ∈ K))) } : DkS) with wait := noneI } : DkS) = crS d K := by
        rw [hk', hel.out, List.take_length, held_only]
        unfold crS
        rw [DkS.mk.injEq]
        exact ⟨rfl, funext fun y => puts_all (onlyB_in ok.iw K) y, rfl, rfl⟩
      have FIN : Hid (RefAt (wr.setCell ⟨rb, 2, none⟩ (.slice none 0 0)) rb H (crS d K) ∧ TurnG (fun k => k = rb) w (wr.setCell ⟨rb, 2, none⟩ (.slice none 0 0))) := ⟨⟨_, _, _, _, by rw [← eS]; exact I6⟩, hT.trans (turnR_set 2 _)⟩
      clear I6 eS hI hT ENT hel hk' hcell
      go_wp2
      go_end0
      exact ⟨rfl, FIN.out⟩
end
end Go.Proofs.YtgahaebfgmbckaaGreat.Gf

namespace Go.Proofs.YtgahaebfgmbckaaGreat.Gf
set_option linter.unusedVariables false
set_option linter.unusedSimpArgs false
open Go.RowKit
section
variable {w w' : World} {rb : Nat} {vl vw : Value} {Tl Tw : List TH} {H : Nat → Prop} {d : DkS}
set_option maxRecDepth 100000 in
set_option maxHeartbeats 2000000 in
theorem rcorr_any (h : RefIn w rb vl vw Tl Tw H d) (ok : d.Ok) {a at_ : Int} (hat : (Lit.int .i64 at_).wf = true) (y : UInt8) :
    Calls Tryz.prog 92 #[.pointer (some ⟨rb, 0, none⟩), .int .i64 a, .int .i64 at_, .int .u8 ((y.toNat : Nat) : Int)] w (LeavesR w rb H (coS d a at_ y) (.int .i64 (coX d a))) := by
  have K := rfault_any h (a := a)
  have KW := find_any h.tw.rd (x := a)
  have KL := find_any h.tl.rd (x := a)
  obtain ⟨LW, LL⟩ := ref_look h ok a
  by_cases hf : faX d a = 0
  · rw [hf] at K
    obtain ⟨fz1, fz2, fz3⟩ := faX_zero hf
    obtain ⟨aw, cw, rfl⟩ := h.tw.rd.form
    obtain ⟨al, cl, rfl⟩ := h.tl.rd.form
    have c1 := h.c1
    have c2 := h.c2
    cases hw : d.wait a with
    | some p =>
      rw [hw] at LW
      have eX : coX d a = 0 := by unfold coX atD; rw [if_pos hf, hw]; rfl
      have eS : coS d a at_ y = { d with wait := putB d.wait a (chB p at_ y) } := by unfold coS; rw [if_pos hf, hw]
      rw [eX]
      go_enter Tryz.func92, Tryz.ntmps92
      go_wp2_with fail
      refine K.mono ?_
      rintro _ wq ⟨rfl, hwq⟩
      rw [hwq]
      clear hwq wq K
      go_wp2_with fail
      refine KW.mono ?_
      rintro _ wq ⟨hwq, ⟨rfl, e1⟩ | ⟨k, rfl, hk, e1⟩⟩
      · rw [LW] at e1; cases e1
      · rw [hwq]
        rw [LW] at e1
        have hpin := ok.iw a p hw
        obtain ⟨b, off, rfl, x0, x1, r1⟩ := h.tw.rd.at hk
        have hkw := h.len_w
        have hk' : (k : Int) < (Tw.length : Int) := by omega
        have hk0 : (k : Int) ≥ 0 := by omega
        have hk1 : ¬ (k : Int) < 0 := by omega
        have e2 : (Tw.getD k default).2.1 = p := by simpa using e1.symm
        rw [e2] at r1
        obtain ⟨t3, ht3⟩ : ∃ t, t = (Tw.getD k default).2.2 := ⟨_, rfl⟩
        rw [← ht3] at x1 r1
        obtain ⟨ta, tc, rfl⟩ := r1.form
        have bD : Below w.heap.size w w.drew := (Below.refl _ _).drew
        have I0 := h.below bD
        have r0 := r1.below bD
        have z2 := I0.c2
        have z1 := I0.c1
        have HES : Hid _ := eS
        have FH : Hid (∀ k, H k → k < w.heap.size) := h.lt
        clear LW LL ht3 e1 e2 hwq wq KW eS
        go_wp2_with fail
        go_region_law (first
          | (go_simp; go_at_call 109; (refine (changed_any r0 hpin.2.2.1 (by omega) hat y).mono ?_); rintro _ w4 ⟨v4, rfl, O4, b4⟩; have I4 := I0.below b4; have c24 := I4.c2; have c14 := I4.c1; have O4' : w4.ownsRow w.drew.heap.size 5 1 v4 (chB p at_ y).length ((chB p at_ y).map vb) := (by rw [chB_length]; exact O4); have T4 : Told w4 H v4 (chB p at_ y) := ⟨Rd.owned O4', ApartG.own O4' FH.out⟩; obtain ⟨a4, k4, rfl⟩ := owns_slice O4; dsimp only)
          | (go_simp; go_at_call 104; (refine (with_is I4.tw I4.kw I4.ew I4.s2 I4.lt fz2 fz3 T4).mono ?_); rintro _ w5 ⟨v5, T5, rfl, t5, k5, e5, b5⟩; have I5 := I4.below b5; have c25 := I5.c2; have f25 := I5.f2; have c15 := I5.c1; have f15 := I5.f1; have I6 := I5.setW t5 k5 e5; have B5 := (bD.step12 b4 bD.size).step12 b5 (bD.step12 b4 bD.size).size; obtain ⟨a5, m5, rfl⟩ := t5.rd.form; dsimp only))
        all_goals
          have FIN : Hid (RefAt (w5.setCell ⟨rb, 2, none⟩ (.slice a5 T5.length m5)) rb H (coS d a at_ y) ∧ TurnG (fun k => k = rb) w (w5.setCell ⟨rb, 2, none⟩ (.slice a5 T5.length m5))) := ⟨⟨_, _, _, _, by rw [HES.out]; exact I6⟩, (Below.turnG B5 _).trans (turnR_set 2 _)⟩
          clear I6 c15 f15 c25 f25 I5 b5 t5 k5 e5 B5 I4 c24 c14 O4 O4' T4 b4 I0 r0 r1 h x0 x1 bD HES FH
          go_wp2
          go_ret
          exact ⟨rfl, FIN.out⟩
    | none =>
      rw [hw] at LW
      cases hl : d.last a with
      | some p =>
        rw [hl] at LL
        have eX : coX d a = 0 := by unfold coX atD; rw [if_pos hf, hw, hl]; rfl
        have eS : coS d a at_ y = { d with last := putB d.last a (chB p at_ y) } := by unfold coS; rw [if_pos hf, hw, hl]
        rw [eX]
        go_enter Tryz.func92, Tryz.ntmps92
        go_wp2_with fail
        refine K.mono ?_
        rintro _ wq ⟨rfl, hwq⟩
        rw [hwq]
        clear hwq wq K
        go_wp2_with fail
        refine KW.mono ?_
        rintro _ wq ⟨hwq, ⟨rfl, e1⟩ | ⟨k, rfl, hk, e1⟩⟩
        · rw [hwq]
          clear hwq wq KW e1
          go_wp2_with fail
          refine KL.mono ?_
          rintro _ wq ⟨hwq, ⟨rfl, e1⟩ | ⟨k, rfl, hk, e1⟩⟩
          · rw [LL] at e1; cases e1
          · rw [hwq]
            rw [LL] at e1
            have hpin := ok.il a p hl
            have KW := KL
            obtain ⟨b, off, rfl, x0, x1, r1⟩ := h.tl.rd.at hk
            have hkw := h.len_l
            have hk' : (k : Int) < (Tl.length : Int) := by omega
            have hk0 : (k : Int) ≥ 0 := by omega
            have hk1 : ¬ (k : Int) < 0 := by omega
            have e2 : (Tl.getD k default).2.1 = p := by simpa using e1.symm
            rw [e2] at r1
            obtain ⟨t3, ht3⟩ : ∃ t, t = (Tl.getD k default).2.2 := ⟨_, rfl⟩
            rw [← ht3] at x1 r1
            obtain ⟨ta, tc, rfl⟩ := r1.form
            have bD : Below w.heap.size w w.drew := (Below.refl _ _).drew
            have I0 := h.below bD
            have r0 := r1.below bD
            have z2 := I0.c2
            have z1 := I0.c1
            have HES : Hid _ := eS
            have FH : Hid (∀ k, H k → k < w.heap.size) := h.lt
            clear LW LL ht3 e1 e2 hwq wq KW eS
            go_wp2_with fail
            go_region_law (first
              | (go_simp; go_at_call 109; (refine (changed_any r0 hpin.2.2.1 (by omega) hat y).mono ?_); rintro _ w4 ⟨v4, rfl, O4, b4⟩; have I4 := I0.below b4; have c24 := I4.c2; have c14 := I4.c1; have O4' : w4.ownsRow w.drew.heap.size 5 1 v4 (chB p at_ y).length ((chB p at_ y).map vb) := (by rw [chB_length]; exact O4); have T4 : Told w4 H v4 (chB p at_ y) := ⟨Rd.owned O4', ApartG.own O4' FH.out⟩; obtain ⟨a4, k4, rfl⟩ := owns_slice O4; dsimp only)
              | (go_simp; go_at_call 104; (refine (with_is I4.tl I4.kl I4.el I4.s2 I4.lt fz2 fz3 T4).mono ?_); rintro _ w5 ⟨v5, T5, rfl, t5, k5, e5, b5⟩; have I5 := I4.below b5; have c25 := I5.c2; have f25 := I5.f2; have c15 := I5.c1; have f15 := I5.f1; have I6 := I5.setL t5 k5 e5; have B5 := (bD.step12 b4 bD.size).step12 b5 (bD.step12 b4 bD.size).size; obtain ⟨a5, m5, rfl⟩ := t5.rd.form; dsimp only))
            all_goals
              have FIN : Hid (RefAt (w5.setCell ⟨rb, 1, none⟩ (.slice a5 T5.length m5)) rb H (coS d a at_ y) ∧ TurnG (fun k => k = rb) w (w5.setCell ⟨rb, 1, none⟩ (.slice a5 T5.length m5))) := ⟨⟨_, _, _, _, by rw [HES.out]; exact I6⟩, (Below.turnG B5 _).trans (turnR_set 1 _)⟩
              clear I6 c15 f15 c25 f25 I5 b5 t5 k5 e5 B5 I4 c24 c14 O4 O4' T4 b4 I0 r0 r1 h x0 x1 bD HES FH
              go_wp2
              go_ret
              exact ⟨rfl, FIN.out⟩
        · rw [LW] at e1; cases e1
      | none =>
        rw [hl] at LL
        have eX : coX d a = 1 := by unfold coX atD; rw [if_pos hf, hw, hl]; rfl
        have eS : coS d a at_ y = d := by unfold coS; rw [if_pos hf, hw, hl]
        have FIN : Hid (RefAt w rb H (coS d a at_ y) ∧ TurnG (fun k => k = rb) w w) := by
          show _ ∧ _
          rw [eS]
          exact ⟨⟨_, _, _, _, h⟩, TurnG.refl _ _⟩
        rw [eX]
        go_enter Tryz.func92, Tryz.ntmps92
        go_wp2_with fail
        refine K.mono ?_
        rintro _ wq ⟨rfl, hwq⟩
        rw [hwq]
        clear hwq wq K
        go_wp2_with fail
        refine KW.mono ?_
        rintro _ wq ⟨hwq, ⟨rfl, e1⟩ | ⟨k, rfl, hk, e1⟩⟩
        · rw [hwq]
          clear hwq wq KW e1
          go_wp2_with fail
          refine KL.mono ?_
          rintro _ wq ⟨hwq, ⟨rfl, e1⟩ | ⟨k, rfl, hk, e1⟩⟩
          · rw [hwq]
            clear hwq wq KL e1 h
            go_wp2
            go_ret
            exact ⟨rfl, FIN.out⟩
          · rw [LL] at e1; cases e1
        · rw [LW] at e1; cases e1
  · have eX : coX d a = faX d a := by unfold coX; rw [if_neg hf]
    have eS : coS d a at_ y = d := by unfold coS; rw [if_neg hf]
    have FIN : Hid (RefAt w rb H (coS d a at_ y) ∧ TurnG (fun k => k = rb) w w) := by
      show _ ∧ _
      rw [eS]
      exact ⟨⟨_, _, _, _, h⟩, TurnG.refl _ _⟩
    rw [eX]
    obtain ⟨x, hx⟩ : ∃ x, x = faX d a := ⟨_, rfl⟩
    rw [← hx] at hf K ⊢
    clear eX eS h hx KW KL
    have q1 : (x == 0) = false := beq_eq_false_iff_ne.2 hf
    go_enter Tryz.func92, Tryz.ntmps92
    go_wp2_with fail
    refine K.mono ?_
    rintro _ wq ⟨rfl, hwq⟩
    rw [hwq]
    clear hwq wq K
    go_wp2
    go_ret
    exact ⟨rfl, FIN.out⟩
end
end Go.Proofs.YtgahaebfgmbckaaGreat.Gf
