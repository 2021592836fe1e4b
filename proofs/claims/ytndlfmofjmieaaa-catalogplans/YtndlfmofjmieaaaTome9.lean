/- TEXTS JOINED: CtCE, CtCF. -/
import Derived.Test.YtndlfmofjmieaaaTome7
import Derived.Test.YtndlfmofjmieaaaTome8
namespace Go.Proofs.Ytndlfmofjmieaaa.Gf
set_option linter.unusedVariables false
set_option linter.unusedSimpArgs false
open Go.RowKit
theorem fit_take {g : GeoS} {L : List ObS} {st : List Int} {n r : Nat} (hn : g.s = (n : Int)) (h0 : 0 ≤ st.getD r 0) (hr : r < st.length) : tkX (fun j => (owK L (j : Int)).isSome || decide ((j : Int) ∈ st.take r)) n (st.getD r 0) = true ↔ fitI g L st r := by
  unfold tkX fitI
  have e : ((st.getD r 0).toNat : Int) = st.getD r 0 := by omega
  show (decide (0 ≤ st.getD r 0 ∧ st.getD r 0 < (n : Int)) && !((owK L (((st.getD r 0).toNat : Nat) : Int)).isSome || decide ((((st.getD r 0).toNat : Nat) : Int) ∈ st.take r))) = true ↔ _
  rw [e, hn]
  have m : st.getD r 0 ∈ st.take r ↔ ∃ k, k < r ∧ st.getD k 0 = st.getD r 0 := by
    rw [List.mem_take_iff_getElem]
    constructor
    · rintro ⟨i, hi, q⟩
      exact ⟨i, by omega, by rw [← q]; simp [List.getD, show i < st.length by omega]⟩
    · rintro ⟨k, hk, q⟩
      exact ⟨k, by omega, by rw [← q]; simp [List.getD, show k < st.length by omega]⟩
  simp only [Bool.and_eq_true, decide_eq_true_eq, Bool.not_eq_true', Bool.or_eq_false_iff, decide_eq_false_iff_not, Option.isSome_eq_false_iff, Option.isNone_iff_eq_none, m]
  constructor
  · rintro ⟨⟨a, b⟩, c, d⟩
    exact ⟨c, b, fun k hk q => d ⟨k, hk, q⟩⟩
  · rintro ⟨c, b, d⟩
    exact ⟨⟨h0, b⟩, c, fun ⟨k, hk, q⟩ => d k hk q⟩
set_option maxRecDepth 100000 in
set_option maxHeartbeats 4000000 in
theorem cfits19_any {w : World} {cb mb : Nat} {g : GeoS} {LV : List ObV} {P : Nat → Prop} (h : CatI w cb mb g LV P) {c : ObV} (hc : ObOk w c) {x : Bool} (hx : decide (fitC g (oL LV) c.o) = x) :
    Calls Try.prog 52 #[.pointer (some ⟨cb, 0, none⟩), aggO c] w fun e w' => e = .returned (.bool x) ∧ Below w.heap.size w w' := by
  obtain ⟨n, hn⟩ : ∃ n : Nat, g.s = (n : Int) := ⟨g.s.toNat, by obtain ⟨_, _, _, _, _, q, _⟩ := h.gok; omega⟩
  have n6 : n ≤ 256 := by
    obtain ⟨_, _, _, _, _, _, q, _⟩ := h.gok
    omega
  obtain ⟨⟨ky, ln, ep, st⟩, vs⟩ := c
  have HC := hidK hc
  obtain ⟨sa, sc, e⟩ := hc.rs.form
  simp only at e hx
  subst e
  have HX : Hid (decide (fitC g (oL LV) ⟨ky, ln, ep, st⟩) = x) := hx
  have H := hidK h
  have HN := hidK hn
  clear hx hc
  obtain ⟨ck, hck⟩ : ∃ z, chR ⟨1, ky, ln, st⟩ = z := ⟨_, rfl⟩
  obtain ⟨nx, hnx⟩ : ∃ z, neG g ln = z := ⟨_, rfl⟩
  have KC : ∀ V, Below w.heap.size w V → Calls Try.prog 50 #[.agg #[.int .i64 1, .string ⟨ky.toArray⟩, .int .i64 ln, .slice sa st.length sc]] V fun e w' => e = .returned (.int .i64 ck) ∧ Below V.heap.size V w' := fun V bV =>
    chk16_any (c := ⟨⟨1, ky, ln, st⟩, .slice sa st.length sc⟩) ⟨(by show (Lit.int .i64 1).wf = true; decide), HC.out.wl, HC.out.ky, HC.out.rs.below bV, HC.out.wi⟩ hck
  have KN : ∀ V, Calls Try.prog 21 #[aggG g, .int .i64 ln] V fun e w' => e = .returned (.int .i64 nx) ∧ Below V.heap.size V w' := fun V => lneeds_any H.out.gw HC.out.wl hnx
  have KT : ∀ V, Below w.heap.size w V → Calls Try.prog 60 #[.pointer (some ⟨cb, 0, none⟩)] V (Taker19 V n (oL LV)) := fun V bV => ctaker19_any (H.out.below bV) hn
  have CKO : Hid (ck = 0 ↔ OkR (putR ⟨ky, ln, ep, st⟩)) := by
    show _ ↔ _
    rw [← hck]
    show (if OkR ⟨1, ky, ln, st⟩ then (0 : Int) else 1) = 0 ↔ OkR ⟨1, ky, ln, st⟩
    split
    · next q => exact ⟨fun _ => q, fun _ => rfl⟩
    · next q => exact ⟨fun k => absurd k (by decide), fun k => absurd k q⟩
  have HF : Hid (fitC g (oL LV) ⟨ky, ln, ep, st⟩ ↔ ck = 0 ∧ OkN ep ∧ (st.length : Int) = nx ∧ ∀ j, j < st.length → fitI g (oL LV) st j) := by
    show _ ↔ _
    rw [fit_all, CKO.out, ← hnx]
    constructor
    · rintro ⟨a, b, c, d, e⟩; exact ⟨a, ⟨b, c⟩, d, e⟩
    · rintro ⟨a, ⟨b, c⟩, d, e⟩; exact ⟨a, b, c, d, e⟩
  obtain ⟨gk, gm, gz, gs, gt, go⟩ := g
  rw [aggE] at KN
  obtain ⟨W1, hW1⟩ : ∃ W, W = w.alloc (.cells #[.string ⟨ky.toArray⟩, .int .i64 ln, .int .i64 ep, .slice sa st.length sc] 52) := ⟨_, rfl⟩
  obtain ⟨W, hW⟩ : ∃ W, W = W1.alloc (.cells #[.int .i64 1, .string ⟨ky.toArray⟩, .int .i64 ln, .slice sa st.length sc] 39) := ⟨_, rfl⟩
  have TA : Hid (∀ V, Below W1.heap.size W1 V → Below w.heap.size w V ∧ V.cell? ⟨w.heap.size, 0, none⟩ = some (.string ⟨ky.toArray⟩) ∧ V.cell? ⟨w.heap.size, 1, none⟩ = some (.int .i64 ln) ∧ V.cell? ⟨w.heap.size, 2, none⟩ = some (.int .i64 ep) ∧ V.cell? ⟨w.heap.size, 3, none⟩ = some (.slice sa st.length sc) ∧ ∀ j, V.frozen? ⟨w.heap.size, j, none⟩ = false) := by rw [hW1]; exact box4 _ _ _ _ _ _
  have TB : Hid (∀ V, Below W.heap.size W V → Below W1.heap.size W1 V ∧ V.cell? ⟨W1.heap.size, 0, none⟩ = some (.int .i64 1) ∧ V.cell? ⟨W1.heap.size, 1, none⟩ = some (.string ⟨ky.toArray⟩) ∧ V.cell? ⟨W1.heap.size, 2, none⟩ = some (.int .i64 ln) ∧ V.cell? ⟨W1.heap.size, 3, none⟩ = some (.slice sa st.length sc) ∧ ∀ j, V.frozen? ⟨W1.heap.size, j, none⟩ = false) := by rw [hW]; exact box4 _ _ _ _ _ _
  have s1 : Hid (W1.heap.size = w.heap.size + 1) := by show _ = _; rw [hW1]; simp
  have SF : Hid (∀ V, Below W.heap.size W V → (V.cell? ⟨w.heap.size, 1, none⟩ = some (.int .i64 ln) ∧ V.cell? ⟨w.heap.size, 2, none⟩ = some (.int .i64 ep) ∧ V.cell? ⟨w.heap.size, 3, none⟩ = some (.slice sa st.length sc) ∧ V.cell? ⟨w.heap.size + 1, 0, none⟩ = some (.int .i64 1) ∧ V.cell? ⟨w.heap.size + 1, 1, none⟩ = some (.string ⟨ky.toArray⟩) ∧ V.cell? ⟨w.heap.size + 1, 2, none⟩ = some (.int .i64 ln) ∧ V.cell? ⟨w.heap.size + 1, 3, none⟩ = some (.slice sa st.length sc) ∧ V.cell? ⟨cb, 0, none⟩ = some (.int .i64 gk) ∧ V.cell? ⟨cb, 1, none⟩ = some (.int .i64 gm) ∧ V.cell? ⟨cb, 2, none⟩ = some (.int .i64 gz) ∧ V.cell? ⟨cb, 3, none⟩ = some (.int .i64 gs) ∧ V.cell? ⟨cb, 4, none⟩ = some (.int .i64 gt) ∧ V.cell? ⟨cb, 5, none⟩ = some (.int .i64 go))) := fun V bV => by
    obtain ⟨b1, q0, q1, q2, q3, _⟩ := TB.out V bV
    obtain ⟨b0, p0, p1, p2, p3, _⟩ := TA.out V b1
    obtain ⟨⟨x0, x1, x2, x3, x4, x5⟩, _⟩ := H.out.below b0
    rw [s1.out] at q0 q1 q2 q3
    exact ⟨p1, p2, p3, q0, q1, q2, q3, x0, x1, x2, x3, x4, x5⟩
  have BW : Hid (∀ V, Below W.heap.size W V → Below w.heap.size w V) := fun V bV => (TA.out V (TB.out V bV).1).1
  have Q0 := SF.out W.drew (Below.refl _ _).drew
  show Calls Try.prog 52 #[.pointer (some ⟨cb, 0, none⟩), .agg #[.string ⟨ky.toArray⟩, .int .i64 ln, .int .i64 ep, .slice sa st.length sc]] w _
  go_enter Try.func52, Try.ntmps52
  go_wp2_with fail
  rw [← hW1, ← hW]
  have H1 := hidK h
  clear hW hW1 h hck hnx hn
  refine wp_region_held_drew (S := fun V => V.cell? ⟨w.heap.size, 1, none⟩ = some (.int .i64 ln) ∧ V.cell? ⟨w.heap.size, 2, none⟩ = some (.int .i64 ep) ∧ V.cell? ⟨w.heap.size, 3, none⟩ = some (.slice sa st.length sc) ∧ V.cell? ⟨w.heap.size + 1, 0, none⟩ = some (.int .i64 1) ∧ V.cell? ⟨w.heap.size + 1, 1, none⟩ = some (.string ⟨ky.toArray⟩) ∧ V.cell? ⟨w.heap.size + 1, 2, none⟩ = some (.int .i64 ln) ∧ V.cell? ⟨w.heap.size + 1, 3, none⟩ = some (.slice sa st.length sc) ∧ V.cell? ⟨cb, 0, none⟩ = some (.int .i64 gk) ∧ V.cell? ⟨cb, 1, none⟩ = some (.int .i64 gm) ∧ V.cell? ⟨cb, 2, none⟩ = some (.int .i64 gz) ∧ V.cell? ⟨cb, 3, none⟩ = some (.int .i64 gs) ∧ V.cell? ⟨cb, 4, none⟩ = some (.int .i64 gt) ∧ V.cell? ⟨cb, 5, none⟩ = some (.int .i64 go)) (by kernel_rfl) Q0 (fun hHeld => ?_)
  clear Q0
  refine tkH 0 ?_
  clear hHeld
  have K1 := KC _ (BW.out W.drew (Below.refl _ _).drew)
  refine rnH 1 (fun K' hK => ?_)
  go_simp
  go_at_call 50
  refine K1.mono ?_
  clear K1 KC
  rintro _ w2 ⟨rfl, b2⟩
  dsimp only
  have B2 := hidK ((Below.refl W.heap.size W).drew.stepL b2 (Nat.le_refl _))
  refine koH hK (SF.out _ B2.out) fun hHeld => ?_
  clear hK K' b2
  by_cases hck : ck = 0
  rotate_left
  · obtain rfl : x = false := HX.out.symm.trans (decide_eq_false fun q => hck (HF.out.1 q).1)
    have q1 : (ck == 0) = false := beq_eq_false_iff_ne.2 hck
    have q2 : (ck != 0) = true := by simp [bne, q1]
    refine tkH 2 ?_
    refine tkH 3 ?_
    refine skH 4 ?_
    refine skH 5 ?_
    refine skH 6 ?_
    refine skH 7 ?_
    refine tkH 8 ?_
    refine tkH 9 ?_
    refine skH 10 ?_
    refine skH 11 ?_
    refine skH 12 ?_
    refine skH 13 ?_
    refine skH 14 ?_
    refine skH 15 ?_
    refine skH 16 ?_
    refine skH 17 ?_
    refine skH 18 ?_
    refine skH 19 ?_
    refine skH 20 ?_
    refine tkH 21 ?_
    refine wpAnyH_done (by kernel_rfl) ?_ _
    have F := hidK (BW.out _ B2.out)
    clear hHeld SF H HX HF CKO TA TB BW B2 HC H1 KN KT HN
    go_wp2
    go_ret
    exact ⟨rfl, F.out⟩
  subst hck
  by_cases hep : OkN ep
  rotate_left
  · obtain rfl : x = false := HX.out.symm.trans (decide_eq_false fun q => hep (HF.out.1 q).2.1)
    have K2 := fun V => @cmay19_any ep V false (decide_eq_false hep)
    refine tkH 2 ?_
    refine tkH 3 ?_
    refine tkH 4 ?_
    refine tkH 5 ?_
    clear hHeld
    refine rnH 6 (fun K' hK => ?_)
    go_simp
    go_at_call 48
    refine (K2 _).mono ?_
    clear K2
    rintro _ w3 ⟨rfl, rfl⟩
    dsimp only
    refine koH hK (SF.out _ B2.out) fun hHeld => ?_
    clear hK K'
    refine tkH 7 ?_
    refine tkH 8 ?_
    refine tkH 9 ?_
    refine skH 10 ?_
    refine skH 11 ?_
    refine skH 12 ?_
    refine skH 13 ?_
    refine skH 14 ?_
    refine skH 15 ?_
    refine skH 16 ?_
    refine skH 17 ?_
    refine skH 18 ?_
    refine skH 19 ?_
    refine skH 20 ?_
    refine tkH 21 ?_
    refine wpAnyH_done (by kernel_rfl) ?_ _
    have F := hidK (BW.out _ B2.out)
    clear hHeld SF H HX HF CKO TA TB BW B2 HC H1 KN KT HN
    go_wp2
    go_ret
    exact ⟨rfl, F.out⟩
  have K2 := fun V => @cmay19_any ep V true (decide_eq_true hep)
  refine tkH 2 ?_
  refine tkH 3 ?_
  refine tkH 4 ?_
  refine tkH 5 ?_
  clear hHeld
  refine rnH 6 (fun K' hK => ?_)
  go_simp
  go_at_call 48
  refine (K2 _).mono ?_
  clear K2
  rintro _ w3 ⟨rfl, rfl⟩
  dsimp only
  refine koH hK (SF.out _ B2.out) fun hHeld => ?_
  clear hK K'
  refine tkH 7 ?_
  refine tkH 8 ?_
  refine tkH 9 ?_
  refine tkH 10 ?_
  refine tkH 11 ?_
  refine tkH 12 ?_
  refine tkH 13 ?_
  refine tkH 14 ?_
  refine tkH 15 ?_
  refine tkH 16 ?_
  refine tkH 17 ?_
  refine tkH 18 ?_
  clear hHeld
  refine rnH 19 (fun K' hK => ?_)
  go_simp
  go_at_call 21
  refine (KN _).mono ?_
  clear KN
  rintro _ w4 ⟨rfl, b4⟩
  dsimp only
  have B4 := hidK (B2.out.stepL b4 B2.out.size)
  refine koH hK (SF.out _ B4.out) fun hHeld => ?_
  clear hK K' b4 B2
  refine tkH 20 ?_
  refine tkH 21 ?_
  refine wpAnyH_done (by kernel_rfl) ?_ _
  clear hHeld
  by_cases hl : (st.length : Int) = nx
  rotate_left
  · obtain rfl : x = false := HX.out.symm.trans (decide_eq_false fun q => hl (HF.out.1 q).2.2.1)
    have q1 : ((st.length : Int) == nx) = false := beq_eq_false_iff_ne.2 hl
    have q2 : ((st.length : Int) != nx) = true := by simp [bne, q1]
    have F := hidK (BW.out _ B4.out)
    clear SF H HX HF CKO TA TB BW B4 HC H1 KT HN
    go_wp2
    go_ret
    exact ⟨rfl, F.out⟩
  subst hl
  have F4 := hidK (BW.out _ B4.out)
  have K4 := KT _ F4.out
  have OKR := hidK (CKO.out.1 rfl)
  have HA : Hid ((∀ j, j < st.length → fitI ⟨gk, gm, gz, gs, gt, go⟩ (oL LV) st j) → x = true) := fun q => HX.out.symm.trans (decide_eq_true (HF.out.2 ⟨rfl, hep, rfl, q⟩))
  have HB : Hid ((¬ ∀ j, j < st.length → fitI ⟨gk, gm, gz, gs, gt, go⟩ (oL LV) st j) → x = false) := fun q => HX.out.symm.trans (decide_eq_false fun k => q (HF.out.1 k).2.2.2)
  clear KT HX HF CKO hep
  go_wp2_with fail
  refine K4.mono ?_
  clear K4
  rintro _ w5 ⟨tb, kb, rfl, hTk, l1, l2, b5⟩
  have B5 := hidK (B4.out.stepL b5 B4.out.size)
  have CS := SF.out w5 B5.out
  have F5 := hidK (BW.out _ B5.out)
  have T5 := hidK hTk
  have RD := hidK (HC.out.rs.below F5.out)
  have OF : Hid (ApartG (fun x => x = kb) (.slice sa st.length sc)) := fun y m e ev => by
    rcases (HC.out.rs.below F4.out).lays y m e ev with q | q
    · exact Or.inl q
    · exact Or.inr (by omega)
  have LK : Hid (w.heap.size ≤ kb) := Nat.le_trans F4.out.size l2
  have SL : st.length ≤ 256 := OKR.out.2.2.2.2.2.1
  have SZ : Hid (∀ j, j < st.length → 0 ≤ st.getD j 0) := fun j hj => by
    have := OKR.out.2.2.2.2.2.2.1 (st.getD j 0) (by
      show st.getD j 0 ∈ st
      rw [show st.getD j 0 = st[j] by simp [List.getD, hj]]
      exact List.getElem_mem hj)
    exact this.1
  clear hTk l1 l2 b5 SF B4 F4 TA TB BW H H1 HC s1 OKR B5
  go_wp2_with fail
  clear CS
  go_loopw [43] (fun i wq => ∃ r : Nat, r ≤ st.length ∧ i = .int .i64 (r : Int) ∧ Hid (TakeAt wq tb kb n (fun j => (owK (oL LV) (j : Int)).isSome || decide ((j : Int) ∈ st.take r))) ∧ Hid (TurnG (fun x => x = kb) w5 wq) ∧ Hid (∀ j, j < r → fitI ⟨gk, gm, gz, gs, gt, go⟩ (oL LV) st j)) (fun i _ => st.length - (intOf i).toNat)
  case atStart => exact ⟨0, Nat.zero_le _, rfl, T5.out.congr fun j _ => by simp, TurnG.refl _ _, fun j hj => absurd hj (Nat.not_lt_zero _)⟩
  case round =>
    clear T5
    obtain ⟨r, hr, rfl, hTk, hT, hj⟩ := hrel
    by_cases hlt : r < st.length
    · have hlt' : (r : Int) < (st.length : Int) := by omega
      obtain ⟨b, off, rfl, _, cs⟩ := (RD.out.offG OF.out hT.out).at hlt
      have FT := fit_take (g := ⟨gk, gm, gz, gs, gt, go⟩) (L := oL LV) (n := n) HN.out (SZ.out r hlt) hlt
      obtain ⟨y, hy⟩ : ∃ y, tkX (fun j => (owK (oL LV) (j : Int)).isSome || decide ((j : Int) ∈ st.take r)) n (st.getD r 0) = y := ⟨_, rfl⟩
      rw [hy] at FT
      have K := ctake19_any hTk.out (st.getD r 0) hy
      have NT : Hid (∀ X : World, TakeAt X tb kb n (tkS (fun j => (owK (oL LV) (j : Int)).isSome || decide ((j : Int) ∈ st.take r)) (st.getD r 0)) → TakeAt X tb kb n (fun j => (owK (oL LV) (j : Int)).isSome || decide ((j : Int) ∈ st.take (r + 1)))) := fun X hX => hX.congr fun j _ => by
        unfold tkS
        rw [Bool.or_assoc]
        congr 1
        rw [List.take_succ_eq_append_getElem hlt, Bool.eq_iff_iff]
        have : st[r] = st.getD r 0 := by simp [List.getD, hlt]
        simp [this]
      have FT2 := hidK FT
      clear FT hy
      generalize st.getD r 0 = s at cs K NT
      go_wp2_with fail
      refine K.mono ?_
      clear K
      rintro _ w6 ⟨rfl, t6, o6⟩
      have T6 := hidK (NT.out _ t6)
      have G6 := hidK (hT.out.trans (o6.turnG (G := fun x => x = kb) rfl))
      clear t6 o6 NT hT hTk cs
      cases y with
      | true =>
        have J6 : Hid (∀ j, j < r + 1 → fitI ⟨gk, gm, gz, gs, gt, go⟩ (oL LV) st j) := fun j hj2 => by
          by_cases e : j = r
          · rw [e]; exact FT2.out.1 rfl
          · exact hj.out j (by omega)
        clear FT2 hj
        go_wp2
        go_roundw
        case rel => exact ⟨r + 1, by omega, by go_num, T6, G6, J6⟩
        case measure => simp [intOf]; omega
      | false =>
        obtain rfl : x = false := HB.out fun q => by
          have := FT2.out.2 (q r hlt)
          cases this
        have F := hidK (F5.out.trans (G6.out.below (fun z hz => by rw [hz]; exact LK.out) F5.out.size))
        clear FT2 hj HA HB G6 T6
        go_wp2
        go_ret
        exact ⟨rfl, F.out⟩
    · obtain rfl : r = st.length := by omega
      have hge : ¬ (st.length : Int) < (st.length : Int) := by omega
      obtain rfl : x = true := HA.out hj.out
      have F := hidK (F5.out.trans (hT.out.below (fun z hz => by rw [hz]; exact LK.out) F5.out.size))
      clear HA HB hj hT hTk
      go_wp2
      go_ret
      exact ⟨rfl, F.out⟩
end Go.Proofs.Ytndlfmofjmieaaa.Gf

namespace Go.Proofs.Ytndlfmofjmieaaa.Gf
set_option linter.unusedVariables false
set_option linter.unusedSimpArgs false
open Go.RowKit
open Go.Maps (Keyed)
theorem CatI.puts {w : World} {cb mb : Nat} {g : GeoS} {LV : List ObV} {P : Nat → Prop} (h : CatI w cb mb g LV P) {c : ObV} (hc : ObOk w c) (ho : ApartG P c.vs) (hf : fitC g (oL LV) c.o) (hr : finV LV c.o.key ≠ none ∨ (LV.length : Int) < g.o) :
    ∃ w', (Instr.mapUpdate 70 (.map (some mb)) (.string ⟨c.o.key.toArray⟩) (.agg #[.string ⟨c.o.key.toArray⟩, .int .i64 c.o.len, .int .i64 c.o.ep, c.vs])).run Try.prog w = .ok () w' ∧ CatI w' cb mb g (wiV LV c) P ∧ TurnG (fun k => k = mb) w w' := by
  have l4 := h.few.2
  obtain ⟨w', hrun, hm, ht⟩ := h.mp.store keyed_str under_omap (keysC_nodup h.inv.rise) mpF_keys (by rw [keysC_length]; unfold maxLen; omega) (key_str hc.ky) (aggO c)
  have t := mt_turn ht
  refine ⟨w', hrun, ?_, t⟩
  have ne : ¬ cb = mb := h.ne
  obtain ⟨⟨x0, x1, x2, x3, x4, x5⟩, c6, mp, ok, inv, gok, gw, lt, off, lp, pc, pm⟩ := h
  have kc : ∀ j, w'.cell? ⟨cb, j, none⟩ = w.cell? ⟨cb, j, none⟩ := fun j => t.cell (p := ⟨cb, j, none⟩) lt ne
  refine ⟨⟨(kc _).trans x0, (kc _).trans x1, (kc _).trans x2, (kc _).trans x3, (kc _).trans x4, (kc _).trans x5⟩, (kc _).trans c6, hm.congr fun d => ?_, fun d hd => ?_, ?_, gok, gw, Nat.lt_of_lt_of_le lt t.size, fun d hd => ?_, fun q hq => Nat.lt_of_lt_of_le (lp q hq) t.size, pc, pm⟩
  · unfold putS mpF
    rw [wiV_fin]
    by_cases e : d = c.o.key
    · rw [if_pos e, if_pos e]; rfl
    · rw [if_neg e, if_neg e]
  · rcases wiV_mem hd with rfl | hd
    · exact hc.offG (hc.rs.notMap mp.isMap) t
    · have q := ok d hd
      exact q.offG (q.rs.notMap mp.isMap) t
  · rw [oL_wiV]
    refine inv.put hf ?_
    rw [oL_length]
    exact hr.imp (fun k q => k (finV_none.2 q)) id
  · rcases wiV_mem hd with rfl | hd
    · exact ho
    · exact off d hd
/-- what 'put' answers -/
def puX (g : GeoS) (L : List ObS) (o : ObS) : Int := if ¬ (finK L o.key ≠ none ∨ (L.length : Int) < g.o) then 191 else if ¬ fitC g L o then 1 else 0
def Put19 (w : World) (cb mb : Nat) (g : GeoS) (P : Nat → Prop) (X : Int) (L : List ObS) (e : Ending) (w' : World) : Prop :=
  ∃ M, e = .returned (.int .i64 X) ∧ CatI w' cb mb g M P ∧ oL M = L ∧ TurnG (fun k => k = mb) w w'
theorem puX_room {g : GeoS} {L : List ObS} {o : ObS} (h : ¬ (finK L o.key ≠ none ∨ (L.length : Int) < g.o)) : puX g L o = 191 := if_pos h
theorem puX_fit {g : GeoS} {L : List ObS} {o : ObS} (h : finK L o.key ≠ none ∨ (L.length : Int) < g.o) (k : ¬ fitC g L o) : puX g L o = 1 := by
  unfold puX; rw [if_neg fun q => q h, if_pos k]
theorem puX_ok {g : GeoS} {L : List ObS} {o : ObS} (h : finK L o.key ≠ none ∨ (L.length : Int) < g.o) (k : fitC g L o) : puX g L o = 0 := by
  unfold puX; rw [if_neg fun q => q h, if_neg fun q => q k]
set_option maxRecDepth 100000 in
set_option maxHeartbeats 2000000 in
theorem cput19_any {w : World} {cb mb : Nat} {g : GeoS} {LV : List ObV} {P : Nat → Prop} (h : CatI w cb mb g LV P) {c : ObV} (hc : ObOk w c) {X : Int} (hX : puX g (oL LV) c.o = X) :
    Calls Try.prog 32 #[.pointer (some ⟨cb, 0, none⟩), aggO c] w (Put19 w cb mb g P X (if X = 0 then wiC (oL LV) c.o else oL LV)) := by
  obtain ⟨L, hL⟩ : ∃ L, L = (if X = 0 then wiC (oL LV) c.o else oL LV) := ⟨_, rfl⟩
  rw [← hL]
  obtain ⟨⟨ky, ln, ep, st⟩, vs⟩ := c
  have HC := hidK hc
  obtain ⟨sa, sc, e⟩ := hc.rs.form
  simp only at e hX hL
  subst e
  have H := hidK h
  clear h hc
  obtain ⟨rm, hrm⟩ : ∃ b, Hid (decide (finV LV ky ≠ none ∨ (LV.length : Int) < g.o) = b) := ⟨_, rfl⟩
  obtain ⟨ft, hft⟩ : ∃ b, Hid (decide (fitC g (oL LV) ⟨ky, ln, ep, st⟩) = b) := ⟨_, rfl⟩
  have RM : (finK (oL LV) ky ≠ none ∨ ((oL LV).length : Int) < g.o) ↔ (finV LV ky ≠ none ∨ (LV.length : Int) < g.o) := by
    rw [oL_length]
    exact or_congr (not_congr finV_none.symm) Iff.rfl
  have KR : ∀ V, Below w.heap.size w V → Calls Try.prog 49 #[.pointer (some ⟨cb, 0, none⟩), .string ⟨ky.toArray⟩] V fun e w' => e = .returned (.bool rm) ∧ Below V.heap.size V w' := fun V bV => croom19_any (H.out.below bV) HC.out.ky hrm.out
  have KF : ∀ V, Below w.heap.size w V → Calls Try.prog 52 #[.pointer (some ⟨cb, 0, none⟩), .agg #[.string ⟨ky.toArray⟩, .int .i64 ln, .int .i64 ep, .slice sa st.length sc]] V fun e w' => e = .returned (.bool ft) ∧ Below V.heap.size V w' := fun V bV => cfits19_any (c := ⟨⟨ky, ln, ep, st⟩, .slice sa st.length sc⟩) (H.out.below bV) (HC.out.bel bV) hft.out
  have E1 : Hid (rm = false → X = 191 ∧ oL LV = L) := fun q => by
    have := of_decide_eq_false (hrm.out.trans q)
    have e : X = 191 := hX.symm.trans (puX_room (o := ⟨ky, ln, ep, st⟩) fun k => this (RM.1 k))
    exact ⟨e, by rw [hL, e]; exact (if_neg (by decide)).symm⟩
  have E2 : Hid (rm = true → ft = false → X = 1 ∧ oL LV = L) := fun q q2 => by
    have := of_decide_eq_true (hrm.out.trans q)
    have e : X = 1 := hX.symm.trans (puX_fit (o := ⟨ky, ln, ep, st⟩) (RM.2 this) (of_decide_eq_false (hft.out.trans q2)))
    exact ⟨e, by rw [hL, e]; exact (if_neg (by decide)).symm⟩
  have E3 : Hid (rm = true → ft = true → X = 0 ∧ wiC (oL LV) ⟨ky, ln, ep, st⟩ = L) := fun q q2 => by
    have := of_decide_eq_true (hrm.out.trans q)
    have e : X = 0 := hX.symm.trans (puX_ok (o := ⟨ky, ln, ep, st⟩) (RM.2 this) (of_decide_eq_true (hft.out.trans q2)))
    exact ⟨e, by rw [hL, e]; exact (if_pos rfl).symm⟩
  obtain ⟨W, hW⟩ : ∃ W, W = w.alloc (.cells #[.string ⟨ky.toArray⟩, .int .i64 ln, .int .i64 ep, .slice sa st.length sc] 52) := ⟨_, rfl⟩
  have TA : Hid (∀ V, Below W.heap.size W V → Below w.heap.size w V ∧ V.cell? ⟨w.heap.size, 0, none⟩ = some (.string ⟨ky.toArray⟩) ∧ V.cell? ⟨w.heap.size, 1, none⟩ = some (.int .i64 ln) ∧ V.cell? ⟨w.heap.size, 2, none⟩ = some (.int .i64 ep) ∧ V.cell? ⟨w.heap.size, 3, none⟩ = some (.slice sa st.length sc) ∧ ∀ j, V.frozen? ⟨w.heap.size, j, none⟩ = false) := by rw [hW]; exact box4 _ _ _ _ _ _
  have hlW : Hid (w.heap.size < W.heap.size) := by show _ < _; rw [hW]; simp
  obtain ⟨BW, q0, _⟩ := TA.out W (Below.refl _ _)
  have K1 := KR W BW
  clear hX hL RM KR q0
  show Calls Try.prog 32 #[.pointer (some ⟨cb, 0, none⟩), .agg #[.string ⟨ky.toArray⟩, .int .i64 ln, .int .i64 ep, .slice sa st.length sc]] w _
  go_enter Try.func32, Try.ntmps32
  go_wp2_with fail
  rw [← hW]
  clear hW
  refine K1.mono ?_
  clear K1
  rintro _ w2 ⟨rfl, b2⟩
  cases rm with
  | false =>
    obtain ⟨rfl, e⟩ := E1.out (by first | rfl | trivial)
    have F : Hid (Put19 w cb mb g P 191 L (.returned (.int .i64 191)) w2) := by
      have B := (TA.out w2 b2).1
      exact ⟨LV, rfl, H.out.below B, e, Below.turnG B _⟩
    clear E1 E2 E3 e KF TA H HC hrm hft BW b2
    go_wp2
    go_ret
    exact F.out
  | true =>
  have B2 := hidK b2
  obtain ⟨BB, q0, q1, q2, q3, _⟩ := TA.out w2 b2
  have K2 := KF w2 BB
  clear KF E1 b2 BW BB
  go_wp2_with fail
  refine K2.mono ?_
  clear K2 q0 q1 q2 q3
  rintro _ w3 ⟨rfl, b3⟩
  have B3 := hidK (B2.out.stepL b3 B2.out.size)
  clear B2 b3
  cases ft with
  | false =>
    obtain ⟨rfl, e⟩ := E2.out (by first | rfl | trivial) (by first | rfl | trivial)
    have F : Hid (Put19 w cb mb g P 1 L (.returned (.int .i64 1)) w3) := by
      have B := (TA.out w3 B3.out).1
      exact ⟨LV, rfl, H.out.below B, e, Below.turnG B _⟩
    clear E2 E3 e TA H HC hrm hft B3
    go_wp2
    go_ret
    exact F.out
  | true =>
  obtain ⟨rfl, e⟩ := E3.out (by first | rfl | trivial) (by first | rfl | trivial)
  have HL := hidK e
  have HR := hidK (of_decide_eq_true hrm.out)
  have HFT := hidK (of_decide_eq_true hft.out)
  clear E2 E3 e hrm hft
  have SF : Hid (∀ V, Below W.heap.size W V → V.cell? ⟨w.heap.size, 0, none⟩ = some (.string ⟨ky.toArray⟩) ∧ V.cell? ⟨w.heap.size, 1, none⟩ = some (.int .i64 ln) ∧ V.cell? ⟨w.heap.size, 2, none⟩ = some (.int .i64 ep) ∧ V.cell? ⟨w.heap.size, 3, none⟩ = some (.slice sa st.length sc) ∧ V.cell? ⟨cb, 6, none⟩ = some (.map (some mb))) := fun V bV => by
    obtain ⟨b0, p0, p1, p2, p3, _⟩ := TA.out V bV
    exact ⟨p0, p1, p2, p3, (H.out.below b0).c6⟩
  have SL : st.length ≤ 1000 := by have := HFT.out.1.1.2.2.2.2.2.1; show _ ≤ _; exact Nat.le_trans this (by decide)
  have BD := hidK (B3.out.stepL (Below.refl _ _).drew B3.out.size)
  have K4 := cown19_any (c := ⟨⟨ky, ln, ep, st⟩, .slice sa st.length sc⟩) (HC.out.bel (TA.out _ BD.out).1) SL
  go_wp2_with fail
  refine wp_region_held_drew (S := fun V => V.cell? ⟨w.heap.size, 0, none⟩ = some (.string ⟨ky.toArray⟩) ∧ V.cell? ⟨w.heap.size, 1, none⟩ = some (.int .i64 ln) ∧ V.cell? ⟨w.heap.size, 2, none⟩ = some (.int .i64 ep) ∧ V.cell? ⟨w.heap.size, 3, none⟩ = some (.slice sa st.length sc) ∧ V.cell? ⟨cb, 6, none⟩ = some (.map (some mb))) (by kernel_rfl) (SF.out _ BD.out) (fun hHeld => ?_)
  refine tkH 0 ?_
  refine tkH 1 ?_
  refine tkH 2 ?_
  refine tkH 3 ?_
  refine tkH 4 ?_
  refine tkH 5 ?_
  refine tkH 6 ?_
  clear hHeld
  refine rnH 7 (fun K' hK => ?_)
  go_simp
  go_at_call 45
  refine K4.mono ?_
  clear K4
  rintro _ w5 ⟨v', rfl, ok5, nw5, b5⟩
  obtain ⟨pa, pc, ev'⟩ := ok5.rs.form
  simp only at ev'
  subst ev'
  dsimp only
  rw [show aggO ⟨⟨ky, ln, ep, st⟩, .slice pa st.length pc⟩ = .agg #[.string ⟨ky.toArray⟩, .int .i64 ln, .int .i64 ep, .slice pa st.length pc] from rfl]
  have B5 := hidK (BD.out.stepL b5 BD.out.size)
  refine koH hK (SF.out _ B5.out) fun hHeld => ?_
  clear hK K'
  have CI5 := H.out.below (TA.out _ B5.out).1
  obtain ⟨w6, hrun, CI6, T6⟩ := CI5.puts ok5 (fun x m e ev => Or.inr fun q => by
    have h1 := nw5 x m e ev
    have h2 := H.out.lp _ q
    have h3 := (TA.out _ BD.out).1.size
    omega) HFT.out HR.out
  simp only at hrun
  have SFX : Hid (∀ V, TurnG (fun k => k = mb) w5 V → V.cell? ⟨w.heap.size, 0, none⟩ = some (.string ⟨ky.toArray⟩) ∧ V.cell? ⟨w.heap.size, 1, none⟩ = some (.int .i64 ln) ∧ V.cell? ⟨w.heap.size, 2, none⟩ = some (.int .i64 ep) ∧ V.cell? ⟨w.heap.size, 3, none⟩ = some (.slice sa st.length sc) ∧ V.cell? ⟨cb, 6, none⟩ = some (.map (some mb))) := fun V t => by
    obtain ⟨p0, p1, p2, p3, p6⟩ := SF.out w5 B5.out
    have lm := H.out.mp.lt
    have lc := H.out.lt
    have ls := B5.out.size
    have lW : w.heap.size < W.heap.size := hlW.out
    have k : ∀ j, V.cell? ⟨w.heap.size, j, none⟩ = w5.cell? ⟨w.heap.size, j, none⟩ := fun j => t.cell (p := ⟨w.heap.size, j, none⟩) (by show w.heap.size < _; omega) (by show ¬ w.heap.size = mb; omega)
    exact ⟨(k 0).trans p0, (k 1).trans p1, (k 2).trans p2, (k 3).trans p3, (t.cell (p := ⟨cb, 6, none⟩) (by show cb < _; omega) (by show ¬ cb = mb; exact H.out.ne)).trans p6⟩
  clear hHeld
  refine rnH 8 (fun K' hK => ?_)
  go_simp
  refine koH hK (SFX.out w6 T6) fun hHeld => ?_
  clear hK K' hHeld
  refine wpAnyH_done (by kernel_rfl) ?_ _
  have F : Hid (Put19 w cb mb g P 0 L (.returned (.int .i64 0)) w6) := by
    have B := (TA.out w5 B5.out).1
    exact ⟨_, rfl, CI6, (oL_wiV _ _).trans HL.out, (Below.turnG B _).trans T6⟩
  clear CI6 T6 CI5 B5 ok5 nw5 hrun SFX SF TA H HC HL HR HFT BD B3 b5
  go_wp2
  go_ret
  exact F.out
end Go.Proofs.Ytndlfmofjmieaaa.Gf
