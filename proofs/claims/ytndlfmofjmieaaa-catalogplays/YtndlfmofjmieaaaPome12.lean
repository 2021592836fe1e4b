/- TEXTS JOINED: CtCD, CtCE. -/
import Derived.Test.YtndlfmofjmieaaaPome11
namespace Go.Proofs.Ytndlfmofjmieaaa.Gf
set_option linter.unusedVariables false
set_option linter.unusedSimpArgs false
open Go.RowKit
theorem row_only19 {w w' : World} {base e s n g : Nat} {v : Value} {xs : List Value} (h : w.ownsRow base e s v n xs) (o : Only g w w') (hg : g < base) : w'.ownsRow base e s v n xs := by
  obtain ⟨h0, h | ⟨g2, cap, cur, hv, hgg, hh, r⟩⟩ := h
  · exact ⟨h0, Or.inl h⟩
  · exact ⟨h0, Or.inr ⟨g2, cap, cur, hv, hgg, by rw [o.block g2 (by omega)]; exact hh, r⟩⟩
theorem row_base19 {w : World} {base base' e s n : Nat} {v : Value} {xs : List Value} (h : w.ownsRow base e s v n xs) (hb : base' ≤ base) : w.ownsRow base' e s v n xs := by
  obtain ⟨h0, h | ⟨g2, cap, cur, hv, hgg, hh, r⟩⟩ := h
  · exact ⟨h0, Or.inl h⟩
  · exact ⟨h0, Or.inr ⟨g2, cap, cur, hv, Nat.le_trans hb hgg, hh, r⟩⟩
def Free19 (w : World) (R : List Nat) (e : Ending) (w' : World) : Prop := ∃ v, e = .returned v ∧ OwnI w' w.heap.size 3 v R ∧ Below w.heap.size w w'
set_option maxRecDepth 100000 in
set_option maxHeartbeats 2000000 in
theorem cfree19_any {w : World} {cb mb : Nat} {g : GeoS} {LV : List ObV} {P : Nat → Prop} (h : CatI w cb mb g LV P) {n : Nat} (hn : g.s = (n : Int)) :
    Calls Try.prog 46 #[.pointer (some ⟨cb, 0, none⟩)] w (Free19 w (frF (oL LV) n)) := by
  have n6 : n ≤ 256 := by
    obtain ⟨_, _, _, _, _, _, q, _⟩ := h.gok
    omega
  have H := hidK h
  have K := ctaker19_any h hn
  obtain ⟨i0, hi, hz, hs, hy⟩ := info_int19
  have X3 : Hid (∀ V, Below w.heap.size w V → V.cell? ⟨cb, 3, none⟩ = some (.int .i64 (n : Int))) := fun V bV => by rw [← hn]; exact (H.out.below bV).ge.2.2.2.1
  clear h hn
  go_enter Try.func46, Try.ntmps46
  go_wp2_with fail
  refine K.mono ?_
  clear K
  rintro _ w1 ⟨tb, kb, rfl, hTk, l1, l2, b1⟩
  have x3 := X3.out w1 b1
  have T1 := hidK hTk
  have B1 := hidK b1
  have LB := hidK (And.intro l1 l2)
  clear hTk b1 l1 l2
  go_wp2_with fail
  go_loopw [4, 13] (fun l i wr => ∃ r : Nat, r ≤ n ∧ i = .int .i64 (r : Int) ∧ Hid (OwnI wr w1.heap.size 3 l (frF (oL LV) r)) ∧ Hid (Below w.heap.size w wr) ∧ Hid (TakeAt wr tb kb n (fun j => (owK (oL LV) (j : Int)).isSome || decide (j < r))) ∧ Hid (w1.heap.size ≤ wr.heap.size)) (fun _ i _ => n - (intOf i).toNat)
  case atStart => exact ⟨0, Nat.zero_le _, rfl, OwnI.nil _ _ _, B1.out, T1.out.congr fun j _ => by simp, Nat.le_refl _⟩
  case round =>
    obtain ⟨r, hr, rfl, hO, hB, hT, hS⟩ := hrel
    by_cases hlt : r < n
    · have hlt' : (r : Int) < (n : Int) := by omega
      obtain ⟨x, hx⟩ : ∃ x, tkX (fun j => (owK (oL LV) (j : Int)).isSome || decide (j < r)) n (r : Int) = x := ⟨_, rfl⟩
      have K := ctake19_any hT.out (r : Int) hx
      have NT : Hid (∀ X : World, TakeAt X tb kb n (tkS (fun j => (owK (oL LV) (j : Int)).isSome || decide (j < r)) (r : Int)) → TakeAt X tb kb n (fun j => (owK (oL LV) (j : Int)).isSome || decide (j < r + 1))) := fun X hX => hX.congr fun j _ => by
        unfold tkS
        rw [Bool.or_assoc]
        congr 1
        rw [Bool.eq_iff_iff]
        simp only [Bool.or_eq_true, decide_eq_true_eq]
        omega
      have hx2 : x = !(owK (oL LV) (r : Int)).isSome := by
        rw [← hx]
        unfold tkX
        rw [decide_eq_true ⟨by omega, hlt'⟩]
        simp
      have FS : Hid (frF (oL LV) (r + 1) = frF (oL LV) r ++ if x = true then [r] else []) := by
        show _ = _
        rw [frF_succ, hx2]
        cases (owK (oL LV) (r : Int)).isSome <;> rfl
      have FL := frF_le (oL LV) r
      obtain ⟨Z, hZ⟩ : ∃ Z, frF (oL LV) r = Z := ⟨_, rfl⟩
      rw [hZ] at hO FS FL
      obtain ⟨oa, oc, rfl⟩ := hO.out.form
      have LT := hidK (And.intro T1.out.lt T1.out.row.lt)
      clear hx hx2 hZ
      go_wp2_with fail
      refine K.mono ?_
      clear K
      rintro _ w2 ⟨rfl, t2, o2⟩
      have B2 : Hid (Below w.heap.size w w2) := hB.out.trans (o2.below LB.out.2)
      have O2 : OwnI w2 w1.heap.size 3 (.slice oa Z.length oc) Z := row_only19 hO.out o2 LT.out.2
      have T2 := hidK (NT.out _ t2)
      have S2 : Hid (w1.heap.size ≤ w2.heap.size) := by
        show _ ≤ _
        rw [o2.size]
        exact hS.out
      clear t2 o2 hT hB hO NT hS
      cases x with
      | true =>
        rw [if_pos rfl] at FS
        have ol : Z.length ≤ 100000 := by omega
        have hsz := S2.out
        go_wp2_with (at_builtin; go_loud (refine wpList_append_int rfl (.tmp 19) (.tmp 21) 37 rfl w1.heap.size 3 i0 Try.underlying37 hi hz hs hy (.slice oa Z.length oc) Z rfl O2 r _ 1 rfl ol hsz ?_); intro v9 w9 h9 b9)
        have O9 : Hid (OwnI w9 w1.heap.size 3 v9 (frF (oL LV) (r + 1))) := by rw [FS.out]; exact h9
        have B9 := hidK (B2.out.trans (b9.mono B1.out.size))
        have T9 := hidK (T2.out.blocks (b9.block tb LT.out.1) (b9.block kb LT.out.2) b9.size)
        have S9 := hidK (Nat.le_trans S2.out b9.size)
        clear h9 b9 O2 B2 T2 S2 FS hsz ol
        go_wp2
        go_roundw
        case rel => exact ⟨r + 1, by omega, by go_num, O9, B9, T9, S9⟩
        case measure => simp [intOf]; omega
      | false =>
        rw [if_neg (by decide), List.append_nil] at FS
        have O3 := hidK O2
        clear O2
        go_wp2
        go_roundw
        case rel => exact ⟨r + 1, by omega, by go_num, (by rw [FS.out]; exact O3.out), B2, T2, S2⟩
        case measure => simp [intOf]; omega
    · obtain rfl : r = n := by omega
      have hge : ¬ (r : Int) < (r : Int) := by omega
      have F : Hid (Free19 w (frF (oL LV) r) (.returned u4) wr) := ⟨u4, rfl, row_base19 hO.out B1.out.size, hB.out⟩
      obtain ⟨oa, oc, rfl⟩ := hO.out.form
      clear hO hB hT T1 B1 LB X3 H hS
      go_wp2
      go_ret
      exact F.out
set_option maxRecDepth 100000 in
theorem cfrees19_any {w : World} {cb mb : Nat} {g : GeoS} {LV : List ObV} {P : Nat → Prop} (h : CatI w cb mb g LV P) {X : Int} (hX : (frC g (oL LV) : Int) = X) :
    Calls Try.prog 18 #[.pointer (some ⟨cb, 0, none⟩)] w fun e w' => e = .returned (.int .i64 X) ∧ Below w.heap.size w w' := by
  have hs : g.s = ((g.s.toNat : Nat) : Int) := by
    obtain ⟨_, _, _, _, _, q, _⟩ := h.gok
    omega
  have K := cfree19_any h hs
  rw [frC_F] at hX
  subst hX
  generalize frF (oL LV) g.s.toNat = R at K
  clear hs h
  go_enter Try.func18, Try.ntmps18
  go_wp2_with fail
  refine K.mono ?_
  clear K
  rintro _ w1 ⟨v, rfl, hO, b1⟩
  obtain ⟨oa, oc, rfl⟩ := hO.form
  clear hO
  go_wp2
  go_ret
  exact ⟨rfl, b1⟩
end Go.Proofs.Ytndlfmofjmieaaa.Gf

namespace Go.Proofs.Ytndlfmofjmieaaa.Gf
set_option linter.unusedVariables false
set_option linter.unusedSimpArgs false
open Go.RowKit
theorem fit_take {g : GeoS} {L : List ObS} {st : List Int} {n r : Nat} (hn : g.s = (n : Int)) (h0 : 0 ≤ st.getD r 0) (hr : r < st.length) : tkX (fun j => (owK L (j : Int)).isSome || decide ((j : Int) ∈ st.take r)) n (st.getD r 0) = true ↔ fitI g L st r := by
  unfold tkX fitI
  have e : ((st.getD r 0).toNat : Int) = st.getD r 0 := by omega
  show (decide (0 ≤ st.getD r 0 ∧ st.getD r 0 < (n : Int)) && !((owK L (((st.getD r 0).toNat : Nat) : Int)).isSome || decide ((((st.getD r 0).toNat : Nat) : Int) ∈ st.take r))) = true ↔ _
  rw [e, hn]
  have m : st.getD r 0 ∈ st.take r ↔ ∃ k, k < r ∧ st.getD k 0 = st.getD r 0 := by
    rw [List.mem_take_iff_getElem]
    constructor
    · rintro ⟨i, hi, q⟩
      exact ⟨i, by omega, by rw [← q]; simp [List.getD, show i < st.length by omega]⟩
    · rintro ⟨k, hk, q⟩
      exact ⟨k, by omega, by rw [← q]; simp [List.getD, show k < st.length by omega]⟩
  simp only [Bool.and_eq_true, decide_eq_true_eq, Bool.not_eq_true', Bool.or_eq_false_iff, decide_eq_false_iff_not, Option.isSome_eq_false_iff, Option.isNone_iff_eq_none, m]
  constructor
  · rintro ⟨⟨a, b⟩, c, d⟩
    exact ⟨c, b, fun k hk q => d ⟨k, hk, q⟩⟩
  · rintro ⟨c, b, d⟩
    exact ⟨⟨h0, b⟩, c, fun ⟨k, hk, q⟩ => d k hk q⟩
set_option maxRecDepth 100000 in
set_option maxHeartbeats 4000000 in
theorem cfits19_any {w : World} {cb mb : Nat} {g : GeoS} {LV : List ObV} {P : Nat → Prop} (h : CatI w cb mb g LV P) {c : ObV} (hc : ObOk w c) {x : Bool} (hx : decide (fitC g (oL LV) c.o) = x) :
    Calls Try.prog 52 #[.pointer (some ⟨cb, 0, none⟩), aggO c] w fun e w' => e = .returned (.bool x) ∧ Below w.heap.size w w' := by
  obtain ⟨n, hn⟩ : ∃ n : Nat, g.s = (n : Int) := ⟨g.s.toNat, by obtain ⟨_, _, _, _, _, q, _⟩ := h.gok; omega⟩
  have n6 : n ≤ 256 := by
    obtain ⟨_, _, _, _, _, _, q, _⟩ := h.gok
    omega
  obtain ⟨⟨ky, ln, ep, st⟩, vs⟩ := c
  have HC := hidK hc
  obtain ⟨sa, sc, e⟩ := hc.rs.form
  simp only at e hx
  subst e
  have HX : Hid (decide (fitC g (oL LV) ⟨ky, ln, ep, st⟩) = x) := hx
  have H := hidK h
  have HN := hidK hn
  clear hx hc
  obtain ⟨ck, hck⟩ : ∃ z, chR ⟨1, ky, ln, st⟩ = z := ⟨_, rfl⟩
  obtain ⟨nx, hnx⟩ : ∃ z, neG g ln = z := ⟨_, rfl⟩
  have KC : ∀ V, Below w.heap.size w V → Calls Try.prog 50 #[.agg #[.int .i64 1, .string ⟨ky.toArray⟩, .int .i64 ln, .slice sa st.length sc]] V fun e w' => e = .returned (.int .i64 ck) ∧ Below V.heap.size V w' := fun V bV =>
    chk16_any (c := ⟨⟨1, ky, ln, st⟩, .slice sa st.length sc⟩) ⟨(by show (Lit.int .i64 1).wf = true; decide), HC.out.wl, HC.out.ky, HC.out.rs.below bV, HC.out.wi⟩ hck
  have KN : ∀ V, Calls Try.prog 21 #[aggG g, .int .i64 ln] V fun e w' => e = .returned (.int .i64 nx) ∧ Below V.heap.size V w' := fun V => lneeds_any H.out.gw HC.out.wl hnx
  have KT : ∀ V, Below w.heap.size w V → Calls Try.prog 60 #[.pointer (some ⟨cb, 0, none⟩)] V (Taker19 V n (oL LV)) := fun V bV => ctaker19_any (H.out.below bV) hn
  have CKO : Hid (ck = 0 ↔ OkR (putR ⟨ky, ln, ep, st⟩)) := by
    show _ ↔ _
    rw [← hck]
    show (if OkR ⟨1, ky, ln, st⟩ then (0 : Int) else 1) = 0 ↔ OkR ⟨1, ky, ln, st⟩
    split
    · next q => exact ⟨fun _ => q, fun _ => rfl⟩
    · next q => exact ⟨fun k => absurd k (by decide), fun k => absurd k q⟩
  have HF : Hid (fitC g (oL LV) ⟨ky, ln, ep, st⟩ ↔ ck = 0 ∧ OkN ep ∧ (st.length : Int) = nx ∧ ∀ j, j < st.length → fitI g (oL LV) st j) := by
    show _ ↔ _
    rw [fit_all, CKO.out, ← hnx]
    constructor
    · rintro ⟨a, b, c, d, e⟩; exact ⟨a, ⟨b, c⟩, d, e⟩
    · rintro ⟨a, ⟨b, c⟩, d, e⟩; exact ⟨a, b, c, d, e⟩
  obtain ⟨gk, gm, gz, gs, gt, go⟩ := g
  rw [aggE] at KN
  obtain ⟨W1, hW1⟩ : ∃ W, W = w.alloc (.cells #[.string ⟨ky.toArray⟩, .int .i64 ln, .int .i64 ep, .slice sa st.length sc] 52) := ⟨_, rfl⟩
  obtain ⟨W, hW⟩ : ∃ W, W = W1.alloc (.cells #[.int .i64 1, .string ⟨ky.toArray⟩, .int .i64 ln, .slice sa st.length sc] 39) := ⟨_, rfl⟩
  have TA : Hid (∀ V, Below W1.heap.size W1 V → Below w.heap.size w V ∧ V.cell? ⟨w.heap.size, 0, none⟩ = some (.string ⟨ky.toArray⟩) ∧ V.cell? ⟨w.heap.size, 1, none⟩ = some (.int .i64 ln) ∧ V.cell? ⟨w.heap.size, 2, none⟩ = some (.int .i64 ep) ∧ V.cell? ⟨w.heap.size, 3, none⟩ = some (.slice sa st.length sc) ∧ ∀ j, V.frozen? ⟨w.heap.size, j, none⟩ = false) := by rw [hW1]; exact box4 _ _ _ _ _ _
  have TB : Hid (∀ V, Below W.heap.size W V → Below W1.heap.size W1 V ∧ V.cell? ⟨W1.heap.size, 0, none⟩ = some (.int .i64 1) ∧ V.cell? ⟨W1.heap.size, 1, none⟩ = some (.string ⟨ky.toArray⟩) ∧ V.cell? ⟨W1.heap.size, 2, none⟩ = some (.int .i64 ln) ∧ V.cell? ⟨W1.heap.size, 3, none⟩ = some (.slice sa st.length sc) ∧ ∀ j, V.frozen? ⟨W1.heap.size, j, none⟩ = false) := by rw [hW]; exact box4 _ _ _ _ _ _
  have s1 : Hid (W1.heap.size = w.heap.size + 1) := by show _ = _; rw [hW1]; simp
  have SF : Hid (∀ V, Below W.heap.size W V → (V.cell? ⟨w.heap.size, 1, none⟩ = some (.int .i64 ln) ∧ V.cell? ⟨w.heap.size, 2, none⟩ = some (.int .i64 ep) ∧ V.cell? ⟨w.heap.size, 3, none⟩ = some (.slice sa st.length sc) ∧ V.cell? ⟨w.heap.size + 1, 0, none⟩ = some (.int .i64 1) ∧ V.cell? ⟨w.heap.size + 1, 1, none⟩ = some (.string ⟨ky.toArray⟩) ∧ V.cell? ⟨w.heap.size + 1, 2, none⟩ = some (.int .i64 ln) ∧ V.cell? ⟨w.heap.size + 1, 3, none⟩ = some (.slice sa st.length sc) ∧ V.cell? ⟨cb, 0, none⟩ = some (.int .i64 gk) ∧ V.cell? ⟨cb, 1, none⟩ = some (.int .i64 gm) ∧ V.cell? ⟨cb, 2, none⟩ = some (.int .i64 gz) ∧ V.cell? ⟨cb, 3, none⟩ = some (.int .i64 gs) ∧ V.cell? ⟨cb, 4, none⟩ = some (.int .i64 gt) ∧ V.cell? ⟨cb, 5, none⟩ = some (.int .i64 go))) := fun V bV => by
    obtain ⟨b1, q0, q1, q2, q3, _⟩ := TB.out V bV
    obtain ⟨b0, p0, p1, p2, p3, _⟩ := TA.out V b1
    obtain ⟨⟨x0, x1, x2, x3, x4, x5⟩, _⟩ := H.out.below b0
    rw [s1.out] at q0 q1 q2 q3
    exact ⟨p1, p2, p3, q0, q1, q2, q3, x0, x1, x2, x3, x4, x5⟩
  have BW : Hid (∀ V, Below W.heap.size W V → Below w.heap.size w V) := fun V bV => (TA.out V (TB.out V bV).1).1
  have Q0 := SF.out W.drew (Below.refl _ _).drew
  show Calls Try.prog 52 #[.pointer (some ⟨cb, 0, none⟩), .agg #[.string ⟨ky.toArray⟩, .int .i64 ln, .int .i64 ep, .slice sa st.length sc]] w _
  go_enter Try.func52, Try.ntmps52
  go_wp2_with fail
  rw [← hW1, ← hW]
  have H1 := hidK h
  clear hW hW1 h hck hnx hn
  refine wp_region_held_drew (S := fun V => V.cell? ⟨w.heap.size, 1, none⟩ = some (.int .i64 ln) ∧ V.cell? ⟨w.heap.size, 2, none⟩ = some (.int .i64 ep) ∧ V.cell? ⟨w.heap.size, 3, none⟩ = some (.slice sa st.length sc) ∧ V.cell? ⟨w.heap.size + 1, 0, none⟩ = some (.int .i64 1) ∧ V.cell? ⟨w.heap.size + 1, 1, none⟩ = some (.string ⟨ky.toArray⟩) ∧ V.cell? ⟨w.heap.size + 1, 2, none⟩ = some (.int .i64 ln) ∧ V.cell? ⟨w.heap.size + 1, 3, none⟩ = some (.slice sa st.length sc) ∧ V.cell? ⟨cb, 0, none⟩ = some (.int .i64 gk) ∧ V.cell? ⟨cb, 1, none⟩ = some (.int .i64 gm) ∧ V.cell? ⟨cb, 2, none⟩ = some (.int .i64 gz) ∧ V.cell? ⟨cb, 3, none⟩ = some (.int .i64 gs) ∧ V.cell? ⟨cb, 4, none⟩ = some (.int .i64 gt) ∧ V.cell? ⟨cb, 5, none⟩ = some (.int .i64 go)) (by kernel_rfl) Q0 (fun hHeld => ?_)
  clear Q0
  refine tkH 0 ?_
  clear hHeld
  have K1 := KC _ (BW.out W.drew (Below.refl _ _).drew)
  refine rnH 1 (fun K' hK => ?_)
  go_simp
  go_at_call 50
  refine K1.mono ?_
  clear K1 KC
  rintro _ w2 ⟨rfl, b2⟩
  dsimp only
  have B2 := hidK ((Below.refl W.heap.size W).drew.stepL b2 (Nat.le_refl _))
  refine koH hK (SF.out _ B2.out) fun hHeld => ?_
  clear hK K' b2
  by_cases hck : ck = 0
  rotate_left
  · obtain rfl : x = false := HX.out.symm.trans (decide_eq_false fun q => hck (HF.out.1 q).1)
    have q1 : (ck == 0) = false := beq_eq_false_iff_ne.2 hck
    have q2 : (ck != 0) = true := by simp [bne, q1]
    refine tkH 2 ?_
    refine tkH 3 ?_
    refine skH 4 ?_
    refine skH 5 ?_
    refine skH 6 ?_
    refine skH 7 ?_
    refine tkH 8 ?_
    refine tkH 9 ?_
    refine skH 10 ?_
    refine skH 11 ?_
    refine skH 12 ?_
    refine skH 13 ?_
    refine skH 14 ?_
    refine skH 15 ?_
    refine skH 16 ?_
    refine skH 17 ?_
    refine skH 18 ?_
    refine skH 19 ?_
    refine skH 20 ?_
    refine tkH 21 ?_
    refine wpAnyH_done (by kernel_rfl) ?_ _
    have F := hidK (BW.out _ B2.out)
    clear hHeld SF H HX HF CKO TA TB BW B2 HC H1 KN KT HN
    go_wp2
    go_ret
    exact ⟨rfl, F.out⟩
  subst hck
  by_cases hep : OkN ep
  rotate_left
  · obtain rfl : x = false := HX.out.symm.trans (decide_eq_false fun q => hep (HF.out.1 q).2.1)
    have K2 := fun V => @cmay19_any ep V false (decide_eq_false hep)
    refine tkH 2 ?_
    refine tkH 3 ?_
    refine tkH 4 ?_
    refine tkH 5 ?_
    clear hHeld
    refine rnH 6 (fun K' hK => ?_)
    go_simp
    go_at_call 48
    refine (K2 _).mono ?_
    clear K2
    rintro _ w3 ⟨rfl, rfl⟩
    dsimp only
    refine koH hK (SF.out _ B2.out) fun hHeld => ?_
    clear hK K'
    refine tkH 7 ?_
    refine tkH 8 ?_
    refine tkH 9 ?_
    refine skH 10 ?_
    refine skH 11 ?_
    refine skH 12 ?_
    refine skH 13 ?_
    refine skH 14 ?_
    refine skH 15 ?_
    refine skH 16 ?_
    refine skH 17 ?_
    refine skH 18 ?_
    refine skH 19 ?_
    refine skH 20 ?_
    refine tkH 21 ?_
    refine wpAnyH_done (by kernel_rfl) ?_ _
    have F := hidK (BW.out _ B2.out)
    clear hHeld SF H HX HF CKO TA TB BW B2 HC H1 KN KT HN
    go_wp2
    go_ret
    exact ⟨rfl, F.out⟩
  have K2 := fun V => @cmay19_any ep V true (decide_eq_true hep)
  refine tkH 2 ?_
  refine tkH 3 ?_
  refine tkH 4 ?_
  refine tkH 5 ?_
  clear hHeld
  refine rnH 6 (fun K' hK => ?_)
  go_simp
  go_at_call 48
  refine (K2 _).mono ?_
  clear K2
  rintro _ w3 ⟨rfl, rfl⟩
  dsimp only
  refine koH hK (SF.out _ B2.out) fun hHeld => ?_
  clear hK K'
  refine tkH 7 ?_
  refine tkH 8 ?_
  refine tkH 9 ?_
  refine tkH 10 ?_
  refine tkH 11 ?_
  refine tkH 12 ?_
  refine tkH 13 ?_
  refine tkH 14 ?_
  refine tkH 15 ?_
  refine tkH 16 ?_
  refine tkH 17 ?_
  refine tkH 18 ?_
  clear hHeld
  refine rnH 19 (fun K' hK => ?_)
  go_simp
  go_at_call 21
  refine (KN _).mono ?_
  clear KN
  rintro _ w4 ⟨rfl, b4⟩
  dsimp only
  have B4 := hidK (B2.out.stepL b4 B2.out.size)
  refine koH hK (SF.out _ B4.out) fun hHeld => ?_
  clear hK K' b4 B2
  refine tkH 20 ?_
  refine tkH 21 ?_
  refine wpAnyH_done (by kernel_rfl) ?_ _
  clear hHeld
  by_cases hl : (st.length : Int) = nx
  rotate_left
  · obtain rfl : x = false := HX.out.symm.trans (decide_eq_false fun q => hl (HF.out.1 q).2.2.1)
    have q1 : ((st.length : Int) == nx) = false := beq_eq_false_iff_ne.2 hl
    have q2 : ((st.length : Int) != nx) = true := by simp [bne, q1]
    have F := hidK (BW.out _ B4.out)
    clear SF H HX HF CKO TA TB BW B4 HC H1 KT HN
    go_wp2
    go_ret
    exact ⟨rfl, F.out⟩
  subst hl
  have F4 := hidK (BW.out _ B4.out)
  have K4 := KT _ F4.out
  have OKR := hidK (CKO.out.1 rfl)
  have HA : Hid ((∀ j, j < st.length → fitI ⟨gk, gm, gz, gs, gt, go⟩ (oL LV) st j) → x = true) := fun q => HX.out.symm.trans (decide_eq_true (HF.out.2 ⟨rfl, hep, rfl, q⟩))
  have HB : Hid ((¬ ∀ j, j < st.length → fitI ⟨gk, gm, gz, gs, gt, go⟩ (oL LV) st j) → x = false) := fun q => HX.out.symm.trans (decide_eq_false fun k => q (HF.out.1 k).2.2.2)
  clear KT HX HF CKO hep
  go_wp2_with fail
  refine K4.mono ?_
  clear K4
  rintro _ w5 ⟨tb, kb, rfl, hTk, l1, l2, b5⟩
  have B5 := hidK (B4.out.stepL b5 B4.out.size)
  have CS := SF.out w5 B5.out
  have F5 := hidK (BW.out _ B5.out)
  have T5 := hidK hTk
  have RD := hidK (HC.out.rs.below F5.out)
  have OF : Hid (ApartG (fun x => x = kb) (.slice sa st.length sc)) := fun y m e ev => by
    rcases (HC.out.rs.below F4.out).lays y m e ev with q | q
    · exact Or.inl q
    · exact Or.inr (by omega)
  have LK : Hid (w.heap.size ≤ kb) := Nat.le_trans F4.out.size l2
  have SL : st.length ≤ 256 := OKR.out.2.2.2.2.2.1
  have SZ : Hid (∀ j, j < st.length → 0 ≤ st.getD j 0) := fun j hj => by
    have := OKR.out.2.2.2.2.2.2.1 (st.getD j 0) (by
      show st.getD j 0 ∈ st
      rw [show st.getD j 0 = st[j] by simp [List.getD, hj]]
      exact List.getElem_mem hj)
    exact this.1
  clear hTk l1 l2 b5 SF B4 F4 TA TB BW H H1 HC s1 OKR B5
  go_wp2_with fail
  clear CS
  go_loopw [43] (fun i wq => ∃ r : Nat, r ≤ st.length ∧ i = .int .i64 (r : Int) ∧ Hid (TakeAt wq tb kb n (fun j => (owK (oL LV) (j : Int)).isSome || decide ((j : Int) ∈ st.take r))) ∧ Hid (TurnG (fun x => x = kb) w5 wq) ∧ Hid (∀ j, j < r → fitI ⟨gk, gm, gz, gs, gt, go⟩ (oL LV) st j)) (fun i _ => st.length - (intOf i).toNat)
  case atStart => exact ⟨0, Nat.zero_le _, rfl, T5.out.congr fun j _ => by simp, TurnG.refl _ _, fun j hj => absurd hj (Nat.not_lt_zero _)⟩
  case round =>
    clear T5
    obtain ⟨r, hr, rfl, hTk, hT, hj⟩ := hrel
    by_cases hlt : r < st.length
    · have hlt' : (r : Int) < (st.length : Int) := by omega
      obtain ⟨b, off, rfl, _, cs⟩ := (RD.out.offG OF.out hT.out).at hlt
      have FT := fit_take (g := ⟨gk, gm, gz, gs, gt, go⟩) (L := oL LV) (n := n) HN.out (SZ.out r hlt) hlt
      obtain ⟨y, hy⟩ : ∃ y, tkX (fun j => (owK (oL LV) (j : Int)).isSome || decide ((j : Int) ∈ st.take r)) n (st.getD r 0) = y := ⟨_, rfl⟩
      rw [hy] at FT
      have K := ctake19_any hTk.out (st.getD r 0) hy
      have NT : Hid (∀ X : World, TakeAt X tb kb n (tkS (fun j => (owK (oL LV) (j : Int)).isSome || decide ((j : Int) ∈ st.take r)) (st.getD r 0)) → TakeAt X tb kb n (fun j => (owK (oL LV) (j : Int)).isSome || decide ((j : Int) ∈ st.take (r + 1)))) := fun X hX => hX.congr fun j _ => by
        unfold tkS
        rw [Bool.or_assoc]
        congr 1
        rw [List.take_succ_eq_append_getElem hlt, Bool.eq_iff_iff]
        have : st[r] = st.getD r 0 := by simp [List.getD, hlt]
        simp [this]
      have FT2 := hidK FT
      clear FT hy
      generalize st.getD r 0 = s at cs K NT
      go_wp2_with fail
      refine K.mono ?_
      clear K
      rintro _ w6 ⟨rfl, t6, o6⟩
      have T6 := hidK (NT.out _ t6)
      have G6 := hidK (hT.out.trans (o6.turnG (G := fun x => x = kb) rfl))
      clear t6 o6 NT hT hTk cs
      cases y with
      | true =>
        have J6 : Hid (∀ j, j < r + 1 → fitI ⟨gk, gm, gz, gs, gt, go⟩ (oL LV) st j) := fun j hj2 => by
          by_cases e : j = r
          · rw [e]; exact FT2.out.1 rfl
          · exact hj.out j (by omega)
        clear FT2 hj
        go_wp2
        go_roundw
        case rel => exact ⟨r + 1, by omega, by go_num, T6, G6, J6⟩
        case measure => simp [intOf]; omega
      | false =>
        obtain rfl : x = false := HB.out fun q => by
          have := FT2.out.2 (q r hlt)
          cases this
        have F := hidK (F5.out.trans (G6.out.below (fun z hz => by rw [hz]; exact LK.out) F5.out.size))
        clear FT2 hj HA HB G6 T6
        go_wp2
        go_ret
        exact ⟨rfl, F.out⟩
    · obtain rfl : r = st.length := by omega
      have hge : ¬ (st.length : Int) < (st.length : Int) := by omega
      obtain rfl : x = true := HA.out hj.out
      have F := hidK (F5.out.trans (hT.out.below (fun z hz => by rw [hz]; exact LK.out) F5.out.size))
      clear HA HB hj hT hTk
      go_wp2
      go_ret
      exact ⟨rfl, F.out⟩
end Go.Proofs.Ytndlfmofjmieaaa.Gf
