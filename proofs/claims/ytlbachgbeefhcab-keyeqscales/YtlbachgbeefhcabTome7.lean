/- TEXTS JOINED: KeCF, KeCode, KeFind, KeAwake, KeLaw, GfQuiet. -/
import Derived.Test.YtlbachgbeefhcabTome3
import Derived.Test.YtlbachgbeefhcabTome4
import Derived.Test.YtlbachgbeefhcabTome6
import Derived.Test.YtlbachgbeefhcabTome2
import Derived.Test.YtlbachgbeefhcabTome1
/-
  THE PROGRAM's 'from' (package keyeq) BY CONTRACT.
-/


namespace Go.Proofs.Ytlbachgbeefhcab.Gf
set_option linter.unusedVariables false
set_option linter.unusedSimpArgs false
open Go.RowKit

theorem rd_e9 {w : World} {a : Option Addr} {c n : Nat} (h1 : c - n ≤ maxLen) (h2 : a = none → c = 0) : Rd w (.slice (Option.map (fun x => x.add n) a) 0 (c - n)) [] :=
  Or.inl ⟨_, _, rfl, rfl, h1, fun e => by
    cases a with
    | none => rw [h2 rfl]; exact Nat.zero_sub n
    | some x => cases e⟩

set_option maxRecDepth 100000 in
set_option maxHeartbeats 1000000 in
theorem kfrom_any {w : World} {v : Value} {p : List UInt8} (hp : Rd w v p) (hl : p.length ≤ 100000) {m : Nat} (hm : m ≤ 100000) {x : Int} (hx : x = (m : Int)) : Calls Try.prog 18 #[v, .int .i64 x] w (MakesF w (norm (p.drop m))) := by
  subst hx
  by_cases hlt : m < p.length
  · obtain ⟨b, off, c, rfl, hc1, hc2⟩ := hp.spot9 (by omega)
    have hr := hp.behind hlt rfl
    unfold maxLen at hc2
    obtain ⟨n, hn⟩ : ∃ n, Hid (n = p.length) := ⟨_, rfl⟩
    obtain ⟨k, hk⟩ : ∃ k, Hid (k = n - m) := ⟨_, rfl⟩
    have hdl : Hid ((p.drop m).length ≤ 100000) := by show _ ≤ _; rw [List.length_drop]; omega
    rw [← hn.out] at hr hlt hc1 hl ⊢
    rw [← hk.out] at hr
    have hlt' : (m : Int) < (n : Int) := by omega
    have hge : ¬ (n : Int) < (m : Int) := by omega
    have hmn : m ≤ n := by omega
    have hmc : m < c := by omega
    have hcm : ¬ c = m := by omega
    have hnk : n - m = k := by rw [hk.out]
    go_enter Try.func18, Try.ntmps18
    go_wp2_with fail
    refine (pnorm_far hr (Nat.le_trans hdl.out (by decide))).mono ?_
    rintro e w2 ⟨v2, rfl, hr2, hb2, hf2⟩
    go_wp2
    go_ret
    exact ⟨_, rfl, hr2, hb2, hf2⟩
  · have hd : p.drop m = [] := List.drop_eq_nil_of_le (by omega)
    rw [hd]
    obtain ⟨a, c, rfl⟩ := hp.form
    have hc : p.length ≤ c ∧ c ≤ maxLen ∧ (a = none → c = 0) := by
      rcases hp with ⟨a', c', e, e2, h3, h4⟩ | ⟨b, o, c', h1, e2, h3, h4, _⟩
      · simp at e2; obtain ⟨rfl, _, rfl⟩ := e2; subst e; exact ⟨Nat.zero_le _, h3, h4⟩
      · simp at e2; obtain ⟨rfl, rfl⟩ := e2; exact ⟨h3, h4, fun h => by cases h⟩
    obtain ⟨hc1, hc2, hc3⟩ := hc
    obtain ⟨n, hn⟩ : ∃ n, Hid (n = p.length) := ⟨_, rfl⟩
    rw [← hn.out] at hlt hc1 hl ⊢
    clear hp hd
    have hlt' : ¬ (m : Int) < (n : Int) := by omega
    unfold maxLen at hc2
    go_enter Try.func18, Try.ntmps18
    by_cases e1 : (n : Int) < (m : Int)
    · go_wp2_with fail
      · refine (pnorm_far (p := []) (Or.inl ⟨_, _, rfl, rfl, Nat.zero_le _, fun _ => rfl⟩) (by decide)).mono ?_
        rintro e w2 ⟨v2, rfl, hr2, hb2, hf2⟩
        go_wp2
        go_ret
        exact ⟨_, rfl, hr2, hb2, hf2⟩
      · refine (pnorm_far (p := []) (rd_e9 (by unfold maxLen; omega) hc3) (by decide)).mono ?_
        rintro e w2 ⟨v2, rfl, hr2, hb2, hf2⟩
        go_wp2
        go_ret
        exact ⟨_, rfl, hr2, hb2, hf2⟩
    · obtain rfl : n = m := by omega
      clear e1 hlt' hlt
      go_wp2_with fail
      · refine (pnorm_far (p := []) (Or.inl ⟨_, _, rfl, rfl, Nat.zero_le _, fun _ => rfl⟩) (by decide)).mono ?_
        rintro e w2 ⟨v2, rfl, hr2, hb2, hf2⟩
        go_wp2
        go_ret
        exact ⟨_, rfl, hr2, hb2, hf2⟩
      · refine (pnorm_far (p := []) (rd_e9 (by unfold maxLen; omega) hc3) (by decide)).mono ?_
        rintro e w2 ⟨v2, rfl, hr2, hb2, hf2⟩
        go_wp2
        go_ret
        exact ⟨_, rfl, hr2, hb2, hf2⟩

end Go.Proofs.Ytlbachgbeefhcab.Gf

/-
  THE PROGRAM's 'Solve' (package keyeq) BY CONTRACT.
-/

namespace Go.Proofs.Ytlbachgbeefhcab.Gf
set_option linter.unusedVariables false
set_option linter.unusedSimpArgs false
open Go.RowKit

theorem Rd.first {w : World} {a : Option Addr} {n c k : Nat} {p : List UInt8} (h : Rd w (.slice a n c) p) (hk : k ≤ n) : Rd w (.slice a k c) (p.take k) := by
  rcases h with ⟨a', c', e, e2, h3, h4⟩ | ⟨b, off, c', h1, e2, h3, h4, h5, h6⟩
  · simp at e2
    obtain ⟨rfl, rfl, rfl⟩ := e2
    subst e
    obtain rfl : k = 0 := by omega
    exact Or.inl ⟨_, _, rfl, rfl, h3, h4⟩
  · simp at e2
    obtain ⟨rfl, rfl, rfl⟩ := e2
    have hl : (p.take k).length = k := by rw [List.length_take]; omega
    by_cases h0 : k = 0
    · subst h0
      exact Or.inl ⟨_, _, by simp, rfl, h4, fun h => by cases h⟩
    · refine Or.inr ⟨b, off, c, fun e => by rw [e] at hl; simp at hl; omega, by rw [hl], by rw [hl]; omega, h4, h5, fun i hi => ?_⟩
      rw [hl] at hi
      rw [co_take hi]
      exact h6 i (by omega)
theorem Rd.caps {w : World} {a : Option Addr} {n c : Nat} {p : List UInt8} (h : Rd w (.slice a n c) p) : n = p.length ∧ n ≤ c ∧ c ≤ 9223372036854775807 := by
  rcases h with ⟨a', c', e, e2, h3, h4⟩ | ⟨b, off, c', h1, e2, h3, h4, h5, h6⟩
  · simp at e2; obtain ⟨rfl, rfl, rfl⟩ := e2; subst e; unfold maxLen at h3; exact ⟨rfl, Nat.zero_le _, by omega⟩
  · simp at e2; obtain ⟨rfl, rfl, rfl⟩ := e2; unfold maxLen at h4; exact ⟨rfl, h3, by omega⟩
theorem keP_told (s known : List UInt8) : co (mulP (norm known) s.reverse) = keP s known := by
  rw [co_mulP, co_norm]; rfl
theorem told_take {s known : List UInt8} {k : Nat} (hk : k = min s.length (mulP (norm known) s.reverse).length) : ((mulP (norm known) s.reverse).take k).length ≤ s.length ∧ ∀ j, j < s.length → co ((mulP (norm known) s.reverse).take k) j = keP s known j := by
  rw [← keP_told]
  refine ⟨by rw [List.length_take]; omega, fun j hj => ?_⟩
  by_cases h : j < k
  · rw [co_take h]
  · rw [co_ge (p := (mulP (norm known) s.reverse).take k) (by rw [List.length_take]; omega), co_ge (by omega)]
theorem eva_told {s known : List UInt8} {t : Nat} {L : Nat → UInt8} (h : Fin0 L (t + 1)) : norm ((mulP (upto L (t + 1)) (mulP (norm known) s.reverse)).drop s.length) = evaL s known t L := by
  have e : co (upto L (t + 1)) = L := funext fun i => co_upto h i
  have hf := fin_conv (upto L (t + 1)) (mulP (norm known) s.reverse)
  have e1 : (mulP (upto L (t + 1)) (mulP (norm known) s.reverse)).drop s.length = evaL s known t L := by
    unfold evaL
    show (mk (conv (co (upto L (t + 1))) (co (mulP (norm known) s.reverse))) _).drop s.length = _
    rw [keP_told, e] at hf ⊢
    exact drop_mk hf (eva_fin h)
  rw [e1]
  exact norm_mk (eva_fin h)

set_option maxRecDepth 100000 in
set_option maxHeartbeats 1000000 in
theorem ksol_nil {w : World} {vs vk : Value} {s known : List UInt8} (hs : Rd w vs s) (hk : Rd w vk known) (hl : known.length ≤ 140737488355328) : Calls Try.prog 7 #[.pointer none, vs, vk] w fun e w' => ∃ va vo, e = .returned (.tuple #[va, vo, .int .i64 1]) ∧ Rd w' va [] ∧ Rd w' vo [] ∧ Below w.heap.size w w' := by
  obtain ⟨sa, sc, rfl⟩ := hs.form
  go_enter Try.func7, Try.ntmps7
  go_wp2_with fail
  refine (pnorm_any hk hl).mono ?_
  rintro e9 w1 ⟨v1, rfl, r1, b1⟩
  obtain ⟨ka, kc, rfl⟩ := r1.form
  have hn := norm_length_le known
  obtain ⟨K, hK⟩ : ∃ K, Hid (K = norm known) := ⟨_, rfl⟩
  rw [← hK.out] at r1 hn ⊢
  have hsl := hs.len
  unfold maxLen at hsl
  clear hs hk
  go_wp2
  go_ret3
  exact ⟨_, _, rfl, rd9_nil _, rd9_nil _, b1⟩

set_option maxRecDepth 100000 in
set_option maxHeartbeats 4000000 in
theorem ksol_any {w : World} {b : Nat} {vs vk : Value} {s known : List UInt8} (hF : FieldAt w b) (hs : Rd w vs s) (hk : Rd w vk known) (hl : s.length ≤ 300) (hl2 : known.length ≤ 300) : Calls Try.prog 7 #[.pointer (some ⟨b, 0, none⟩), vs, vk] w (MakesK w s known) := by
  obtain ⟨sa, sc, rfl⟩ := hs.form
  go_enter Try.func7, Try.ntmps7
  go_wp2_with fail
  refine (pnorm_any hk (by omega)).mono ?_
  rintro e9 w1 ⟨v1, rfl, r1, b1⟩
  have hn := norm_length_le known
  obtain ⟨K, hK⟩ : ∃ K, Hid (K = norm known) := ⟨_, rfl⟩
  rw [← hK.out] at r1 hn
  obtain ⟨ka, kc, rfl⟩ := r1.form
  replace hs := hs.below b1
  have hF1 := hF.below b1
  obtain ⟨m, hm⟩ : ∃ m, Hid (m = s.length) := ⟨_, rfl⟩
  obtain ⟨n, hn9⟩ : ∃ n, Hid (n = K.length) := ⟨_, rfl⟩
  have hm3 : m ≤ 300 := by rw [hm.out]; exact hl
  have hn3 : n ≤ 300 := by rw [hn9.out]; omega
  rw [← hm.out] at hs ⊢
  rw [← hn9.out] at r1 ⊢
  have gw1 : IntKind.i64.wrap ((n : Int) - 1) = (n : Int) - 1 := by rw [IntKind.wrap_i64]; omega
  clear hn hk hF
  by_cases h0 : n = 0
  · have g1 : (n : Int) - 1 < 0 := by omega
    have HF : Hid (KeyAns s known 1 [] []) := Or.inl ⟨Or.inl (by rw [← hK.out, ← hn9.out]; exact h0), rfl, rfl, rfl⟩
    clear h0
    go_wp2
    go_ret3
    exact MakesK.mk HF.out (rd9_nil _) (rd9_nil _) b1
  by_cases h1 : m + 1 < n
  · have g1 : ¬ (n : Int) - 1 < 0 := by omega
    have g2 : (n : Int) - 1 > (m : Int) := by omega
    have HF : Hid (KeyAns s known 1 [] []) := Or.inl ⟨Or.inr (by rw [← hK.out, ← hn9.out, ← hm.out]; exact h1), rfl, rfl, rfl⟩
    clear h0 h1
    go_wp2
    go_ret3
    exact MakesK.mk HF.out (rd9_nil _) (rd9_nil _) b1
  have hB : Hid (¬ BadK s known) := by
    unfold Hid BadK
    rw [← hK.out, ← hn9.out, ← hm.out]
    omega
  obtain ⟨E, hE⟩ : ∃ E, Hid (E = n - 1) := ⟨_, rfl⟩
  have gE : (n : Int) - 1 = (E : Int) := by have := hE.out; omega
  have hEm : E ≤ m := by have := hE.out; omega
  have g1 : ¬ (E : Int) < 0 := by omega
  have g2 : ¬ (E : Int) > (m : Int) := by omega
  have gw2 : IntKind.i64.wrap (E : Int) = (E : Int) := by rw [IntKind.wrap_i64]; omega
  clear gw1 h0 h1
  have hsl : Hid (s.length ≤ 1000) := by show _ ≤ _; omega
  go_wp2_with fail
  refine (kturn_any hs hsl.out).mono ?_
  rintro e9 w2 ⟨v2, rfl, r2, b2, _⟩
  replace b1 := Below.next b1 b2
  replace r1 := r1.below b2
  have hF2 := hF1.below b2
  have hrl : Hid (s.reverse.length = m) := by show _ = _; rw [List.length_reverse, hm.out]
  clear hF1 hs b2
  go_wp2_with fail
  refine (pmul_any hF2 r1 r2 (by rw [← hn9.out]; omega) (by rw [hrl.out]; omega)).mono ?_
  rintro e9 w3 ⟨v3, rfl, r3, b3⟩
  have hpl := mulP_length_le K s.reverse
  rw [← hn9.out, hrl.out] at hpl
  obtain ⟨P, hP⟩ : ∃ P, Hid (P = mulP K s.reverse) := ⟨_, rfl⟩
  rw [← hP.out] at r3 hpl
  have HP : Hid (P = mulP (norm known) s.reverse) := by show _ = _; rw [hP.out, hK.out]
  obtain ⟨pa, pc, rfl⟩ := r3.form
  obtain ⟨_, hpc, hpm⟩ := r3.caps
  replace b1 := Below.next b1 b3
  have hF3 := hF2.below b3
  obtain ⟨pn, hpn⟩ : ∃ pn, Hid (pn = P.length) := ⟨_, rfl⟩
  rw [← hpn.out] at hpl hpc r3 ⊢
  clear hF2 r1 r2 b3
  obtain ⟨k, hk⟩ : ∃ k, Hid (k = min m pn) := ⟨_, rfl⟩
  have hkn : k ≤ pn := by have := hk.out; omega
  have hkc : k ≤ pc := by omega
  have rT := r3.first hkn
  have HT : Hid ((P.take k).length ≤ s.length ∧ ∀ j, j < s.length → co (P.take k) j = keP s known j) := by
    rw [HP.out]
    exact told_take (by rw [hk.out, hpn.out, HP.out, hm.out])
  obtain ⟨HT1, HT2⟩ := HT.out
  have HC := keuc_any (e := E) hF3 rT HT1 HT2 hl (by rw [← hm.out]; exact hEm) rfl rfl
  rw [← hm.out] at HC
  clear HT1 HT2 rT
  rcases Nat.lt_or_ge pn m with hlt | hge
  rotate_left
  · have ek : k = m := by have := hk.out; omega
    rw [ek] at HC hkn hkc
    have hlt' : ¬ (pn : Int) < (m : Int) := by omega
    clear ek
    go_wp2_with fail
    refine HC.mono ?_
    rintro e9 w4 ⟨r0, v0, R1, C1, vc, vl, hU, hEnd, rfl, rc, rl, b4⟩
    obtain ⟨f1, f2, f3, f4, f5⟩ := hU.fac
    rw [← hm.out] at f2 f3 f5
    obtain ⟨ca, cc, rfl⟩ := rc.form
    obtain ⟨la, lc, rfl⟩ := rl.form
    replace b1 := Below.next b1 b4
    replace r3 := r3.below b4
    have hF4 := hF3.below b4
    obtain ⟨c, hc⟩ : ∃ c, Hid (c = C1.length) := ⟨_, rfl⟩
    obtain ⟨t, ht⟩ : ∃ t, Hid (t = c - 1) := ⟨_, rfl⟩
    obtain ⟨l, hl9⟩ : ∃ l, Hid (l = R1.length) := ⟨_, rfl⟩
    have hc1 : 1 ≤ c := by rw [hc.out]; exact f1
    have hc2 : c ≤ 301 := by rw [hc.out]; omega
    have hl3 : l ≤ 301 := by rw [hl9.out]; omega
    have gt : (c : Int) - 1 = (t : Int) := by have := ht.out; omega
    have ht3 : t ≤ 300 := by have := ht.out; omega
    have gtw : IntKind.i64.wrap (t : Int) = (t : Int) := by rw [IntKind.wrap_i64]; omega
    obtain ⟨q, hq⟩ : ∃ q, Hid (q = E + t) := ⟨_, rfl⟩
    have gq : (E : Int) + (t : Int) = (q : Int) := by have := hq.out; omega
    have hq6 : q ≤ 600 := by have := hq.out; omega
    have gqw : IntKind.i64.wrap (q : Int) = (q : Int) := by rw [IntKind.wrap_i64]; omega
    have HE2 : Hid ((norm known).length - 1 = E) := by show _ = _; rw [← hK.out, ← hn9.out, hE.out]
    rcases Nat.lt_or_ge q l with hql | hql
    · have g3 : (l : Int) > (q : Int) := by omega
      have HF : Hid (KeyAns s known 100 [] []) := by
        refine Or.inr (Or.inr ⟨hB.out, ?_, rfl, rfl, rfl⟩)
        rw [HE2.out]
        exact hU.none hEnd (by rw [← hc.out, ← ht.out, ← hq.out, ← hl9.out]; exact hql)
      rw [← hc.out, ← hl9.out]
      clear HC hU hEnd f1 f2 f3 f4 f5 rc rl r3 HT hF3 hF4 b4
      go_wp2
      go_ret3
      exact MakesK.mk HF.out (rd9_nil _) (rd9_nil _) b1
    · have g3 : ¬ (l : Int) > (q : Int) := by omega
      obtain ⟨k1, k2, k3⟩ := hU.least hEnd (by rw [← hc.out, ← ht.out, ← hq.out, ← hl9.out]; exact hql)
      have HL : Hid (LeastLoc (keP s known) s.length E t (fun j => mu (iv (co C1 (C1.length - 1))) (co C1 j))) := by
        show LeastLoc _ _ _ _ _
        rw [ht.out, hc.out]; exact k3
      have HC5 := ktop_any hF4 rc (by omega) k1 k2
      obtain ⟨A, hA⟩ : ∃ A, Hid (A = fun j => mu (iv (co C1 (C1.length - 1))) (co C1 j)) := ⟨_, rfl⟩
      rw [← hA.out] at HC5 HL
      rw [show C1.length - 1 + 1 = t + 1 by rw [ht.out, hc.out]] at HC5
      obtain ⟨AL, hAL⟩ : ∃ AL, Hid (AL = upto A (t + 1)) := ⟨_, rfl⟩
      have hALl : Hid (AL.length = t + 1) := by show _ = _; rw [hAL.out, upto_length]
      rw [← hAL.out] at HC5
      rw [← hc.out] at HC5 ⊢
      rw [← hl9.out]
      clear HC hU hEnd f1 f2 f3 f4 f5 rc rl HT hF3 b4 k1 k2 k3
      go_wp2_with fail
      refine HC5.mono ?_
      rintro e9 w5 ⟨v5, rfl, r5, b5, _⟩
      replace b1 := Below.next b1 b5
      replace r3 := r3.below b5
      have hF5 := hF4.below b5
      obtain ⟨a5, c5, rfl⟩ := r5.form
      rw [hALl.out] at r5 ⊢
      clear HC5 hF4 b5
      go_wp2_with fail
      refine (pmul_any hF5 r5 r3 (by rw [hALl.out]; omega) (by rw [← hpn.out]; omega)).mono ?_
      rintro e9 w6 ⟨v6, rfl, r6, b6⟩
      have h6 := mulP_length_le AL P
      rw [hALl.out, ← hpn.out] at h6
      have HO : Hid (norm ((mulP AL P).drop m) = evaL s known t A) := by
        show _ = _
        rw [hAL.out, HP.out, hm.out]
        exact eva_told HL.out.loc.fin
      obtain ⟨Q, hQ⟩ : ∃ Q, Hid (Q = mulP AL P) := ⟨_, rfl⟩
      rw [← hQ.out] at r6 h6 HO
      replace b1 := Below.next b1 b6
      replace r5 := r5.below b6
      clear hF5 r3 b6
      go_wp2_with fail
      refine (kfrom_any r6 (by omega) (m := m) (by omega) rfl).mono ?_
      rintro e9 w7 ⟨v7, rfl, r7, b7, _⟩
      rw [HO.out] at r7
      replace b1 := Below.next b1 b7
      replace r5 := r5.below b7
      obtain ⟨a7, c7, rfl⟩ := r7.form
      have HF : Hid (KeyAns s known 0 AL (evaL s known t A)) := by
        rw [hAL.out]
        refine KeyAns.of_loc hB.out ?_
        rw [HE2.out]; exact HL.out
      obtain ⟨O, hO⟩ : ∃ O, Hid (O = evaL s known t A) := ⟨_, rfl⟩
      rw [← hO.out] at r7 HF ⊢
      clear b7 r6
      go_wp2
      go_ret3
      exact MakesK.mk HF.out r5 r7 b1
  · have ek : k = pn := by have := hk.out; omega
    rw [ek] at HC hkn hkc
    have hlt' : (pn : Int) < (m : Int) := by omega
    clear ek
    go_wp2_with fail
    refine HC.mono ?_
    rintro e9 w4 ⟨r0, v0, R1, C1, vc, vl, hU, hEnd, rfl, rc, rl, b4⟩
    obtain ⟨f1, f2, f3, f4, f5⟩ := hU.fac
    rw [← hm.out] at f2 f3 f5
    obtain ⟨ca, cc, rfl⟩ := rc.form
    obtain ⟨la, lc, rfl⟩ := rl.form
    replace b1 := Below.next b1 b4
    replace r3 := r3.below b4
    have hF4 := hF3.below b4
    obtain ⟨c, hc⟩ : ∃ c, Hid (c = C1.length) := ⟨_, rfl⟩
    obtain ⟨t, ht⟩ : ∃ t, Hid (t = c - 1) := ⟨_, rfl⟩
    obtain ⟨l, hl9⟩ : ∃ l, Hid (l = R1.length) := ⟨_, rfl⟩
    have hc1 : 1 ≤ c := by rw [hc.out]; exact f1
    have hc2 : c ≤ 301 := by rw [hc.out]; omega
    have hl3 : l ≤ 301 := by rw [hl9.out]; omega
    have gt : (c : Int) - 1 = (t : Int) := by have := ht.out; omega
    have ht3 : t ≤ 300 := by have := ht.out; omega
    have gtw : IntKind.i64.wrap (t : Int) = (t : Int) := by rw [IntKind.wrap_i64]; omega
    obtain ⟨q, hq⟩ : ∃ q, Hid (q = E + t) := ⟨_, rfl⟩
    have gq : (E : Int) + (t : Int) = (q : Int) := by have := hq.out; omega
    have hq6 : q ≤ 600 := by have := hq.out; omega
    have gqw : IntKind.i64.wrap (q : Int) = (q : Int) := by rw [IntKind.wrap_i64]; omega
    have HE2 : Hid ((norm known).length - 1 = E) := by show _ = _; rw [← hK.out, ← hn9.out, hE.out]
    rcases Nat.lt_or_ge q l with hql | hql
    · have g3 : (l : Int) > (q : Int) := by omega
      have HF : Hid (KeyAns s known 100 [] []) := by
        refine Or.inr (Or.inr ⟨hB.out, ?_, rfl, rfl, rfl⟩)
        rw [HE2.out]
        exact hU.none hEnd (by rw [← hc.out, ← ht.out, ← hq.out, ← hl9.out]; exact hql)
      rw [← hc.out, ← hl9.out]
      clear HC hU hEnd f1 f2 f3 f4 f5 rc rl r3 HT hF3 hF4 b4
      go_wp2
      go_ret3
      exact MakesK.mk HF.out (rd9_nil _) (rd9_nil _) b1
    · have g3 : ¬ (l : Int) > (q : Int) := by omega
      obtain ⟨k1, k2, k3⟩ := hU.least hEnd (by rw [← hc.out, ← ht.out, ← hq.out, ← hl9.out]; exact hql)
      have HL : Hid (LeastLoc (keP s known) s.length E t (fun j => mu (iv (co C1 (C1.length - 1))) (co C1 j))) := by
        show LeastLoc _ _ _ _ _
        rw [ht.out, hc.out]; exact k3
      have HC5 := ktop_any hF4 rc (by omega) k1 k2
      obtain ⟨A, hA⟩ : ∃ A, Hid (A = fun j => mu (iv (co C1 (C1.length - 1))) (co C1 j)) := ⟨_, rfl⟩
      rw [← hA.out] at HC5 HL
      rw [show C1.length - 1 + 1 = t + 1 by rw [ht.out, hc.out]] at HC5
      obtain ⟨AL, hAL⟩ : ∃ AL, Hid (AL = upto A (t + 1)) := ⟨_, rfl⟩
      have hALl : Hid (AL.length = t + 1) := by show _ = _; rw [hAL.out, upto_length]
      rw [← hAL.out] at HC5
      rw [← hc.out] at HC5 ⊢
      rw [← hl9.out]
      clear HC hU hEnd f1 f2 f3 f4 f5 rc rl HT hF3 b4 k1 k2 k3
      go_wp2_with fail
      refine HC5.mono ?_
      rintro e9 w5 ⟨v5, rfl, r5, b5, _⟩
      replace b1 := Below.next b1 b5
      replace r3 := r3.below b5
      have hF5 := hF4.below b5
      obtain ⟨a5, c5, rfl⟩ := r5.form
      rw [hALl.out] at r5 ⊢
      clear HC5 hF4 b5
      go_wp2_with fail
      refine (pmul_any hF5 r5 r3 (by rw [hALl.out]; omega) (by rw [← hpn.out]; omega)).mono ?_
      rintro e9 w6 ⟨v6, rfl, r6, b6⟩
      have h6 := mulP_length_le AL P
      rw [hALl.out, ← hpn.out] at h6
      have HO : Hid (norm ((mulP AL P).drop m) = evaL s known t A) := by
        show _ = _
        rw [hAL.out, HP.out, hm.out]
        exact eva_told HL.out.loc.fin
      obtain ⟨Q, hQ⟩ : ∃ Q, Hid (Q = mulP AL P) := ⟨_, rfl⟩
      rw [← hQ.out] at r6 h6 HO
      replace b1 := Below.next b1 b6
      replace r5 := r5.below b6
      clear hF5 r3 b6
      go_wp2_with fail
      refine (kfrom_any r6 (by omega) (m := m) (by omega) rfl).mono ?_
      rintro e9 w7 ⟨v7, rfl, r7, b7, _⟩
      rw [HO.out] at r7
      replace b1 := Below.next b1 b7
      replace r5 := r5.below b7
      obtain ⟨a7, c7, rfl⟩ := r7.form
      have HF : Hid (KeyAns s known 0 AL (evaL s known t A)) := by
        rw [hAL.out]
        refine KeyAns.of_loc hB.out ?_
        rw [HE2.out]; exact HL.out
      obtain ⟨O, hO⟩ : ∃ O, Hid (O = evaL s known t A) := ⟨_, rfl⟩
      rw [← hO.out] at r7 HF ⊢
      clear b7 r6
      go_wp2
      go_ret3
      exact MakesK.mk HF.out r5 r7 b1

end Go.Proofs.Ytlbachgbeefhcab.Gf

/-
  PLAIN MATHEMATICS: of syndromes that unlike points make the least locator is that of the points, and the evaluator tells by what (what 'KeyeqFinds' asks). No program's function is named here.
-/

namespace Go.Proofs.Ytlbachgbeefhcab.Gf
set_option linter.unusedVariables false
set_option linter.unusedSimpArgs false

theorem ev_eq {f : Nat → UInt8} {n m : Nat} (x : UInt8) (h : Fin0 f n) (k : Fin0 f m) : ev n f x = ev m f x := by
  rw [← ev_more x h (show n ≤ n + m by omega), ← ev_more x k (show m ≤ n + m by omega)]
/-- what lies below m and what lies from m on -/
def lowF (m : Nat) (f : Nat → UInt8) (j : Nat) : UInt8 := if j < m then f j else 0
def higF (m : Nat) (f : Nat → UInt8) (j : Nat) : UInt8 := f (m + j)
theorem low_hig (m : Nat) (f : Nat → UInt8) : f = addF (lowF m f) (shF m (higF m f)) := by
  funext j
  rw [addF_at]
  by_cases h : j < m
  · rw [shF_low h, x_zero]; exact (if_pos h).symm
  · rw [shF_ge (by omega)]
    unfold lowF higF
    rw [if_neg h, zero_x, show m + (j - m) = j by omega]
theorem IsLoc.low {P : Nat → UInt8} {m e t : Nat} {L : Nat → UInt8} (h : IsLoc P m e t L) : Fin0 (lowF m (conv L P)) (e + t) := fun j hj => by
  unfold lowF
  by_cases h1 : j < m
  · rw [if_pos h1]; exact h.zero j hj h1
  · exact if_neg h1
/-- two locators and their evaluators -/
theorem loc_cross {P : Nat → UInt8} {m e t t' : Nat} {L L' : Nat → UInt8} (h : IsLoc P m e t L) (h' : IsLoc P m e t' L') (hm : t + t' + e ≤ m) : conv L (higF m (conv L' P)) = conv L' (higF m (conv L P)) := by
  have e0 : conv L (conv L' P) = conv L' (conv L P) := conv_left _ _ _
  rw [low_hig m (conv L' P), low_hig m (conv L P), conv_add, conv_add, conv_shF, conv_shF] at e0
  funext p
  have := congrFun e0 (p + m)
  rw [addF_at, addF_at, shF_high, shF_high, (h.fin.conv h'.low) _ (by omega), (h'.fin.conv h.low) _ (by omega), zero_x, zero_x] at this
  rw [low_hig m (conv L' P), low_hig m (conv L P)]
  have e1 : ∀ f : Nat → UInt8, higF m (addF (lowF m f) (shF m (higF m f))) = higF m f := fun f => by rw [← low_hig]
  rw [e1, e1]
  exact this

section
variable {a bv : Nat → UInt8} {t e m : Nat}
/-- the turned one of what points make -/
def tuF (a bv : Nat → UInt8) (N m : Nat) (i : Nat) : UInt8 := S N (fun k => mu (bv k) (geoF (a k) m i))
/-- the evaluator -/
def omF (a bv : Nat → UInt8) (N : Nat) (p : Nat) : UInt8 := S N (fun k => mu (bv k) (peF a k N p))
theorem om_fin (a bv : Nat → UInt8) (N : Nat) : Fin0 (omF a bv N) N := fun p hp => S_zero fun k hk => by rw [(peF_fin a k N).2 hk p hp, mu_zero]
theorem om_at {N j : Nat} (hj : j < N) : ev N (omF a bv N) (a j) = mu (bv j) (PE a j N (a j)) := by
  have e1 : ev N (omF a bv N) (a j) = S N (fun k => mu (bv k) (ev N (peF a k N) (a j))) := by
    unfold ev omF
    rw [S_congr (fun i _ => S_mu _ _ _), S_swap]
    refine S_congr fun k _ => ?_
    rw [mu_S]
    exact S_congr fun i _ => mu_assoc _ _ _
  rw [e1, S_one hj (fun k hk hne => by rw [ev_pe' hk, PE_other a hj (fun h => hne h.symm), mu_zero]), ev_pe' hj]
theorem tu_loc (hm : 2 * t + e ≤ m) (j : Nat) (h1 : t + e ≤ j) (h2 : j < m) : conv (locF a (t + e)) (tuF a bv (t + e) m) j = 0 := by
  have := loc_turn (a := a) (bv := bv) (N := t + e) (m := m) j
  unfold tuF
  rw [this]
  exact S_zero fun k hk => by rw [shF_low h2, (peF_fin a k (t + e)).2 hk j h1, mu_zero, zero_x, mu_zero]
theorem tu_om (hm : 2 * t + e ≤ m) : higF m (conv (locF a (t + e)) (tuF a bv (t + e) m)) = omF a bv (t + e) := by
  funext p
  have := loc_turn (a := a) (bv := bv) (N := t + e) (m := m) (m + p)
  unfold higF tuF
  rw [this]
  exact S_congr fun k hk => by rw [shF_ge (by omega), Nat.add_sub_cancel_left, (peF_fin a k (t + e)).2 hk (m + p) (by omega), mu_zero, x_zero]
/-- the least locator is that of the points -/
theorem find_least (hm : 2 * t + e ≤ m) (hd : ∀ i j, i < t + e → j < t + e → i ≠ j → a i ≠ a j) (hb : ∀ i, i < t → bv i ≠ 0) :
    LeastLoc (conv (locF (fun i => a (t + i)) e) (tuF a bv (t + e) m)) m e t (locF a t) := by
  have hW : conv (locF a t) (conv (locF (fun i => a (t + i)) e) (tuF a bv (t + e) m)) = conv (locF a (t + e)) (tuF a bv (t + e) m) := by rw [← conv_assoc, ← locF_append]
  have hL : IsLoc (conv (locF (fun i => a (t + i)) e) (tuF a bv (t + e) m)) m e t (locF a t) :=
    ⟨locF_fin a t, locF_top a t, fun j h1 h2 => by rw [hW]; exact tu_loc hm j (by omega) h2⟩
  -- each locator has the points as roots
  have root : ∀ t' L', t' ≤ t → IsLoc (conv (locF (fun i => a (t + i)) e) (tuF a bv (t + e) m)) m e t' L' → ∀ j, j < t → ev (t' + 1) L' (a j) = 0 := fun t' L' htt h' j hj => by
    have c := loc_cross hL h' (by omega)
    rw [hW, tu_om hm] at c
    obtain ⟨n, hn⟩ : ∃ n, Fin0 (higF m (conv L' (conv (locF (fun i => a (t + i)) e) (tuF a bv (t + e) m)))) n := by
      have hT : Fin0 (tuF a bv (t + e) m) m := fun i hi => S_zero fun k _ => by unfold geoF; rw [if_neg (by omega), mu_zero]
      exact ⟨t' + 1 + (e + 1 + m), fun i hi => (h'.fin.conv ((locF_fin (fun i => a (t + i)) e).conv hT)) (m + i) (by omega)⟩
    have e1 := ev_conv (a j) (locF_fin a t) hn
    have e2 := ev_conv (a j) h'.fin (om_fin a bv (t + e))
    rw [ev_loc, PD_zero.2 ⟨j, hj, rfl⟩, zero_mu] at e1
    rw [om_at (by omega)] at e2
    have e3 : ev (t + 1 + n) (conv (locF a t) (higF m (conv L' (conv (locF (fun i => a (t + i)) e) (tuF a bv (t + e) m))))) (a j) = ev (t' + 1 + (t + e)) (conv L' (omF a bv (t + e))) (a j) := by
      rw [← c]
      exact ev_eq (a j) (((locF_fin a t).conv hn).mono (by omega)) (by rw [c]; exact (h'.fin.conv (om_fin a bv (t + e))).mono (by omega))
    rw [e1, e2] at e3
    rcases mu_eq_zero.1 e3.symm with h0 | h0
    · exact h0
    · rcases mu_eq_zero.1 h0 with h0 | h0
      · exact absurd h0 (hb j hj)
      · exact absurd h0 (PE_own a j (t + e) fun l hl hne h => hd j l (by omega) hl (fun x => hne x.symm) (x_eq_zero.1 h))
  refine ⟨hL, hm, fun t' L' h1 h2 => ?_, fun L' h2 => ?_⟩
  · rcases Nat.lt_or_ge t' t with h | h
    · have := roots_all h2.fin a (fun i j hi hj => hd i j (by omega) (by omega)) (fun i hi => root t' L' (by omega) h2 i (by omega)) t'
      rw [h2.top] at this
      cases this
    · exact h
  · have hD : Fin0 (addF L' (locF a t)) t := fun i hi => by
      rw [addF_at]
      by_cases e0 : i = t
      · rw [e0, h2.top, locF_top, x_self]
      · rw [h2.fin i (by omega), locF_fin a t i (by omega), x_self]
    have := roots_all hD a (fun i j hi hj => hd i j (by omega) (by omega)) (fun i hi => by
      rw [← ev_more (a i) hD (show t ≤ t + 1 by omega), ev_add, root t L' (Nat.le_refl _) h2 i hi, ev_loc, PD_zero.2 ⟨i, hi, rfl⟩]; rfl)
    funext i
    exact x_eq_zero.1 (this i)
end

/-! .. as lists. -/
theorem co_app {p q : List UInt8} {i : Nat} : co (p ++ q) i = if i < p.length then co p i else co q (i - p.length) := by
  split
  · exact co_append_lt (by assumption)
  · exact co_append_ge (by omega)
section
variable {s pts ks bs zs : List UInt8}
/-- s are the syndromes of all points -/
def SyOf (s pts ks bs zs : List UInt8) : Prop := ∀ l, l < s.length → co s l = syP (co (pts ++ ks)) (co (bs ++ zs)) (pts.length + ks.length) l
theorem find_keP (hs : SyOf s pts ks bs zs) : keP s (locL ks) = conv (locF (fun i => co (pts ++ ks) (pts.length + i)) ks.length) (tuF (co (pts ++ ks)) (co (bs ++ zs)) (pts.length + ks.length) s.length) := by
  unfold keP
  have e1 : co (locL ks) = locF (fun i => co (pts ++ ks) (pts.length + i)) ks.length := by
    unfold locL
    rw [co_locN]
    exact locF_congr fun i hi => by rw [co_append_ge (by omega), Nat.add_sub_cancel_left]
  have e2 : co s.reverse = tuF (co (pts ++ ks)) (co (bs ++ zs)) (pts.length + ks.length) s.length := by
    funext i
    unfold tuF
    by_cases h : i < s.length
    · rw [co_rev h, hs _ (by omega)]
      exact S_congr fun k _ => by unfold geoF; rw [if_pos h]
    · rw [co_ge (by rw [List.length_reverse]; omega)]
      exact (S_zero fun k _ => by unfold geoF; rw [if_neg h, mu_zero]).symm
  rw [e1, e2]
theorem find_norm (ks : List UInt8) : (norm (locL ks)).length = ks.length + 1 := by unfold locL; rw [norm_locN, locN_length]
theorem find_loc (pts ks : List UInt8) : upto (locF (co (pts ++ ks)) pts.length) (pts.length + 1) = locL pts := by
  unfold locL locN
  rw [locF_congr fun i hi => co_append_lt hi]
theorem find_ok (hs : SyOf s pts ks bs zs) (hm : 2 * pts.length + ks.length ≤ s.length) (hb : bs.length = pts.length)
    (hd : ∀ i j, i < pts.length + ks.length → j < pts.length + ks.length → i ≠ j → co (pts ++ ks) i ≠ co (pts ++ ks) j) (h0 : ∀ i, i < pts.length → co bs i ≠ 0) :
    KeyAns s (locL ks) 0 (locL pts) (evaL s (locL ks) pts.length (locF (co (pts ++ ks)) pts.length)) := by
  have hl := find_least (bv := co (bs ++ zs)) hm hd (fun i hi => by rw [co_append_lt (by omega)]; exact h0 i hi)
  have nb : ¬ BadK s (locL ks) := by unfold BadK; rw [find_norm]; omega
  have := KeyAns.of_loc (t := pts.length) (L := locF (co (pts ++ ks)) pts.length) nb (by rw [find_norm, Nat.add_sub_cancel, find_keP hs]; exact hl)
  rw [find_loc] at this
  exact this
/-- the evaluator's value at a point -/
theorem find_eva (hs : SyOf s pts ks bs zs) (hm : 2 * pts.length + ks.length ≤ s.length) {j : Nat} (hj : j < pts.length + ks.length) :
    evP (evaL s (locL ks) pts.length (locF (co (pts ++ ks)) pts.length)) (co (pts ++ ks) j) = mu (co (bs ++ zs) j) (PE (co (pts ++ ks)) j (pts.length + ks.length) (co (pts ++ ks) j)) := by
  have e1 : co (evaL s (locL ks) pts.length (locF (co (pts ++ ks)) pts.length)) = omF (co (pts ++ ks)) (co (bs ++ zs)) (pts.length + ks.length) := by
    unfold evaL
    rw [co_mk (eva_fin (locF_fin _ _)), find_keP hs]
    have := tu_om (a := co (pts ++ ks)) (bv := co (bs ++ zs)) hm
    rw [← this]
    funext i
    show conv _ _ _ = higF _ _ _
    rw [← conv_assoc, ← locF_append]; rfl
  rw [← om_at hj]
  unfold evP
  rw [e1]
  exact ev_eq _ (by rw [← e1]; exact co_fin _) (om_fin _ _ _)
/-- the derivative's value at a point -/
theorem find_der (pts ks : List UInt8) {j : Nat} (hj : j < pts.length + ks.length) :
    evP (derP (mulP (locL pts) (locL ks))) (co (pts ++ ks) j) = PE (co (pts ++ ks)) j (pts.length + ks.length) (co (pts ++ ks) j) := by
  have e1 : co (mulP (locL pts) (locL ks)) = locF (co (pts ++ ks)) (pts.length + ks.length) := by
    rw [co_mulP]
    unfold locL
    rw [co_locN, co_locN, locF_append]
    congr 1
    · exact locF_congr fun i hi => (co_append_lt hi).symm
    · exact locF_congr fun i hi => by rw [co_append_ge (by omega), Nat.add_sub_cancel_left]
  rw [← ev_der hj]
  unfold evP
  have e2 := co_derP (mulP (locL pts) (locL ks))
  rw [e1] at e2
  rw [e2]
  exact ev_eq _ (by rw [← e2]; exact co_fin _) ((locF_fin _ _).der.mono (by omega))
theorem find_ne (hd : ∀ i j, i < pts.length + ks.length → j < pts.length + ks.length → i ≠ j → co (pts ++ ks) i ≠ co (pts ++ ks) j) {j : Nat} (hj : j < pts.length + ks.length) :
    PE (co (pts ++ ks)) j (pts.length + ks.length) (co (pts ++ ks) j) ≠ 0 :=
  PE_own _ j _ fun l hl hne h => hd j l hj hl (fun x => hne x.symm) (x_eq_zero.1 h)
end

end Go.Proofs.Ytlbachgbeefhcab.Gf

/-
  THE STATEMENTS' HEAD OF LAYER 9 BY CONTRACT: 'awake' answers true.
-/



namespace Go.Proofs.Ytlbachgbeefhcab.Gf
set_option linter.unusedVariables false
set_option linter.unusedSimpArgs false
open Go.RowKit

theorem same9_t {va vb : Value} {p q : List UInt8} {w : World} (hp : Rd w va p) (hq : Rd w vb q) (h : p = q) : Calls Try.prog 8 #[va, vb] w fun e w' => e = .returned (.bool true) ∧ Below w.heap.size w w' :=
  (same_b hp hq).mono fun e w' ⟨h1, h2⟩ => ⟨by rw [h1, sameB_of h], h2⟩
theorem ke_aw1 : KeyAns [5, 5] [1] 0 [1, 1] [5] := by
  have h := find_ok (s := [5, 5]) (pts := [1]) (ks := []) (bs := [5]) (zs := []) (fun l hl => by
    rcases l with _ | _ | l
    · decide +kernel
    · decide +kernel
    · simp at hl; omega) (by decide) (by decide) (fun i j hi hj hne => by simp at hi hj; omega) (fun i hi => by
    rcases i with _ | i
    · decide
    · simp at hi)
  have e1 : locL [] = [1] := by decide +kernel
  have e2 : locL [1] = [1, 1] := by decide +kernel
  have e3 : evaL [5, 5] [1] [(1 : UInt8)].length (locF (co ([1] ++ [])) [(1 : UInt8)].length) = [5] := by decide +kernel
  rw [e1, e2, e3] at h
  exact h
theorem ke_aw2 : KeyAns [0, 5] [1] 100 [] [] := by
  have hn : norm [1] = [1] := by decide +kernel
  refine Or.inr (Or.inr ⟨?_, fun t L h1 h2 => ?_, rfl, rfl, rfl⟩)
  · unfold BadK; rw [hn]; decide
  · rw [hn] at h1 h2
    simp at h1
    have p0 : keP [0, 5] [1] 0 = 5 := by decide +kernel
    have p1 : keP [0, 5] [1] 1 = 0 := by decide +kernel
    rcases t with _ | _ | t
    · have := h2.zero 0 (by simp) (by simp)
      unfold conv at this
      rw [S, S, zero_x, h2.top] at this
      rw [show 0 - 0 = 0 from rfl, p0, one_mu] at this
      cases this
    · have := h2.zero 1 (by simp) (by simp)
      unfold conv at this
      rw [S, S, S, zero_x] at this
      rw [show 1 - 0 = 1 from rfl, show 1 - 1 = 0 from rfl, p0, p1, mu_zero, zero_x, h2.top, one_mu] at this
      cases this
    · omega
theorem ke_aw3 : KeyAns [] [] 1 [] [] := Or.inl ⟨Or.inl (by decide +kernel), rfl, rfl, rfl⟩
theorem ke_aw4 : locL [1, 2] = [2, 3, 1] := by decide +kernel

set_option maxRecDepth 100000 in
set_option maxHeartbeats 4000000 in
theorem awake9_any (w : World) : Calls Try.prog 4 #[] w fun e w' => e = .returned (.bool true) ∧ Below w.heap.size w w' := by
  go_enter Try.func4, Try.ntmps4
  have B : Below w.heap.size w w := Below.refl _ _
  go_wp2_with fail
  refine (new_any _).mono ?_
  rintro e u1 ⟨rfl, F, hO⟩
  have b := hO.below
  clear hO
  have D : Below (World.heap w |>.size) w u1 := Below.next (by repeat (first | exact Below.refl _ _ | apply Below.drewN | apply Below.drew | apply Below.draws | apply below_lit)) b
  replace B := Below.next B D
  clear b D
  go_wp2_with fail
  refine (ksol_any (F.below (by repeat (first | exact Below.refl _ _ | apply Below.drewN | apply Below.drew | apply Below.draws | apply below_lit))) ((rd_lit2 (w := u1) (cs := #[.int .u8 5, .int .u8 5]) (e := 5) [5, 5] (by simp) rfl rfl (by decide)).below (by repeat (first | exact Below.refl _ _ | apply Below.drewN | apply Below.drew | apply Below.draws | apply below_lit))) ((rd_lit2 (w := (World.alloc u1 (.cells #[.int .u8 5, .int .u8 5] 5))) (cs := #[.int .u8 1]) (e := 5) [1] (by simp) rfl rfl (by decide)).below (by repeat (first | exact Below.refl _ _ | apply Below.drewN | apply Below.drew | apply Below.draws | apply below_lit))) (by decide) (by decide)).mono ?_
  rintro e u2 ⟨X1, A1, O1, va, vo, HK1, rfl, Ra, Ro, b⟩
  obtain ⟨rfl, rfl, rfl⟩ := ke_aw1.unique HK1
  clear HK1
  have D : Below (World.heap u1 |>.size) u1 u2 := Below.next (by repeat (first | exact Below.refl _ _ | apply Below.drewN | apply Below.drew | apply Below.draws | apply below_lit)) b
  replace F := F.below D
  replace B := Below.next B D
  clear b D
  obtain ⟨aa, ca, rfl⟩ := Ra.form
  obtain ⟨ao, co1, rfl⟩ := Ro.form
  go_wp2_with fail
  refine (ksol_any (F.below (by repeat (first | exact Below.refl _ _ | apply Below.drewN | apply Below.drew | apply Below.draws | apply below_lit))) ((rd_lit2 (w := u2) (cs := #[.int .u8 0, .int .u8 5]) (e := 5) [0, 5] (by simp) rfl rfl (by decide)).below (by repeat (first | exact Below.refl _ _ | apply Below.drewN | apply Below.drew | apply Below.draws | apply below_lit))) ((rd_lit2 (w := (World.alloc u2 (.cells #[.int .u8 0, .int .u8 5] 5))) (cs := #[.int .u8 1]) (e := 5) [1] (by simp) rfl rfl (by decide)).below (by repeat (first | exact Below.refl _ _ | apply Below.drewN | apply Below.drew | apply Below.draws | apply below_lit))) (by decide) (by decide)).mono ?_
  rintro e u3 ⟨X2, A2, O2, vb, vp, HK2, rfl, Rb, Rp, b⟩
  obtain ⟨rfl, rfl, rfl⟩ := ke_aw2.unique HK2
  clear HK2
  obtain ⟨ab, cb, rfl⟩ := Rb.form
  obtain ⟨ap, cp, rfl⟩ := Rp.form
  clear Rb Rp
  have D : Below (World.heap u2 |>.size) u2 u3 := Below.next (by repeat (first | exact Below.refl _ _ | apply Below.drewN | apply Below.drew | apply Below.draws | apply below_lit)) b
  replace F := F.below D
  replace Ra := Ra.below D
  replace Ro := Ro.below D
  replace B := Below.next B D
  clear b D
  go_wp2_with fail
  refine (ksol_any (F.below (by repeat (first | exact Below.refl _ _ | apply Below.drewN | apply Below.drew | apply Below.draws | apply below_lit))) (rd9_nil _) (rd9_nil _) (by decide) (by decide)).mono ?_
  rintro e u4 ⟨X3, A3, O3, vc, vq, HK3, rfl, Rc, Rq, b⟩
  obtain ⟨rfl, rfl, rfl⟩ := ke_aw3.unique HK3
  clear HK3
  obtain ⟨ac, cc, rfl⟩ := Rc.form
  obtain ⟨aq, cq, rfl⟩ := Rq.form
  clear Rc Rq
  have D : Below (World.heap u3 |>.size) u3 u4 := Below.next (by repeat (first | exact Below.refl _ _ | apply Below.drewN | apply Below.drew | apply Below.draws | apply below_lit)) b
  replace F := F.below D
  replace Ra := Ra.below D
  replace Ro := Ro.below D
  replace B := Below.next B D
  clear b D
  go_wp2_with fail
  refine (same9_t (Ra.below (by repeat (first | exact Below.refl _ _ | apply Below.drewN | apply Below.drew | apply Below.draws | apply below_lit))) ((rd_lit2 (w := u4) (cs := #[.int .u8 1, .int .u8 1]) (e := 5) [1, 1] (by simp) rfl rfl (by decide)).below (by repeat (first | exact Below.refl _ _ | apply Below.drewN | apply Below.drew | apply Below.draws | apply below_lit))) rfl).mono ?_
  rintro e u5 ⟨rfl, b⟩
  have D : Below (World.heap u4 |>.size) u4 u5 := Below.next (by repeat (first | exact Below.refl _ _ | apply Below.drewN | apply Below.drew | apply Below.draws | apply below_lit)) b
  replace F := F.below D
  replace Ra := Ra.below D
  replace Ro := Ro.below D
  replace B := Below.next B D
  clear b D
  go_wp2_with fail
  refine (same9_t (Ro.below (by repeat (first | exact Below.refl _ _ | apply Below.drewN | apply Below.drew | apply Below.draws | apply below_lit))) ((rd_lit2 (w := u5) (cs := #[.int .u8 5]) (e := 5) [5] (by simp) rfl rfl (by decide)).below (by repeat (first | exact Below.refl _ _ | apply Below.drewN | apply Below.drew | apply Below.draws | apply below_lit))) rfl).mono ?_
  rintro e u6 ⟨rfl, b⟩
  have D : Below (World.heap u5 |>.size) u5 u6 := Below.next (by repeat (first | exact Below.refl _ _ | apply Below.drewN | apply Below.drew | apply Below.draws | apply below_lit)) b
  replace F := F.below D
  replace Ra := Ra.below D
  replace Ro := Ro.below D
  replace B := Below.next B D
  clear b D
  go_wp2_with fail
  refine (kloc_any (F.below (by repeat (first | exact Below.refl _ _ | apply Below.drewN | apply Below.drew | apply Below.draws | apply below_lit))) ((rd_lit2 (w := u6) (cs := #[.int .u8 1, .int .u8 2]) (e := 5) [1, 2] (by simp) rfl rfl (by decide)).below (by repeat (first | exact Below.refl _ _ | apply Below.drewN | apply Below.drew | apply Below.draws | apply below_lit))) (by decide)).mono ?_
  rintro e u7 ⟨vl, rfl, Rl, b⟩
  rw [ke_aw4] at Rl
  have D : Below (World.heap u6 |>.size) u6 u7 := Below.next (by repeat (first | exact Below.refl _ _ | apply Below.drewN | apply Below.drew | apply Below.draws | apply below_lit)) b
  replace F := F.below D
  replace Ra := Ra.below D
  replace Ro := Ro.below D
  replace B := Below.next B D
  clear b D
  obtain ⟨la, lc, rfl⟩ := Rl.form
  go_wp2_with fail
  refine (same9_t (Rl.below (by repeat (first | exact Below.refl _ _ | apply Below.drewN | apply Below.drew | apply Below.draws | apply below_lit))) ((rd_lit2 (w := u7) (cs := #[.int .u8 2, .int .u8 3, .int .u8 1]) (e := 5) [2, 3, 1] (by simp) rfl rfl (by decide)).below (by repeat (first | exact Below.refl _ _ | apply Below.drewN | apply Below.drew | apply Below.draws | apply below_lit))) rfl).mono ?_
  rintro e u8 ⟨rfl, b⟩
  have D : Below (World.heap u7 |>.size) u7 u8 := Below.next (by repeat (first | exact Below.refl _ _ | apply Below.drewN | apply Below.drew | apply Below.draws | apply below_lit)) b
  replace F := F.below D
  replace Ra := Ra.below D
  replace Ro := Ro.below D
  replace Rl := Rl.below D
  replace B := Below.next B D
  clear b D
  go_wp2
  go_ret
  exact ⟨rfl, Below.next B (by repeat (first | exact Below.refl _ _ | apply Below.drewN | apply Below.drew | apply Below.draws | apply below_lit))⟩

end Go.Proofs.Ytlbachgbeefhcab.Gf

/-
  SMALL FACTS OF LAYER 9's STATEMENTS. No program's function is named here.
-/

namespace Go.Proofs.Ytlbachgbeefhcab.Gf
set_option linter.unusedVariables false
set_option linter.unusedSimpArgs false
open Go.RowKit

theorem norm_len9 (p : List UInt8) : (norm p).length ≤ p.length := by unfold norm; rw [mk_length]; exact deg_le _ _
theorem mulP_len9 (p q : List UInt8) : (mulP p q).length ≤ p.length + q.length := by unfold mulP; rw [mk_length]; exact deg_le _ _

theorem KeyAns.len {s known : List UInt8} {X : Int} {A O : List UInt8} (h : KeyAns s known X A O) : A.length ≤ s.length + 1 ∧ O.length ≤ 2 * s.length + known.length + 1 := by
  rcases h with ⟨_, _, rfl, rfl⟩ | ⟨_, t, L, hl, _, rfl, rfl⟩ | ⟨_, _, _, rfl, rfl⟩
  · simp
  · have hf := hl.few
    have := deg_le (fun i => conv L (keP s known) (s.length + i)) (t + 1 + (known.length + s.length))
    unfold evaL
    rw [upto_length, mk_length]
    omega
  · simp
theorem KeyAns.bad {s known : List UInt8} {X : Int} {A O : List UInt8} (h : KeyAns s known X A O) (hb : BadK s known) : X = 1 ∧ A = [] ∧ O = [] := by
  rcases h with ⟨_, h1, h2, h3⟩ | ⟨h, _⟩ | ⟨h, _⟩
  · exact ⟨h1, h2, h3⟩
  · exact absurd hb h
  · exact absurd hb h
theorem scP_upto (s : List UInt8) (c : UInt8) : scP s c = upto (fun i => mu (co s i) c) s.length := rfl

theorem below_new9 {w w' : World} {o : Obj} (h : (w.alloc o).grownBy w' (some w.heap.size)) : Below w.heap.size w w' :=
  ((Below.refl _ _).alloc (Nat.le_refl _) o).grown h (by simp) (fun k e => by cases e; exact Nat.le_refl _)
theorem own_new9 (w : World) (e : TypeId) : (w.alloc (.cells #[] e)).ownsRow w.heap.size e 1 (.slice (some ⟨w.heap.size, 0, none⟩) 0 0) 0 [] := World.ownsRow_made w #[] 0 (Nat.le_refl _) (Nat.zero_le _) rfl
theorem own_block9 (b n c : Nat) : (Value.slice (some ⟨b, 0, none⟩) n c).ownBlock = some b := rfl
theorem rd_two9 {w : World} {N e : Nat} {v : Value} {p q : List UInt8} (h : w.ownsRow N e 1 v (0 + p.length + q.length) ([] ++ p.map vb ++ q.map vb)) : Rd w v (p ++ q) := by
  refine Rd.owned (base := N) (e := e) ?_
  rw [List.length_append, List.map_append]
  rw [Nat.zero_add, List.nil_append] at h
  exact h
theorem below_own9 {w0 w w' : World} {N e n : Nat} {v : Value} {xs : List Value} (hB : Below N w0 w) (hN : N ≤ w.heap.size) (h : w.ownsRow N e 1 v n xs) (hg : w.grownBy w' v.ownBlock) : Below N w0 w' :=
  hB.grown hg hN (fun k hk => (World.ownsRow.lt h k hk).1)

/-- what 'KeyeqFinds' asks of each point -/
theorem find_back {s pts ks bs zs : List UInt8} (hs : SyOf s pts ks bs zs) (hm : 2 * pts.length + ks.length ≤ s.length)
    (hd : ∀ i j, i < pts.length + ks.length → j < pts.length + ks.length → i ≠ j → co (pts ++ ks) i ≠ co (pts ++ ks) j) {j : Nat} (hj : j < pts.length + ks.length) :
    mu (evP (evaL s (locL ks) pts.length (locF (co (pts ++ ks)) pts.length)) (co (pts ++ ks) j)) (iv (evP (derP (mulP (locL pts) (locL ks))) (co (pts ++ ks) j))) = co (bs ++ zs) j ∧ evP (derP (mulP (locL pts) (locL ks))) (co (pts ++ ks) j) ≠ 0 := by
  have hne := find_ne hd hj
  rw [find_der pts ks hj, find_eva hs hm hj, mu_assoc, mu_iv hne, mu_one]
  exact ⟨rfl, hne⟩
theorem unlike_all {p k : List UInt8} (h1 : ∀ i j, i < p.length → j < i → co p i ≠ co p j) (h2 : ∀ i j, i < p.length → j < k.length → co p i ≠ co k j) (h3 : ∀ i j, i < k.length → j < i → co k i ≠ co k j) :
    ∀ i j, i < p.length + k.length → j < p.length + k.length → i ≠ j → co (p ++ k) i ≠ co (p ++ k) j := by
  have low : ∀ i j, i < p.length + k.length → j < i → co (p ++ k) i ≠ co (p ++ k) j := fun i j hi hj => by
    rcases Nat.lt_or_ge i p.length with a | a
    · rw [co_append_lt a, co_append_lt (by omega)]; exact h1 i j a hj
    · rw [co_append_ge a]
      rcases Nat.lt_or_ge j p.length with c | c
      · rw [co_append_lt c]; exact fun e => h2 j (i - p.length) c (by omega) e.symm
      · rw [co_append_ge c]; exact h3 _ _ (by omega) (by omega)
  intro i j hi hj hne
  rcases Nat.lt_or_ge j i with a | a
  · exact low i j hi a
  · exact fun e => low j i hj (by omega) e.symm

end Go.Proofs.Ytlbachgbeefhcab.Gf

/-
  A PRODUCT OF BYTES BY CONTRACT.
-/

namespace Go.Proofs.Ytlbachgbeefhcab.Gf
set_option linter.unusedVariables false
set_option linter.unusedSimpArgs false
open Go.RowKit

theorem fmu_quiet {b : Nat} {w : World} (hF : FieldAt w b) (a c : UInt8) {x y : Int} (hx : x = ((a.toNat : Nat) : Int)) (hy : y = ((c.toNat : Nat) : Int)) :
    Calls Try.prog 6 #[.pointer (some ⟨b, 0, none⟩), .int .u8 x, .int .u8 y] w fun e w' => e = .returned (.int .u8 ((mu a c).toNat : Nat)) ∧ ∃ n, w' = w.drewN n := by
  rw [mu_toNat]
  exact mul_at hF a.toNat c.toNat hx hy (u8_lt a) (u8_lt c)

end Go.Proofs.Ytlbachgbeefhcab.Gf

