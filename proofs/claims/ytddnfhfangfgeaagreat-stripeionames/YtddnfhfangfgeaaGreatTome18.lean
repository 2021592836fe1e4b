/- TEXTS JOINED: KeCF, KeCode, SyCA, SyCB, WdCD. -/
import Derived.Test.YtddnfhfangfgeaaGreatTome15
import Derived.Test.YtddnfhfangfgeaaGreatTome3
import Derived.Test.YtddnfhfangfgeaaGreatTome17
import Derived.Test.YtddnfhfangfgeaaGreatTome12
namespace Go.Proofs.YtddnfhfangfgeaaGreat.Gf
set_option linter.unusedVariables false
set_option linter.unusedSimpArgs false
open Go.RowKit
theorem rd_e9 {w : World} {a : Option Addr} {c n : Nat} (h1 : c - n ≤ maxLen) (h2 : a = none → c = 0) : Rd w (.slice (Option.map (fun x => x.add n) a) 0 (c - n)) [] :=
  Or.inl ⟨_, _, rfl, rfl, h1, fun e => by
    cases a with
    | none => rw [h2 rfl]; exact Nat.zero_sub n
    | some x => cases e⟩
set_option maxRecDepth 100000 in
set_option maxHeartbeats 1000000 in
theorem kfrom_any {w : World} {v : Value} {p : List UInt8} (hp : Rd w v p) (hl : p.length ≤ 100000) {m : Nat} (hm : m ≤ 100000) {x : Int} (hx : x = (m : Int)) : Calls Tryz.prog 198 #[v, .int .i64 x] w (MakesF w (norm (p.drop m))) := by
  subst hx
  by_cases hlt : m < p.length
  · obtain ⟨b, off, c, rfl, hc1, hc2⟩ := hp.spot9 (by omega)
    have hr := hp.behind hlt rfl
    unfold maxLen at hc2
    obtain ⟨n, hn⟩ : ∃ n, Hid (n = p.length) := ⟨_, rfl⟩
    obtain ⟨k, hk⟩ : ∃ k, Hid (k = n - m) := ⟨_, rfl⟩
    have hdl : Hid ((p.drop m).length ≤ 100000) := by show _ ≤ _; rw [List.length_drop]; omega
    rw [← hn.out] at hr hlt hc1 hl ⊢
    rw [← hk.out] at hr
    have hlt' : (m : Int) < (n : Int) := by omega
    have hge : ¬ (n : Int) < (m : Int) := by omega
    have hmn : m ≤ n := by omega
    have hmc : m < c := by omega
    have hcm : ¬ c = m := by omega
    have hnk : n - m = k := by rw [hk.out]
    go_enter Tryz.func198, Tryz.ntmps198
    go_wp2_with fail
    refine (pnorm_far hr (Nat.le_trans hdl.out (by decide))).mono ?_
    rintro e w2 ⟨v2, rfl, hr2, hb2, hf2⟩
    go_wp2
    go_ret
    exact ⟨_, rfl, hr2, hb2, hf2⟩
  · have hd : p.drop m = [] := List.drop_eq_nil_of_le (by omega)
    rw [hd]
    obtain ⟨a, c, rfl⟩ := hp.form
    have hc : p.length ≤ c ∧ c ≤ maxLen ∧ (a = none → c = 0) := by
      rcases hp with ⟨a', c', e, e2, h3, h4⟩ | ⟨b, o, c', h1, e2, h3, h4, _⟩
      · simp at e2; obtain ⟨rfl, _, rfl⟩ := e2; subst e; exact ⟨Nat.zero_le _, h3, h4⟩
      · simp at e2; obtain ⟨rfl, rfl⟩ := e2; exact ⟨h3, h4, fun h => by cases h⟩
    obtain ⟨hc1, hc2, hc3⟩ := hc
    obtain ⟨n, hn⟩ : ∃ n, Hid (n = p.length) := ⟨_, rfl⟩
    rw [← hn.out] at hlt hc1 hl ⊢
    clear hp hd
    have hlt' : ¬ (m : Int) < (n : Int) := by omega
    unfold maxLen at hc2
    go_enter Tryz.func198, Tryz.ntmps198
    by_cases e1 : (n : Int) < (m : Int)
    · go_wp2_with fail
      · refine (pnorm_far (p := []) (Or.inl ⟨_, _, rfl, rfl, Nat.zero_le _, fun _ => rfl⟩) (by decide)).mono ?_
        rintro e w2 ⟨v2, rfl, hr2, hb2, hf2⟩
        go_wp2
        go_ret
        exact ⟨_, rfl, hr2, hb2, hf2⟩
      · refine (pnorm_far (p := []) (rd_e9 (by unfold maxLen; omega) hc3) (by decide)).mono ?_
        rintro e w2 ⟨v2, rfl, hr2, hb2, hf2⟩
        go_wp2
        go_ret
        exact ⟨_, rfl, hr2, hb2, hf2⟩
    · obtain rfl : n = m := by omega
      clear e1 hlt' hlt
      go_wp2_with fail
      · refine (pnorm_far (p := []) (Or.inl ⟨_, _, rfl, rfl, Nat.zero_le _, fun _ => rfl⟩) (by decide)).mono ?_
        rintro e w2 ⟨v2, rfl, hr2, hb2, hf2⟩
        go_wp2
        go_ret
        exact ⟨_, rfl, hr2, hb2, hf2⟩
      · refine (pnorm_far (p := []) (rd_e9 (by unfold maxLen; omega) hc3) (by decide)).mono ?_
        rintro e w2 ⟨v2, rfl, hr2, hb2, hf2⟩
        go_wp2
        go_ret
        exact ⟨_, rfl, hr2, hb2, hf2⟩
end Go.Proofs.YtddnfhfangfgeaaGreat.Gf

namespace Go.Proofs.YtddnfhfangfgeaaGreat.Gf
set_option linter.unusedVariables false
set_option linter.unusedSimpArgs false
open Go.RowKit
theorem Rd.first9 {w : World} {a : Option Addr} {n c k : Nat} {p : List UInt8} (h : Rd w (.slice a n c) p) (hk : k ≤ n) : Rd w (.slice a k c) (p.take k) := by
  rcases h with ⟨a', c', e, e2, h3, h4⟩ | ⟨b, off, c', h1, e2, h3, h4, h5, h6⟩
  · simp at e2
    obtain ⟨rfl, rfl, rfl⟩ := e2
    subst e
    obtain rfl : k = 0 := by omega
    exact Or.inl ⟨_, _, rfl, rfl, h3, h4⟩
  · simp at e2
    obtain ⟨rfl, rfl, rfl⟩ := e2
    have hl : (p.take k).length = k := by rw [List.length_take]; omega
    by_cases h0 : k = 0
    · subst h0
      exact Or.inl ⟨_, _, by simp, rfl, h4, fun h => by cases h⟩
    · refine Or.inr ⟨b, off, c, fun e => by rw [e] at hl; simp at hl; omega, by rw [hl], by rw [hl]; omega, h4, h5, fun i hi => ?_⟩
      rw [hl] at hi
      rw [co_take hi]
      exact h6 i (by omega)
theorem Rd.caps {w : World} {a : Option Addr} {n c : Nat} {p : List UInt8} (h : Rd w (.slice a n c) p) : n = p.length ∧ n ≤ c ∧ c ≤ 9223372036854775807 := by
  rcases h with ⟨a', c', e, e2, h3, h4⟩ | ⟨b, off, c', h1, e2, h3, h4, h5, h6⟩
  · simp at e2; obtain ⟨rfl, rfl, rfl⟩ := e2; subst e; unfold maxLen at h3; exact ⟨rfl, Nat.zero_le _, by omega⟩
  · simp at e2; obtain ⟨rfl, rfl, rfl⟩ := e2; unfold maxLen at h4; exact ⟨rfl, h3, by omega⟩
theorem keP_told (s known : List UInt8) : co (mulP (norm known) s.reverse) = keP s known := by
  rw [co_mulP, co_norm]; rfl
theorem told_take {s known : List UInt8} {k : Nat} (hk : k = min s.length (mulP (norm known) s.reverse).length) : ((mulP (norm known) s.reverse).take k).length ≤ s.length ∧ ∀ j, j < s.length → co ((mulP (norm known) s.reverse).take k) j = keP s known j := by
  rw [← keP_told]
  refine ⟨by rw [List.length_take]; omega, fun j hj => ?_⟩
  by_cases h : j < k
  · rw [co_take h]
  · rw [co_ge (p := (mulP (norm known) s.reverse).take k) (by rw [List.length_take]; omega), co_ge (by omega)]
theorem eva_told {s known : List UInt8} {t : Nat} {L : Nat → UInt8} (h : Fin0 L (t + 1)) : norm ((mulP (upto L (t + 1)) (mulP (norm known) s.reverse)).drop s.length) = evaL s known t L := by
  have e : co (upto L (t + 1)) = L := funext fun i => co_upto h i
  have hf := fin_conv (upto L (t + 1)) (mulP (norm known) s.reverse)
  have e1 : (mulP (upto L (t + 1)) (mulP (norm known) s.reverse)).drop s.length = evaL s known t L := by
    unfold evaL
    show (mk (conv (co (upto L (t + 1))) (co (mulP (norm known) s.reverse))) _).drop s.length = _
    rw [keP_told, e] at hf ⊢
    exact drop_mk hf (eva_fin h)
  rw [e1]
  exact norm_mk (eva_fin h)
set_option maxRecDepth 100000 in
set_option maxHeartbeats 4000000 in
theorem ksol_any {w : World} {b : Nat} {vs vk : Value} {s known : List UInt8} (hF : FieldAt w b) (hs : Rd w vs s) (hk : Rd w vk known) (hl : s.length ≤ 300) (hl2 : known.length ≤ 300) : Calls Tryz.prog 169 #[.pointer (some ⟨b, 0, none⟩), vs, vk] w (MakesK w s known) := by
  obtain ⟨sa, sc, rfl⟩ := hs.form
  go_enter Tryz.func169, Tryz.ntmps169
  go_wp2_with fail
  refine (pnorm_any hk (by omega)).mono ?_
  rintro e9 w1 ⟨v1, rfl, r1, b1⟩
  have hn := norm_length_le known
  obtain ⟨K, hK⟩ : ∃ K, Hid (K = norm known) := ⟨_, rfl⟩
  rw [← hK.out] at r1 hn
  obtain ⟨ka, kc, rfl⟩ := r1.form
  replace hs := hs.below b1
  have hF1 := hF.below b1
  obtain ⟨m, hm⟩ : ∃ m, Hid (m = s.length) := ⟨_, rfl⟩
  obtain ⟨n, hn9⟩ : ∃ n, Hid (n = K.length) := ⟨_, rfl⟩
  have hm3 : m ≤ 300 := by rw [hm.out]; exact hl
  have hn3 : n ≤ 300 := by rw [hn9.out]; omega
  rw [← hm.out] at hs ⊢
  rw [← hn9.out] at r1 ⊢
  have gw1 : IntKind.i64.wrap ((n : Int) - 1) = (n : Int) - 1 := by rw [IntKind.wrap_i64]; omega
  clear hn hk hF
  by_cases h0 : n = 0
  · have g1 : (n : Int) - 1 < 0 := by omega
    have HF : Hid (KeyAns s known 1 [] []) := Or.inl ⟨Or.inl (by rw [← hK.out, ← hn9.out]; exact h0), rfl, rfl, rfl⟩
    clear h0
    go_wp2
    go_ret3
    exact MakesK.mk HF.out (rd9_nil _) (rd9_nil _) b1
  by_cases h1 : m + 1 < n
  · have g1 : ¬ (n : Int) - 1 < 0 := by omega
    have g2 : (n : Int) - 1 > (m : Int) := by omega
    have HF : Hid (KeyAns s known 1 [] []) := Or.inl ⟨Or.inr (by rw [← hK.out, ← hn9.out, ← hm.out]; exact h1), rfl, rfl, rfl⟩
    clear h0 h1
    go_wp2
    go_ret3
    exact MakesK.mk HF.out (rd9_nil _) (rd9_nil _) b1
  have hB : Hid (¬ BadK s known) := by
    unfold Hid BadK
    rw [← hK.out, ← hn9.out, ← hm.out]
    omega
  obtain ⟨E, hE⟩ : ∃ E, Hid (E = n - 1) := ⟨_, rfl⟩
  have gE : (n : Int) - 1 = (E : Int) := by have := hE.out; omega
  have hEm : E ≤ m := by have := hE.out; omega
  have g1 : ¬ (E : Int) < 0 := by omega
  have g2 : ¬ (E : Int) > (m : Int) := by omega
  have gw2 : IntKind.i64.wrap (E : Int) = (E : Int) := by rw [IntKind.wrap_i64]; omega
  clear gw1 h0 h1
  have hsl : Hid (s.length ≤ 1000) := by show _ ≤ _; omega
  go_wp2_with fail
  refine (kturn_any hs hsl.out).mono ?_
  rintro e9 w2 ⟨v2, rfl, r2, b2, _⟩
  replace b1 := Below.next b1 b2
  replace r1 := r1.below b2
  have hF2 := hF1.below b2
  have hrl : Hid (s.reverse.length = m) := by show _ = _; rw [List.length_reverse, hm.out]
  clear hF1 hs b2
  go_wp2_with fail
  refine (pmul_any hF2 r1 r2 (by rw [← hn9.out]; omega) (by rw [hrl.out]; omega)).mono ?_
  rintro e9 w3 ⟨v3, rfl, r3, b3⟩
  have hpl := mulP_length_le K s.reverse
  rw [← hn9.out, hrl.out] at hpl
  obtain ⟨P, hP⟩ : ∃ P, Hid (P = mulP K s.reverse) := ⟨_, rfl⟩
  rw [← hP.out] at r3 hpl
  have HP : Hid (P = mulP (norm known) s.reverse) := by show _ = _; rw [hP.out, hK.out]
  obtain ⟨pa, pc, rfl⟩ := r3.form
  obtain ⟨_, hpc, hpm⟩ := r3.caps
  replace b1 := Below.next b1 b3
  have hF3 := hF2.below b3
  obtain ⟨pn, hpn⟩ : ∃ pn, Hid (pn = P.length) := ⟨_, rfl⟩
  rw [← hpn.out] at hpl hpc r3 ⊢
  clear hF2 r1 r2 b3
  obtain ⟨k, hk⟩ : ∃ k, Hid (k = min m pn) := ⟨_, rfl⟩
  have hkn : k ≤ pn := by have := hk.out; omega
  have hkc : k ≤ pc := by omega
  have rT := r3.first9 hkn
  have HT : Hid ((P.take k).length ≤ s.length ∧ ∀ j, j < s.length → co (P.take k) j = keP s known j) := by
    rw [HP.out]
    exact told_take (by rw [hk.out, hpn.out, HP.out, hm.out])
  obtain ⟨HT1, HT2⟩ := HT.out
  have HC := keuc_any (e := E) hF3 rT HT1 HT2 hl (by rw [← hm.out]; exact hEm) rfl rfl
  rw [← hm.out] at HC
  clear HT1 HT2 rT
  rcases Nat.lt_or_ge pn m with hlt | hge
  rotate_left
  · have ek : k = m := by have := hk.out; omega
    rw [ek] at HC hkn hkc
    have hlt' : ¬ (pn : Int) < (m : Int) := by omega
    clear ek
    go_wp2_with fail
    refine HC.mono ?_
    rintro e9 w4 ⟨r0, v0, R1, C1, vc, vl, hU, hEnd, rfl, rc, rl, b4⟩
    obtain ⟨f1, f2, f3, f4, f5⟩ := hU.fac
    rw [← hm.out] at f2 f3 f5
    obtain ⟨ca, cc, rfl⟩ := rc.form
    obtain ⟨la, lc, rfl⟩ := rl.form
    replace b1 := Below.next b1 b4
    replace r3 := r3.below b4
    have hF4 := hF3.below b4
    obtain ⟨c, hc⟩ : ∃ c, Hid (c = C1.length) := ⟨_, rfl⟩
    obtain ⟨t, ht⟩ : ∃ t, Hid (t = c - 1) := ⟨_, rfl⟩
    obtain ⟨l, hl9⟩ : ∃ l, Hid (l = R1.length) := ⟨_, rfl⟩
    have hc1 : 1 ≤ c := by rw [hc.out]; exact f1
    have hc2 : c ≤ 301 := by rw [hc.out]; omega
    have hl3 : l ≤ 301 := by rw [hl9.out]; omega
    have gt : (c : Int) - 1 = (t : Int) := by have := ht.out; omega
    have ht3 : t ≤ 300 := by have := ht.out; omega
    have gtw : IntKind.i64.wrap (t : Int) = (t : Int) := by rw [IntKind.wrap_i64]; omega
    obtain ⟨q, hq⟩ : ∃ q, Hid (q = E + t) := ⟨_, rfl⟩
    have gq : (E : Int) + (t : Int) = (q : Int) := by have := hq.out; omega
    have hq6 : q ≤ 600 := by have := hq.out; omega
    have gqw : IntKind.i64.wrap (q : Int) = (q : Int) := by rw [IntKind.wrap_i64]; omega
    have HE2 : Hid ((norm known).length - 1 = E) := by show _ = _; rw [← hK.out, ← hn9.out, hE.out]
    rcases Nat.lt_or_ge q l with hql | hql
    · have g3 : (l : Int) > (q : Int) := by omega
      have HF : Hid (KeyAns s known 100 [] []) := by
        refine Or.inr (Or.inr ⟨hB.out, ?_, rfl, rfl, rfl⟩)
        rw [HE2.out]
        exact hU.none hEnd (by rw [← hc.out, ← ht.out, ← hq.out, ← hl9.out]; exact hql)
      rw [← hc.out, ← hl9.out]
      clear HC hU hEnd f1 f2 f3 f4 f5 rc rl r3 HT hF3 hF4 b4
      go_wp2
      go_ret3
      exact MakesK.mk HF.out (rd9_nil _) (rd9_nil _) b1
    · have g3 : ¬ (l : Int) > (q : Int) := by omega
      obtain ⟨k1, k2, k3⟩ := hU.least hEnd (by rw [← hc.out, ← ht.out, ← hq.out, ← hl9.out]; exact hql)
      have HL : Hid (LeastLoc (keP s known) s.length E t (fun j => mu (iv (co C1 (C1.length - 1))) (co C1 j))) := by
        show LeastLoc _ _ _ _ _
        rw [ht.out, hc.out]; exact k3
      have HC5 := ktop_any hF4 rc (by omega) k1 k2
      obtain ⟨A, hA⟩ : ∃ A, Hid (A = fun j => mu (iv (co C1 (C1.length - 1))) (co C1 j)) := ⟨_, rfl⟩
      rw [← hA.out] at HC5 HL
      rw [show C1.length - 1 + 1 = t + 1 by rw [ht.out, hc.out]] at HC5
      obtain ⟨AL, hAL⟩ : ∃ AL, Hid (AL = upto A (t + 1)) := ⟨_, rfl⟩
      have hALl : Hid (AL.length = t + 1) := by show _ = _; rw [hAL.out, upto_length]
      rw [← hAL.out] at HC5
      rw [← hc.out] at HC5 ⊢
      rw [← hl9.out]
      clear HC hU hEnd f1 f2 f3 f4 f5 rc rl HT hF3 b4 k1 k2 k3
      go_wp2_with fail
      refine HC5.mono ?_
      rintro e9 w5 ⟨v5, rfl, r5, b5, _⟩
      replace b1 := Below.next b1 b5
      replace r3 := r3.below b5
      have hF5 := hF4.below b5
      obtain ⟨a5, c5, rfl⟩ := r5.form
      rw [hALl.out] at r5 ⊢
      clear HC5 hF4 b5
      go_wp2_with fail
      refine (pmul_any hF5 r5 r3 (by rw [hALl.out]; omega) (by rw [← hpn.out]; omega)).mono ?_
      rintro e9 w6 ⟨v6, rfl, r6, b6⟩
      have h6 := mulP_length_le AL P
      rw [hALl.out, ← hpn.out] at h6
      have HO : Hid (norm ((mulP AL P).drop m) = evaL s known t A) := by
        show _ = _
        rw [hAL.out, HP.out, hm.out]
        exact eva_told HL.out.loc.fin
      obtain ⟨Q, hQ⟩ : ∃ Q, Hid (Q = mulP AL P) := ⟨_, rfl⟩
      rw [← hQ.out] at r6 h6 HO
      replace b1 := Below.next b1 b6
      replace r5 := r5.below b6
      clear hF5 r3 b6
      go_wp2_with fail
      refine (kfrom_any r6 (by omega) (m := m) (by omega) rfl).mono ?_
      rintro e9 w7 ⟨v7, rfl, r7, b7, _⟩
      rw [HO.out] at r7
      replace b1 := Below.next b1 b7
      replace r5 := r5.below b7
      obtain ⟨a7, c7, rfl⟩ := r7.form
      have HF : Hid (KeyAns s known 0 AL (evaL s known t A)) := by
        rw [hAL.out]
        refine KeyAns.of_loc hB.out ?_
        rw [HE2.out]; exact HL.out
      obtain ⟨O, hO⟩ : ∃ O, Hid (O = evaL s known t A) := ⟨_, rfl⟩
      rw [← hO.out] at r7 HF ⊢
      clear b7 r6
      go_wp2
      go_ret3
      exact MakesK.mk HF.out r5 r7 b1
  · have ek : k = pn := by have := hk.out; omega
    rw [ek] at HC hkn hkc
    have hlt' : (pn : Int) < (m : Int) := by omega
    clear ek
    go_wp2_with fail
    refine HC.mono ?_
    rintro e9 w4 ⟨r0, v0, R1, C1, vc, vl, hU, hEnd, rfl, rc, rl, b4⟩
    obtain ⟨f1, f2, f3, f4, f5⟩ := hU.fac
    rw [← hm.out] at f2 f3 f5
    obtain ⟨ca, cc, rfl⟩ := rc.form
    obtain ⟨la, lc, rfl⟩ := rl.form
    replace b1 := Below.next b1 b4
    replace r3 := r3.below b4
    have hF4 := hF3.below b4
    obtain ⟨c, hc⟩ : ∃ c, Hid (c = C1.length) := ⟨_, rfl⟩
    obtain ⟨t, ht⟩ : ∃ t, Hid (t = c - 1) := ⟨_, rfl⟩
    obtain ⟨l, hl9⟩ : ∃ l, Hid (l = R1.length) := ⟨_, rfl⟩
    have hc1 : 1 ≤ c := by rw [hc.out]; exact f1
    have hc2 : c ≤ 301 := by rw [hc.out]; omega
    have hl3 : l ≤ 301 := by rw [hl9.out]; omega
    have gt : (c : Int) - 1 = (t : Int) := by have := ht.out; omega
    have ht3 : t ≤ 300 := by have := ht.out; omega
    have gtw : IntKind.i64.wrap (t : Int) = (t : Int) := by rw [IntKind.wrap_i64]; omega
    obtain ⟨q, hq⟩ : ∃ q, Hid (q = E + t) := ⟨_, rfl⟩
    have gq : (E : Int) + (t : Int) = (q : Int) := by have := hq.out; omega
    have hq6 : q ≤ 600 := by have := hq.out; omega
    have gqw : IntKind.i64.wrap (q : Int) = (q : Int) := by rw [IntKind.wrap_i64]; omega
    have HE2 : Hid ((norm known).length - 1 = E) := by show _ = _; rw [← hK.out, ← hn9.out, hE.out]
    rcases Nat.lt_or_ge q l with hql | hql
    · have g3 : (l : Int) > (q : Int) := by omega
      have HF : Hid (KeyAns s known 100 [] []) := by
        refine Or.inr (Or.inr ⟨hB.out, ?_, rfl, rfl, rfl⟩)
        rw [HE2.out]
        exact hU.none hEnd (by rw [← hc.out, ← ht.out, ← hq.out, ← hl9.out]; exact hql)
      rw [← hc.out, ← hl9.out]
      clear HC hU hEnd f1 f2 f3 f4 f5 rc rl r3 HT hF3 hF4 b4
      go_wp2
      go_ret3
      exact MakesK.mk HF.out (rd9_nil _) (rd9_nil _) b1
    · have g3 : ¬ (l : Int) > (q : Int) := by omega
      obtain ⟨k1, k2, k3⟩ := hU.least hEnd (by rw [← hc.out, ← ht.out, ← hq.out, ← hl9.out]; exact hql)
      have HL : Hid (LeastLoc (keP s known) s.length E t (fun j => mu (iv (co C1 (C1.length - 1))) (co C1 j))) := by
        show LeastLoc _ _ _ _ _
        rw [ht.out, hc.out]; exact k3
      have HC5 := ktop_any hF4 rc (by omega) k1 k2
      obtain ⟨A, hA⟩ : ∃ A, Hid (A = fun j => mu (iv (co C1 (C1.length - 1))) (co C1 j)) := ⟨_, rfl⟩
      rw [← hA.out] at HC5 HL
      rw [show C1.length - 1 + 1 = t + 1 by rw [ht.out, hc.out]] at HC5
      obtain ⟨AL, hAL⟩ : ∃ AL, Hid (AL = upto A (t + 1)) := ⟨_, rfl⟩
      have hALl : Hid (AL.length = t + 1) := by show _ = _; rw [hAL.out, upto_length]
      rw [← hAL.out] at HC5
      rw [← hc.out] at HC5 ⊢
      rw [← hl9.out]
      clear HC hU hEnd f1 f2 f3 f4 f5 rc rl HT hF3 b4 k1 k2 k3
      go_wp2_with fail
      refine HC5.mono ?_
      rintro e9 w5 ⟨v5, rfl, r5, b5, _⟩
      replace b1 := Below.next b1 b5
      replace r3 := r3.below b5
      have hF5 := hF4.below b5
      obtain ⟨a5, c5, rfl⟩ := r5.form
      rw [hALl.out] at r5 ⊢
      clear HC5 hF4 b5
      go_wp2_with fail
      refine (pmul_any hF5 r5 r3 (by rw [hALl.out]; omega) (by rw [← hpn.out]; omega)).mono ?_
      rintro e9 w6 ⟨v6, rfl, r6, b6⟩
      have h6 := mulP_length_le AL P
      rw [hALl.out, ← hpn.out] at h6
      have HO : Hid (norm ((mulP AL P).drop m) = evaL s known t A) := by
        show _ = _
        rw [hAL.out, HP.out, hm.out]
        exact eva_told HL.out.loc.fin
      obtain ⟨Q, hQ⟩ : ∃ Q, Hid (Q = mulP AL P) := ⟨_, rfl⟩
      rw [← hQ.out] at r6 h6 HO
      replace b1 := Below.next b1 b6
      replace r5 := r5.below b6
      clear hF5 r3 b6
      go_wp2_with fail
      refine (kfrom_any r6 (by omega) (m := m) (by omega) rfl).mono ?_
      rintro e9 w7 ⟨v7, rfl, r7, b7, _⟩
      rw [HO.out] at r7
      replace b1 := Below.next b1 b7
      replace r5 := r5.below b7
      obtain ⟨a7, c7, rfl⟩ := r7.form
      have HF : Hid (KeyAns s known 0 AL (evaL s known t A)) := by
        rw [hAL.out]
        refine KeyAns.of_loc hB.out ?_
        rw [HE2.out]; exact HL.out
      obtain ⟨O, hO⟩ : ∃ O, Hid (O = evaL s known t A) := ⟨_, rfl⟩
      rw [← hO.out] at r7 HF ⊢
      clear b7 r6
      go_wp2
      go_ret3
      exact MakesK.mk HF.out r5 r7 b1
end Go.Proofs.YtddnfhfangfgeaaGreat.Gf

namespace Go.Proofs.YtddnfhfangfgeaaGreat.Gf
set_option linter.unusedVariables false
set_option linter.unusedSimpArgs false
open Go.RowKit
/-- what 'weighing' lays: its three variables -/
structure Wg8 (w : World) (b fb kb mb : Nat) (k m : Int) : Prop where
  cf : w.cell? ⟨fb, 0, none⟩ = some (.pointer (some ⟨b, 0, none⟩))
  ck : w.cell? ⟨kb, 0, none⟩ = some (.int .i64 k)
  cm : w.cell? ⟨mb, 0, none⟩ = some (.int .i64 m)
  lf : fb < w.heap.size
  lk : kb < w.heap.size
  lm : mb < w.heap.size
theorem Wg8.below {w w' : World} {b fb kb mb : Nat} {k m : Int} (h : Wg8 w b fb kb mb k m) (hb : Below w.heap.size w w') : Wg8 w' b fb kb mb k m :=
  ⟨(hb.cell (p := ⟨fb, 0, none⟩) h.lf).trans h.cf, (hb.cell (p := ⟨kb, 0, none⟩) h.lk).trans h.ck, (hb.cell (p := ⟨mb, 0, none⟩) h.lm).trans h.cm, Nat.lt_of_lt_of_le h.lf hb.size, Nat.lt_of_lt_of_le h.lk hb.size, Nat.lt_of_lt_of_le h.lm hb.size⟩
set_option maxRecDepth 100000 in
set_option maxHeartbeats 1000000 in
theorem wg_any {b : Nat} {k m : Int} (w : World) : Calls Tryz.prog 164 #[.pointer (some ⟨b, 0, none⟩), .int .i64 k, .int .i64 m] w fun e w' =>
    ∃ fb kb mb, e = .returned (.func (.func 191) #[] #[.pointer (some ⟨kb, 0, none⟩), .pointer (some ⟨mb, 0, none⟩), .pointer (some ⟨fb, 0, none⟩)]) ∧ Wg8 w' b fb kb mb k m ∧ Below w.heap.size w w' := by
  go_enter Tryz.func164, Tryz.ntmps164
  go_wp2
  go_ret
  refine ⟨w.heap.size, w.heap.size + 1, w.heap.size + 1 + 1, rfl, ⟨by go_simp, by go_simp, by go_simp, by simp <;> omega, by simp <;> omega, by simp <;> omega⟩, by repeat (first | exact Below.refl _ _ | apply below_lit)⟩
set_option maxRecDepth 100000 in
set_option maxHeartbeats 2000000 in
/-- the weight of the shard i -/
theorem wg1_any {w : World} {b fb kb mb k m i : Nat} (hF : FieldAt w b) (hW : Wg8 w b fb kb mb (k : Int) (m : Int)) (hkm : k + m ≤ 256) (hi : i < 256) {x : Int} (hx : x = (i : Int)) :
    Calls Tryz.prog 191 #[.int .i64 x, .pointer (some ⟨kb, 0, none⟩), .pointer (some ⟨mb, 0, none⟩), .pointer (some ⟨fb, 0, none⟩)] w fun e w' => e = .returned (.int .u8 ((wtF k m i).toNat : Nat)) ∧ ∃ n, w' = w.drewN n := by
  subst hx
  obtain ⟨cf, ck, cm, _, _, _⟩ := hW
  obtain ⟨s, hs⟩ : ∃ s, Hid (s = k + m) := ⟨_, rfl⟩
  have g0 : (k : Int) + (m : Int) = (s : Int) := by have := hs.out; omega
  have hs2 : s ≤ 256 := by have := hs.out; omega
  have gw : IntKind.i64.wrap (s : Int) = (s : Int) := by rw [IntKind.wrap_i64]; omega
  have hks : k ≤ s := by have := hs.out; omega
  clear hkm
  go_enter Tryz.func191, Tryz.ntmps191
  go_wp2
  go_loopw [6, 7] (fun p v wr => ∃ t : Nat, k ≤ t ∧ t ≤ s ∧ v = .int .i64 t ∧ p = .int .u8 ((wpd k i (t - k)).toNat : Nat) ∧ ∃ nd, wr = w.drewN nd) (fun _ v _ => s - (intOf v).toNat)
  case atStart => exact ⟨k, by omega, by omega, rfl, by rw [Nat.sub_self]; rfl, 0, rfl⟩
  case round =>
    obtain ⟨t, h1, h2, rfl, rfl, nd, hd0⟩ := hrel
    have hd : Hid (wr = w.drewN nd) := hd0
    have hFr : FieldAt wr b := by rw [hd0]; exact hF.drewN nd
    have cfr : wr.cell? ⟨fb, 0, none⟩ = some (.pointer (some ⟨b, 0, none⟩)) := by rw [hd0]; exact cf
    have ckr : wr.cell? ⟨kb, 0, none⟩ = some (.int .i64 (k : Int)) := by rw [hd0]; exact ck
    have cmr : wr.cell? ⟨mb, 0, none⟩ = some (.int .i64 (m : Int)) := by rw [hd0]; exact cm
    clear hd0 hF cf ck cm
    by_cases hlt : t < s
    · have hlt' : (t : Int) < (s : Int) := by omega
      by_cases e : t = i
      · have hn : ((t : Int) != (i : Int)) = false := by simp [e]
        have HP : Hid (wpd k i (t + 1 - k) = wpd k i (t - k)) := by
          show _ = _
          rw [show t + 1 - k = (t - k) + 1 by omega, wpd_self (by omega)]
        clear e
        go_wp2
        go_roundw
        case rel => exact ⟨t + 1, by omega, by omega, by go_num, by rw [HP.out], nd, by first | exact hd.out | rfl⟩
        case measure => simp [intOf]; omega
      · have hn : ((t : Int) != (i : Int)) = true := by simp; omega
        have ht2 : t < 256 := by omega
        have m1 : (t : Int) % 256 = (t : Int) := by omega
        have m2 : (i : Int) % 256 = (i : Int) := by omega
        have X := pt_xor hi ht2
        have HP : Hid (wpd k i (t + 1 - k) = mu (wpd k i (t - k)) (pt i ^^^ pt t)) := by
          show _ = _
          rw [show t + 1 - k = (t - k) + 1 by omega, wpd_next (by omega), show k + (t - k) = t by omega]
        obtain ⟨u, hu⟩ : ∃ u, Hid (u = pt i ^^^ pt t) := ⟨_, rfl⟩
        rw [← hu.out] at X HP
        obtain ⟨q, hq⟩ : ∃ q, Hid (q = wpd k i (t - k)) := ⟨_, rfl⟩
        rw [← hq.out] at HP ⊢
        clear e
        go_wp2_with fail
        refine (fmu_quiet hFr q u rfl rfl).mono ?_
        rintro e w2 ⟨rfl, n2, hw2⟩
        have hw : Hid _ := hw2
        clear hw2
        go_wp2
        go_roundw
        case rel => exact ⟨t + 1, by omega, by omega, by go_num, by rw [HP.out], nd + n2, by rw [hw.out, hd.out, World.drewN_drewN]⟩
        case measure => simp [intOf]; omega
    · have e : t = s := by omega
      subst e
      have hge : ¬ (t : Int) < (t : Int) := by omega
      have HW : Hid (((wtF k m i).toNat : Nat) = invS (wpd k i (t - k)).toNat) := by
        show _ = _
        unfold wtF
        rw [iv_toNat, show t - k = m by have := hs.out; omega]
      obtain ⟨q, hq⟩ : ∃ q, Hid (q = wpd k i (t - k)) := ⟨_, rfl⟩
      rw [← hq.out] at HW ⊢
      go_wp2_with fail
      refine (inv_all hFr q.toNat rfl (u8_lt q)).mono ?_
      rintro e w2 ⟨rfl, n2, hw2⟩
      have hw : Hid _ := hw2
      clear hw2
      go_wp2
      go_ret
      exact ⟨by rw [HW.out]; rfl, nd + n2, by rw [hw.out, hd.out, World.drewN_drewN]⟩
/-- what is added to a row of sums, up to n -/
def apR (f : Nat → UInt8) (a p : UInt8) (n t : Nat) : UInt8 := if t < n then f t ^^^ nmF a p t else f t
theorem apR_zero (f : Nat → UInt8) (a p : UInt8) : apR f a p 0 = f := by funext t; exact if_neg (Nat.not_lt_zero _)
theorem apR_step (f : Nat → UInt8) (a p : UInt8) (n t : Nat) : apR f a p (n + 1) t = if t = n then f n ^^^ nmF a p n else apR f a p n t := by
  unfold apR
  by_cases e : t = n
  · subst e; rw [if_pos (by omega), if_pos rfl]
  · rw [if_neg e]
    by_cases h : t < n
    · rw [if_pos h, if_pos (by omega)]
    · rw [if_neg h, if_neg (by omega)]
set_option maxRecDepth 100000 in
set_option maxHeartbeats 2000000 in
/-- a number times a point's powers is added to a row of sums -/
theorem apw_any {w : World} {base u g n c b : Nat} {f : Nat → UInt8} (a p : UInt8) (hF : FieldAt w b) (hbg : b ≠ g) (hR : RowF w base u g n c f) (hL : n ≤ 1000000) {x y : Int} (hx : x = ((a.toNat : Nat) : Int)) (hy : y = ((p.toNat : Nat) : Int)) :
    Calls Tryz.prog 193 #[.pointer (some ⟨b, 0, none⟩), .slice (some ⟨g, 0, none⟩) n c, .int .u8 x, .int .u8 y] w fun e w' => e = .returned (.tuple #[]) ∧ Only g w w' ∧ RowF w' base u g n c (apR f a p n) := by
  subst hx hy
  go_enter Tryz.func193, Tryz.ntmps193
  go_wp2
  go_loopw [2, 11] (fun v i wr => ∃ l : Nat, l ≤ n ∧ i = .int .i64 l ∧ v = .int .u8 ((nmF a p l).toNat : Nat) ∧ Only g w wr ∧ RowF wr base u g n c (apR f a p l)) (fun _ i _ => n - (intOf i).toNat)
  case atStart => exact ⟨0, by omega, rfl, rfl, Only.refl _ _, by rw [apR_zero]; exact hR⟩
  case round =>
    obtain ⟨l, hl, rfl, rfl, hO, hRl⟩ := hrel
    by_cases hlt : l < n
    · have hlt' : (l : Int) < (n : Int) := by omega
      have c1 := hRl.cell hlt
      have f1 := hRl.unfrozen l
      have e1 : apR f a p l l = f l := if_neg (by omega)
      rw [e1] at c1
      obtain ⟨q, hq⟩ : ∃ q, Hid (q = nmF a p l) := ⟨_, rfl⟩
      have HQ : Hid (nmF a p (l + 1) = mu q p) := by show _ = _; rw [hq.out]; rfl
      have E := xor_u8 (f l) q
      have HN : Hid (RowF (wr.setCell ⟨g, l, none⟩ (.int .u8 (((f l).toNat ^^^ q.toNat : Nat) : Int))) base u g n c (apR f a p (l + 1))) := by
        rw [← UInt8.toNat_xor]
        exact hRl.store hlt _ fun s => by rw [hq.out]; exact apR_step _ _ _ _ _
      have HO : Hid (Only g w (wr.setCell ⟨g, l, none⟩ (.int .u8 (((f l).toNat ^^^ q.toNat : Nat) : Int)))) := hO.setCell l _
      have hFr := hF.only hbg HO.out
      rw [← hq.out]
      clear hRl hO hR e1 hF
      go_wp2_with fail
      refine (fmu_quiet hFr q p rfl rfl).mono ?_
      rintro e w2 ⟨rfl, n2, hw2⟩
      have HN2 : Hid (RowF w2 base u g n c (apR f a p (l + 1))) := by rw [hw2]; exact HN.out.drewN _
      have HO2 : Hid (Only g w w2) := by rw [hw2]; exact HO.out.drewN _
      clear hw2 HN HO hFr c1 f1
      go_wp2
      go_roundw
      case rel => exact ⟨l + 1, by omega, by go_num, by rw [HQ.out], HO2.out, HN2.out⟩
      case measure => simp [intOf]; omega
    · have e : l = n := by omega
      subst e
      have hge : ¬ (l : Int) < (l : Int) := by omega
      go_wp2
      go_end0
      exact ⟨rfl, hO, hRl⟩
end Go.Proofs.YtddnfhfangfgeaaGreat.Gf

namespace Go.Proofs.YtddnfhfangfgeaaGreat.Gf
set_option linter.unusedVariables false
set_option linter.unusedSimpArgs false
open Go.RowKit
/-- What a call that answers bytes and an error leaves. -/
def MakesP (w : World) (x : Int) (p : List UInt8) (e : Ending) (w' : World) : Prop := ∃ v, e = .returned (.tuple #[v, .int .i64 x]) ∧ Rd w' v p ∧ Below w.heap.size w w'
theorem rd_nil (w : World) : Rd w (.slice none 0 0) [] := Or.inl ⟨none, 0, rfl, rfl, Nat.zero_le _, fun _ => rfl⟩
set_option maxRecDepth 100000 in
set_option maxHeartbeats 1000000 in
theorem wts_bad {b : Nat} {k m : Int} (w : World) (h : ¬ OkC k m) : Calls Tryz.prog 133 #[.pointer (some ⟨b, 0, none⟩), .int .i64 k, .int .i64 m] w (MakesP w 50 []) := by
  go_enter Tryz.func133, Tryz.ntmps133
  go_wp2_with fail
  refine (ccheck_same_bad _ h).mono ?_
  rintro e w2 ⟨rfl, rfl⟩
  clear h
  go_wp2
  exact bodyPost_ret (v := .tuple #[.slice none 0 0, .int .i64 50]) (by simp [results, Tryz.results133, go_sem]) rfl ⟨_, rfl, rd_nil _, Below.refl _ _⟩
/-- the first n numbers of f -/
def upF (f : Nat → UInt8) (n t : Nat) : UInt8 := if t < n then f t else 0
theorem upF_zero (f : Nat → UInt8) (t : Nat) : upF f 0 t = 0 := if_neg (Nat.not_lt_zero _)
theorem upF_step (f : Nat → UInt8) (n t : Nat) : upF f (n + 1) t = if t = n then f n else upF f n t := by
  unfold upF
  by_cases e : t = n
  · subst e; rw [if_pos (by omega), if_pos rfl]
  · rw [if_neg e]
    by_cases h : t < n
    · rw [if_pos h, if_pos (by omega)]
    · rw [if_neg h, if_neg (by omega)]
set_option maxRecDepth 100000 in
set_option maxHeartbeats 2000000 in
theorem wts_ok {b k m : Nat} {w : World} (hF : FieldAt w b) (h1 : 1 ≤ k) (h2 : k + m ≤ 256) {x y : Int} (hx : x = (k : Int)) (hy : y = (m : Int)) : Calls Tryz.prog 133 #[.pointer (some ⟨b, 0, none⟩), .int .i64 x, .int .i64 y] w (MakesP w 0 (upto (wtF k m) (k + m))) := by
  subst hx hy
  obtain ⟨i0, hi, hz0, hz1, hz2⟩ := info_parts info_u8
  obtain ⟨s, hs⟩ : ∃ s, Hid (s = k + m) := ⟨_, rfl⟩
  have g0 : (k : Int) + (m : Int) = (s : Int) := by have := hs.out; omega
  have hs2 : s ≤ 256 := by have := hs.out; omega
  have gw : IntKind.i64.wrap (s : Int) = (s : Int) := by rw [IntKind.wrap_i64]; omega
  rw [← hs.out]
  have hok := okC_mk h1 h2
  have h2' : Hid _ := h2
  clear h2
  go_enter Tryz.func133, Tryz.ntmps133
  go_wp2_with fail
  refine (ccheck_same_ok _ hok).mono ?_
  rintro e w2 ⟨rfl, rfl⟩
  clear hok
  go_wp2_with fail
  refine (wg_any _).mono ?_
  rintro e w3 ⟨fb, kb, mb, rfl, hW, b3⟩
  have hF3 := hF.below b3
  clear hF
  go_wp2_with (at_make; go_loud (refine wpList_make_full _ rfl (.tmp 26) (.tmp 26) 36 rfl w3.heap.size 5 i0 (.int .u8 0) 1 Tryz.underlying36 hi hz0 hz1 _ _ _ _ s rfl rfl (by omega) (by omega) (by rw [hz2]; omega) (by unfold maxLen; omega) (Nat.le_refl _) ?_); intro w4 hown4 hgrow4)
  have R4 : Hid (RowF w4 w3.heap.size 5 w3.heap.size s s (fun _ => 0)) := RowF.made hown4
  have B4 : Hid (Below w3.heap.size w3 w4) := (Below.refl _ _).grown hgrow4 (Nat.le_refl _) (fun q hq => by cases hq)
  clear hown4 hgrow4
  obtain ⟨g, hg⟩ : ∃ g, Hid (g = w3.heap.size) := ⟨_, rfl⟩
  rw [← hg.out] at R4 B4 ⊢
  go_loopw [30] (fun v wr => ∃ i : Nat, i ≤ s ∧ v = .int .i64 i ∧ Below g w3 wr ∧ RowF wr g 5 g s s (upF (wtF k m) i)) (fun v _ => s - (intOf v).toNat)
  case atStart => exact ⟨0, by omega, rfl, B4.out, R4.out.congr fun t _ => (upF_zero _ t).symm⟩
  case round =>
    obtain ⟨i, hi, rfl, hB, hR⟩ := hrel
    clear R4 B4
    by_cases hlt : i < s
    · have hlt' : (i : Int) < (s : Int) := by omega
      have HB : Hid (Below g w3 wr) := hB
      rw [hg.out] at hB
      have hFr := hF3.below hB
      have hWr := hW.below hB
      have c1 := fun nd : Nat => hR.cell hlt
      have f1 := hR.unfrozen i
      have HR : Hid (RowF wr g 5 g s s (upF (wtF k m) i)) := hR
      clear hB hR hF3 hW
      go_wp2_with fail
      refine (wg1_any (i := i) hFr hWr h2'.out (by omega) rfl).mono ?_
      rintro e w5 ⟨rfl, nd, hw5⟩
      have R5 : RowF w5 g 5 g s s (upF (wtF k m) i) := by rw [hw5]; exact HR.out.drewN nd
      have B5 : Below g w3 w5 := by rw [hw5]; exact HB.out.trans ⟨rfl, rfl, rfl, Nat.le_refl _, fun _ _ => rfl⟩
      clear hw5 HB HR c1 f1 hFr hWr
      have c1 := R5.cell hlt
      have f1 := R5.unfrozen i
      have HN : Hid (RowF (w5.setCell ⟨g, i, none⟩ (.int .u8 ((wtF k m i).toNat : Nat))) g 5 g s s (upF (wtF k m) (i + 1))) := R5.store hlt _ fun t => upF_step _ _ _
      have HB : Hid (Below g w3 (w5.setCell ⟨g, i, none⟩ (.int .u8 ((wtF k m i).toNat : Nat)))) := B5.setCell (p := ⟨g, i, none⟩) (Nat.le_refl _) _
      clear R5 B5
      go_wp2
      go_roundw
      case rel => exact ⟨i + 1, by omega, by go_num, HB.out, HN.out⟩
      case measure => simp [intOf]; omega
    · have e : i = s := by omega
      subst e
      have hge : ¬ (i : Int) < (i : Int) := by omega
      have HP : Rd wr (.slice (some ⟨g, 0, none⟩) i i) (upto (wtF k m) i) := (hR.congr (f' := wtF k m) fun t ht => if_pos ht).rd
      rw [hg.out] at hB
      have HB : Hid (Below w2.heap.size w2 wr) := Below.next b3 hB
      clear hB hR hF3 hW
      go_wp2
      exact bodyPost_ret (v := .tuple #[.slice (some ⟨g, 0, none⟩) i i, .int .i64 0]) (by simp [results, Tryz.results133, go_sem]) rfl ⟨_, rfl, HP, HB.out⟩
/-- the sums of the first i bytes -/
def syK (k m : Nat) (z : Nat → UInt8) (i l : Nat) : UInt8 := S i (fun x => mu (mu (z x) (wtF k m x)) (nmF 1 (pt x) l))
theorem syK_next (k m : Nat) (z : Nat → UInt8) (i l : Nat) : syK k m z (i + 1) l = syK k m z i l ^^^ nmF (mu (z i) (wtF k m i)) (pt i) l := by
  show syK k m z i l ^^^ mu (mu (z i) (wtF k m i)) (nmF 1 (pt i) l) = _
  rw [← nmF_pwr]
set_option maxRecDepth 100000 in
set_option maxHeartbeats 2000000 in
theorem sof_ok {b k m : Nat} {v : Value} {z : List UInt8} {w : World} (hF : FieldAt w b) (h1 : 1 ≤ k) (h2 : k + m ≤ 256) (hz : Rd w v z) (hl : z.length = k + m) {x y : Int} (hx : x = (k : Int)) (hy : y = (m : Int)) : Calls Tryz.prog 168 #[.pointer (some ⟨b, 0, none⟩), .int .i64 x, .int .i64 y, v] w (MakesP w 0 (upto (synF k m (co z)) m)) := by
  subst hx hy
  obtain ⟨i0, hi, hz0, hz1, hz2⟩ := info_parts info_u8
  obtain ⟨za, zc, rfl⟩ := hz.form
  obtain ⟨s, hs⟩ : ∃ s, Hid (s = k + m) := ⟨_, rfl⟩
  have g0 : (k : Int) + (m : Int) = (s : Int) := by have := hs.out; omega
  have hs2 : s ≤ 256 := by have := hs.out; omega
  have hm2 : m ≤ 256 := by have := hs.out; omega
  have gw : IntKind.i64.wrap (s : Int) = (s : Int) := by rw [IntKind.wrap_i64]; omega
  have HL : Hid (z.length = s) := by show _ = _; rw [hs.out]; exact hl
  rw [hl, ← hs.out] at hz ⊢
  have hn : ((s : Int) != (s : Int)) = false := by simp
  have HC := wts_ok hF h1 h2 rfl rfl
  rw [← hs.out] at HC
  have HS : Hid (upto (synF k m (co z)) m = upto (syK k m (co z) s) m) := by show _ = _; rw [hs.out]; rfl
  rw [HS.out]
  clear h2 hl
  go_enter Tryz.func168, Tryz.ntmps168
  go_wp2_with fail
  refine HC.mono ?_
  rintro e w2 ⟨v, rfl, hV, b2⟩
  obtain ⟨va, vc, rfl⟩ := hV.form
  rw [upto_length] at hV ⊢
  have hF2 := hF.below b2
  have hz2' := hz.below b2
  clear HC hF hz
  go_wp2_with (at_make; go_loud (refine wpList_make_full _ rfl (.tmp 31) (.tmp 31) 36 rfl w2.heap.size 5 i0 (.int .u8 0) 1 Tryz.underlying36 hi hz0 hz1 _ _ _ _ m rfl rfl (by omega) (by omega) (by rw [hz2]; omega) (by unfold maxLen; omega) (Nat.le_refl _) ?_); intro w4 hown4 hgrow4)
  have R4 : Hid (RowF w4 w2.heap.size 5 w2.heap.size m m (fun _ => 0)) := RowF.made hown4
  have B4 : Hid (Below w2.heap.size w2 w4) := (Below.refl _ _).grown hgrow4 (Nat.le_refl _) (fun q hq => by cases hq)
  clear hown4 hgrow4
  have HA : Hid (Apart w2.heap.size (.slice za s zc)) := hz2'.apart (Nat.le_refl _)
  have HAV : Hid (Apart w2.heap.size (.slice va s vc)) := hV.apart (Nat.le_refl _)
  have hF4 := hF2.below B4.out
  have hz4 := hz2'.below B4.out
  have hV4 := hV.below B4.out
  have hbg : b ≠ w2.heap.size := by have := hF2.lt; omega
  have HB4 : Hid (Below w.heap.size w w4) := Below.next b2 B4.out
  have hsz : Hid (w.heap.size ≤ w2.heap.size) := b2.size
  obtain ⟨g, hg⟩ : ∃ g, Hid (g = w2.heap.size) := ⟨_, rfl⟩
  rw [← hg.out] at R4 HA HAV hbg ⊢
  clear hF2 hz2' hV B4
  go_loopw [35] (fun v wr => ∃ i : Nat, i ≤ s ∧ v = .int .i64 i ∧ Only g w4 wr ∧ RowF wr g 5 g m m (syK k m (co z) i)) (fun v _ => s - (intOf v).toNat)
  case atStart => exact ⟨0, by omega, rfl, Only.refl _ _, R4.out.congr fun t _ => rfl⟩
  case round =>
    obtain ⟨i, hi, rfl, hO, hR⟩ := hrel
    clear R4
    by_cases hlt : i < s
    · have hlt' : (i : Int) < (s : Int) := by omega
      have hFr := hF4.only hbg hO
      have hzr := hz4.only HA.out hO
      have hVr := hV4.only HAV.out hO
      obtain ⟨zb, zo, rfl, _, cz⟩ := hzr.byte (i := i) (by rw [HL.out]; exact hlt)
      obtain ⟨vb', vo, rfl, _, cv⟩ := hVr.byte (i := i) (by rw [upto_length]; exact hlt)
      rw [co_upto_in hlt] at cv
      have m1 : (i : Int) % 256 = (i : Int) := by omega
      have hpt : Hid ((i : Int) = (((pt i).toNat : Nat) : Int)) := by show _ = _; rw [pt_toNat (by omega)]
      have HO : Hid (Only g w4 wr) := hO
      have HR : Hid (RowF wr g 5 g m m (syK k m (co z) i)) := hR
      have HX : Hid (∀ t, syK k m (co z) (i + 1) t = syK k m (co z) i t ^^^ nmF (mu (co z i) (wtF k m i)) (pt i) t) := fun t => syK_next _ _ _ _ _
      clear hO hR hzr hVr hz4 hV4 hF4
      go_wp2_with fail
      refine (fmu_quiet hFr (co z i) (wtF k m i) rfl rfl).mono ?_
      rintro e w5 ⟨rfl, nd, hw5⟩
      have R5 : RowF w5 g 5 g m m (syK k m (co z) i) := by rw [hw5]; exact HR.out.drewN nd
      have O5 : Only g w4 w5 := by rw [hw5]; exact HO.out.drewN nd
      have F5 : FieldAt w5 b := by rw [hw5]; exact hFr.drewN nd
      clear hw5 HO HR hFr cz cv
      have HC := apw_any (mu (co z i) (wtF k m i)) (pt i) F5 hbg R5 (by omega) rfl hpt.out
      clear R5 F5
      go_wp2_with fail
      refine HC.mono ?_
      rintro e w6 ⟨rfl, O6, R6⟩
      have HN : Hid (RowF w6 g 5 g m m (syK k m (co z) (i + 1))) := R6.congr fun t ht => by rw [HX.out]; exact if_pos ht
      have HO : Hid (Only g w4 w6) := O5.trans O6
      clear R6 O6 O5 HC
      go_wp2
      go_roundw
      case rel => exact ⟨i + 1, by omega, by go_num, HO.out, HN.out⟩
      case measure => simp [intOf]; omega
    · have e : i = s := by omega
      subst e
      have hge : ¬ (i : Int) < (i : Int) := by omega
      have HP : Rd wr (.slice (some ⟨g, 0, none⟩) m m) (upto (syK k m (co z) i) m) := hR.rd
      have HB : Hid (Below w.heap.size w wr) := HB4.out.trans (hO.below (by rw [hg.out]; exact hsz.out))
      clear hO hR hF4 hz4 hV4
      go_wp2
      exact bodyPost_ret (v := .tuple #[.slice (some ⟨g, 0, none⟩) m m, .int .i64 0]) (by simp [results, Tryz.results168, go_sem]) rfl ⟨_, rfl, HP, HB.out⟩
end Go.Proofs.YtddnfhfangfgeaaGreat.Gf

namespace Go.Proofs.YtddnfhfangfgeaaGreat.Gf
set_option linter.unusedVariables false
set_option linter.unusedSimpArgs false
open Go.RowKit
/-- what 'righting' lays: its seven variables -/
structure Rt10 (w : World) (b gb mb fb kb nb sb wb : Nat) (k m : Int) (vg vn vm vw : Value) : Prop where
  cg : w.cell? ⟨gb, 0, none⟩ = some vg
  cm : w.cell? ⟨mb, 0, none⟩ = some (.int .i64 m)
  cf : w.cell? ⟨fb, 0, none⟩ = some (.pointer (some ⟨b, 0, none⟩))
  ck : w.cell? ⟨kb, 0, none⟩ = some (.int .i64 k)
  cn : w.cell? ⟨nb, 0, none⟩ = some vn
  cs : w.cell? ⟨sb, 0, none⟩ = some vm
  cw : w.cell? ⟨wb, 0, none⟩ = some vw
  lt : gb < w.heap.size ∧ mb < w.heap.size ∧ fb < w.heap.size ∧ kb < w.heap.size ∧ nb < w.heap.size ∧ sb < w.heap.size ∧ wb < w.heap.size
theorem Rt10.below {w w' : World} {b gb mb fb kb nb sb wb : Nat} {k m : Int} {vg vn vm vw : Value} (h : Rt10 w b gb mb fb kb nb sb wb k m vg vn vm vw) (hb : Below w.heap.size w w') : Rt10 w' b gb mb fb kb nb sb wb k m vg vn vm vw := by
  obtain ⟨l1, l2, l3, l4, l5, l6, l7⟩ := h.lt
  have hs := hb.size
  exact ⟨(hb.cell (p := ⟨gb, 0, none⟩) l1).trans h.cg, (hb.cell (p := ⟨mb, 0, none⟩) l2).trans h.cm, (hb.cell (p := ⟨fb, 0, none⟩) l3).trans h.cf, (hb.cell (p := ⟨kb, 0, none⟩) l4).trans h.ck, (hb.cell (p := ⟨nb, 0, none⟩) l5).trans h.cn, (hb.cell (p := ⟨sb, 0, none⟩) l6).trans h.cs, (hb.cell (p := ⟨wb, 0, none⟩) l7).trans h.cw, by omega, by omega, by omega, by omega, by omega, by omega, by omega⟩
/-- bytes do not lie where none can -/
theorem rd_not {W : World} {v : Value} {p : List UInt8} {q : Nat} (h : Rd W v p) (hq : ∀ i x, W.cell? ⟨q, i, none⟩ ≠ some (.int .u8 x)) : Apart q v := by
  intro a m c e
  subst e
  by_cases hm : m = 0
  · exact Or.inl hm
  · right
    obtain ⟨_, _, e2⟩ := h.form
    simp at e2
    obtain ⟨b, off, e3, _, e4⟩ := h.byte (i := 0) (by omega)
    simp at e3
    subst e3
    intro e5
    subst e5
    exact hq _ _ e4
set_option maxRecDepth 100000 in
set_option maxHeartbeats 2000000 in
theorem erig_any {b : Nat} {k m : Int} {vw vm : Value} {ws : List UInt8} {ms : List Bool} {w : World} (hF : FieldAt w b) (hw : Rd w vw ws) (hm : RdB w vm ms) (hl : ms.length ≤ 256) :
    Calls Tryz.prog 135 #[.pointer (some ⟨b, 0, none⟩), .int .i64 k, .int .i64 m, vw, vm] w fun e w' => ∃ gb mb fb kb nb sb wb vg vn, e = .returned (.func (.func 167) #[] #[.pointer (some ⟨gb, 0, none⟩), .pointer (some ⟨mb, 0, none⟩), .pointer (some ⟨fb, 0, none⟩), .pointer (some ⟨kb, 0, none⟩), .pointer (some ⟨nb, 0, none⟩), .pointer (some ⟨sb, 0, none⟩), .pointer (some ⟨wb, 0, none⟩)]) ∧
      Rt10 w' b gb mb fb kb nb sb wb k m vg vn vm vw ∧ OwnI w' w.heap.size 3 vg (plc (hb ms) ms.length) ∧ Rd w' vn (locL (ptsL (plc (hb ms) ms.length))) ∧ Below w.heap.size w w' := by
  obtain ⟨a1, c1, rfl⟩ := hw.form
  obtain ⟨a2, c2, rfl⟩ := hm.form
  go_enter Tryz.func135, Tryz.ntmps135
  go_wp2_with fail
  obtain ⟨u0, hu0⟩ : ∃ u0, u0 = (((((w.alloc (.cells #[.pointer (some ⟨b, 0, none⟩)] 26)).alloc (.cells #[.int .i64 k] 3)).alloc (.cells #[.int .i64 m] 3)).alloc (.cells #[.slice a1 ws.length c1] 36)).alloc (.cells #[.slice a2 ms.length c2] 96)) := ⟨_, rfl⟩
  rw [← hu0]
  obtain ⟨x0, hx0⟩ : ∃ x0, Hid (x0 = w.heap.size) := ⟨_, rfl⟩
  have B0 : Below w.heap.size w u0 := by rw [hu0]; repeat (first | exact Below.refl _ _ | apply below_lit)
  have cf : u0.cell? ⟨x0, 0, none⟩ = some (.pointer (some ⟨b, 0, none⟩)) := by rw [hu0, hx0.out]; go_simp
  have ck : u0.cell? ⟨x0 + 1, 0, none⟩ = some (.int .i64 k) := by rw [hu0, hx0.out]; go_simp
  have cm : u0.cell? ⟨x0 + 1 + 1, 0, none⟩ = some (.int .i64 m) := by rw [hu0, hx0.out]; go_simp
  have cw : u0.cell? ⟨x0 + 1 + 1 + 1, 0, none⟩ = some (.slice a1 ws.length c1) := by rw [hu0, hx0.out]; go_simp
  have cs : u0.cell? ⟨x0 + 1 + 1 + 1 + 1, 0, none⟩ = some (.slice a2 ms.length c2) := by rw [hu0, hx0.out]; go_simp
  have hsz0 : u0.heap.size = x0 + 5 := by rw [hu0, hx0.out]; simp
  have hm0 := hm.below B0
  have hF0 := hF.below B0
  rw [← hx0.out]
  clear hu0 hm hF hw
  refine (epl_any hm0 (by omega)).mono ?_
  rintro e u1 ⟨vg, rfl, O1, B1⟩
  obtain ⟨ga, gc, rfl⟩ := O1.form
  have hl1 : Hid ((plc (hb ms) ms.length).length ≤ 300) := by show _ ≤ _; rw [plc_length]; have := cnt_le (hb ms) ms.length; omega
  have hl2 : Hid (∀ i, i < (plc (hb ms) ms.length).length → (plc (hb ms) ms.length).getD i 0 < 256) := fun i hi => by have := (plc_mem.1 (getD_mem hi)).1; omega
  obtain ⟨Z, hZ⟩ : ∃ Z, Z = plc (hb ms) ms.length := ⟨_, rfl⟩
  rw [← hZ] at O1 hl1 hl2 ⊢
  have HZ : Hid _ := hZ
  clear hZ
  have s1 := B1.size
  have R1 := (O1.rd (by have := hl1.out; omega))
  have A1 : Below u1.heap.size u1 (u1.alloc (.cells #[.slice ga Z.length gc] 45)) := (Below.refl _ _).alloc (Nat.le_refl _) _
  have cf1 := (A1.cell (p := ⟨x0, 0, none⟩) (show x0 < u1.heap.size by omega)).trans ((B1.cell (p := ⟨x0, 0, none⟩) (show x0 < u0.heap.size by omega)).trans cf)
  obtain ⟨G, hG⟩ : ∃ G, Hid (G = u1.heap.size) := ⟨_, rfl⟩
  obtain ⟨u2, hu2⟩ : ∃ u2, u2 = u1.alloc (.cells #[.slice ga Z.length gc] 45) := ⟨_, rfl⟩
  have cg2 : u2.cell? ⟨G, 0, none⟩ = some (.slice ga Z.length gc) := by rw [hu2, hG.out]; go_simp
  have s2 : u2.heap.size = G + 1 := by rw [hu2, hG.out]; simp
  rw [← hu2] at A1 cf1
  have B2 : Below u0.heap.size u0 u2 := Below.next B1 A1
  have s3 : x0 + 5 ≤ G := by have := hG.out; omega
  have P1 := And.intro cf1 cg2
  have Q1 : Hid (∀ W, Below u2.heap.size u2 W → W.cell? ⟨x0, 0, none⟩ = some (.pointer (some ⟨b, 0, none⟩)) ∧ W.cell? ⟨G, 0, none⟩ = some (.slice ga Z.length gc)) := fun W h => ⟨(h.cell (p := ⟨x0, 0, none⟩) (show x0 < u2.heap.size by omega)).trans cf1, (h.cell (p := ⟨G, 0, none⟩) (show G < u2.heap.size by omega)).trans cg2⟩
  have R2 := R1.below A1
  have F2 := hF0.below B2
  have HC1 : ∀ W, Below u2.heap.size u2 W → Calls Tryz.prog 166 #[.slice ga Z.length gc] W fun e w' => ∃ v, e = .returned v ∧ Rd w' v (ptsL Z) ∧ Below W.heap.size W w' := fun W h => ept_any (R2.below h) hl1.out hl2.out
  have HC2 : ∀ W v, Below u2.heap.size u2 W → Rd W v (ptsL Z) → Calls Tryz.prog 165 #[.pointer (some ⟨b, 0, none⟩), v] W fun e w' => ∃ v', e = .returned v' ∧ Rd w' v' (locL (ptsL Z)) ∧ Below W.heap.size W w' := fun W v h r => kloc_any (F2.below h) r (by rw [ptsL_length]; exact hl1.out)
  have FIN : ∀ W0 W q a8 c8, Below u2.heap.size u2 W0 → Below u2.heap.size u2 W → q < W.heap.size → u2.heap.size ≤ q → W.cell? ⟨q, 0, none⟩ = some (.slice none 0 0) → (∀ i x, W.cell? ⟨q, i, none⟩ ≠ some (.int .u8 x)) → Rd W (.slice a8 (locL (ptsL Z)).length c8) (locL (ptsL Z)) →
      ((W.setCell ⟨q, 0, none⟩ (.slice a8 (locL (ptsL Z)).length c8)).cell? ⟨x0, 0, none⟩ = some (.pointer (some ⟨b, 0, none⟩)) ∧ (W.setCell ⟨q, 0, none⟩ (.slice a8 (locL (ptsL Z)).length c8)).cell? ⟨G, 0, none⟩ = some (.slice ga Z.length gc)) ∧
      ∃ gb mb fb kb nb sb wb vg vn, Ending.returned (.func (.func 167) #[] #[.pointer (some ⟨G, 0, none⟩), .pointer (some ⟨x0 + 1 + 1, 0, none⟩), .pointer (some ⟨x0, 0, none⟩), .pointer (some ⟨x0 + 1, 0, none⟩), .pointer (some ⟨q, 0, none⟩), .pointer (some ⟨x0 + 1 + 1 + 1 + 1, 0, none⟩), .pointer (some ⟨x0 + 1 + 1 + 1, 0, none⟩)]) = .returned (.func (.func 167) #[] #[.pointer (some ⟨gb, 0, none⟩), .pointer (some ⟨mb, 0, none⟩), .pointer (some ⟨fb, 0, none⟩), .pointer (some ⟨kb, 0, none⟩), .pointer (some ⟨nb, 0, none⟩), .pointer (some ⟨sb, 0, none⟩), .pointer (some ⟨wb, 0, none⟩)]) ∧
      Rt10 (W.setCell ⟨q, 0, none⟩ (.slice a8 (locL (ptsL Z)).length c8)) b gb mb fb kb nb sb wb k m vg vn (.slice a2 ms.length c2) (.slice a1 ws.length c1) ∧ OwnI (W.setCell ⟨q, 0, none⟩ (.slice a8 (locL (ptsL Z)).length c8)) w.heap.size 3 vg Z ∧ Rd (W.setCell ⟨q, 0, none⟩ (.slice a8 (locL (ptsL Z)).length c8)) vn (locL (ptsL Z)) ∧ Below w.heap.size w (W.setCell ⟨q, 0, none⟩ (.slice a8 (locL (ptsL Z)).length c8)) := by
    intro W0 W q a8 c8 h0 h hq hqu kq kn hR
    have hb : Below u2.heap.size u2 (W.setCell ⟨q, 0, none⟩ (.slice a8 (locL (ptsL Z)).length c8)) := h.setCell (p := ⟨q, 0, none⟩) hqu _
    have hb0 : Below u0.heap.size u0 (W.setCell ⟨q, 0, none⟩ (.slice a8 (locL (ptsL Z)).length c8)) := Below.next B2 hb
    have hap : Apart q (.slice a8 (locL (ptsL Z)).length c8) := rd_not hR kn
    have hR2 := hR.only hap ((Only.refl q W).setCell 0 (.slice a8 (locL (ptsL Z)).length c8))
    have hl := hb.size
    obtain ⟨t1, t2⟩ := Q1.out _ hb
    refine ⟨⟨t1, t2⟩, G, x0 + 1 + 1, x0, x0 + 1, q, x0 + 1 + 1 + 1 + 1, x0 + 1 + 1 + 1, _, _, rfl, ⟨t2, (hb0.cell (p := ⟨x0 + 1 + 1, 0, none⟩) (show x0 + 1 + 1 < u0.heap.size by omega)).trans cm, t1, (hb0.cell (p := ⟨x0 + 1, 0, none⟩) (show x0 + 1 < u0.heap.size by omega)).trans ck, World.cell?_setCell_same W ⟨q, 0, none⟩ _ kq, (hb0.cell (p := ⟨x0 + 1 + 1 + 1 + 1, 0, none⟩) (show x0 + 1 + 1 + 1 + 1 < u0.heap.size by omega)).trans cs, (hb0.cell (p := ⟨x0 + 1 + 1 + 1, 0, none⟩) (show x0 + 1 + 1 + 1 < u0.heap.size by omega)).trans cw, by omega, by omega, by omega, by omega, ?_, by omega, by omega⟩, ?_, hR2, B0.trans (hb0.mono B0.size)⟩
    · simpa using hq
    · exact ownsRow_base (owns_later O1 (Below.next A1 hb)) (by have := B0.size; omega)
  have D0 : Below u2.heap.size u2 u2.drew := (Below.refl _ _).drew
  have D1 : Below u2.heap.size u2 (u2.drew.alloc (.cells #[.slice none 0 0] 36)) := below_lit D0 _
  clear R2 F2 R1 cf1 hF0 hm0 cg2 A1 O1 B2 B1 B0 cf ck cm cw cs s2
  go_wp2_with fail
  rw [← hu2, ← hG.out]
  clear hu2
  -- REGION
  refine wp_region_held_drew (S := (fun wx => wx.cell? ⟨x0, 0, none⟩ = some (.pointer (some ⟨b, 0, none⟩)) ∧ wx.cell? ⟨G, 0, none⟩ = some (.slice ga Z.length gc))) (by kernel_rfl) ?_ (fun hHeld => ?_)
  · exact P1
  refine wpAnyH_take (i := 0) (v := ?_) rfl (by kernel_rfl) (by kernel_rfl) (by kernel_rfl) (fun _ _ _ h => h) (Or.inl ⟨by rfl, ?_⟩) (by assumption) ?_
  rotate_left
  · intro w hSw; (try dsimp only at hSw); go_simp; try with_reducible rfl
  try simp only [Act.put, List.setIfInBounds_toArray, List.set_cons_zero, List.set_cons_succ]
  refine wpAnyH_take (i := 1) (v := ?_) rfl (by kernel_rfl) (by kernel_rfl) (by kernel_rfl) (fun _ _ _ h => h) (Or.inl ⟨by rfl, ?_⟩) (by assumption) ?_
  rotate_left
  · intro w hSw; (try dsimp only at hSw); go_simp; try with_reducible rfl
  try simp only [Act.put, List.setIfInBounds_toArray, List.set_cons_zero, List.set_cons_succ]
  refine wpAnyH_ready (rs := [2, 4]) (by kernel_rfl) (by simp) ?_
  refine AllReadyH.cons rfl (fun K hK => ?_) (AllReadyH.cons rfl (fun K hK => ?_) AllReadyH.nil)
  · go_simp
    refine (HC1 _ (by first | assumption | exact D0 | exact D1 | exact below_lit C9 _ | exact below_lit C8 _)).mono ?_
    rintro e w9 ⟨v9, rfl, R9, B9⟩
    obtain ⟨a9, c9, rfl⟩ := R9.form
    have C9 : Below u2.heap.size u2 w9 := by first | exact Below.next D0 B9 | exact Below.next D1 B9
    have R9a := R9.below ((Below.refl _ _).alloc (Nat.le_refl _) (.cells #[.slice none 0 0] 36))
    try go_simp
    refine hK.out _ _ ?_ (fun hHeld => ?_)
    · exact Q1.out _ C9
    clear hK K
    try simp only [Act.put, List.setIfInBounds_toArray, List.set_cons_zero, List.set_cons_succ]
    refine wpAnyH_ready (rs := [3, 4]) (by kernel_rfl) (by simp) ?_
    refine AllReadyH.cons rfl (fun K hK => ?_) (AllReadyH.cons rfl (fun K hK => ?_) AllReadyH.nil)
    · go_simp
      refine (HC2 _ _ (by first | assumption | exact D0 | exact D1 | exact below_lit C9 _ | exact below_lit C8 _) (by assumption)).mono ?_
      rintro e w8 ⟨v8, rfl, R8, B8⟩
      obtain ⟨a8, c8, rfl⟩ := R8.form
      have C8 : Below u2.heap.size u2 w8 := by first | exact Below.next C9 B8 | exact Below.next (below_lit C9 _) B8
      try go_simp
      refine hK.out _ _ ?_ (fun hHeld => ?_)
      · exact Q1.out _ C8
      clear hK K
      try simp only [Act.put, List.setIfInBounds_toArray, List.set_cons_zero, List.set_cons_succ]
      refine wpAnyH_ready (rs := [4]) (by kernel_rfl) (by simp) ?_
      refine AllReadyH.cons rfl (fun K hK => ?_) AllReadyH.nil
      go_simp
      refine hK.out _ _ ?_ (fun hHeld => ?_)
      · exact Q1.out _ (by first | assumption | exact D0 | exact D1 | exact below_lit C9 _ | exact below_lit C8 _)
      clear hK K
      try simp only [Act.put, List.setIfInBounds_toArray, List.set_cons_zero, List.set_cons_succ]
      have kq : (w8.alloc (.cells #[.slice none 0 0] 36)).cell? ⟨w8.heap.size, 0, none⟩ = some (.slice none 0 0) := by go_simp
      have kf : (w8.alloc (.cells #[.slice none 0 0] 36)).frozen? ⟨w8.heap.size, 0, none⟩ = false := by go_simp
      have FW := FIN w8 (w8.alloc (.cells #[.slice none 0 0] 36)) w8.heap.size a8 c8 C8 (below_lit C8 _) (by simp) (by have := C8.size; omega) kq (fun i x => by rw [World.cell?_alloc_new]; rcases i with _ | i <;> simp) (R8.below ((Below.refl _ _).alloc (Nat.le_refl _) _))
      rw [World.setCell_alloc_new] at FW
      simp only [List.setIfInBounds_toArray, List.set_cons_zero] at FW
      clear HC1 HC2 FIN
      refine wpAnyH_ready (rs := [5]) (by kernel_rfl) (by simp) ?_
      refine AllReadyH.cons rfl (fun K hK => ?_) AllReadyH.nil
      go_simp
      refine hK.out _ _ ?_ (fun hHeld => ?_)
      · exact FW.1
      clear hK K
      refine wpAnyH_done (by kernel_rfl) ?_ _
      have FW2 : Hid _ := FW.2
      clear FW
      try simp only [Act.put, List.setIfInBounds_toArray, List.set_cons_zero, List.set_cons_succ]
      go_wp2
      go_ret
      rw [← HZ.out]
      exact FW2.out
    · go_simp
      refine hK.out _ _ ?_ (fun hHeld => ?_)
      · exact Q1.out _ (by first | assumption | exact D0 | exact D1 | exact below_lit C9 _ | exact below_lit C8 _)
      clear hK K
      try simp only [Act.put, List.setIfInBounds_toArray, List.set_cons_zero, List.set_cons_succ]
      refine wpAnyH_ready (rs := [3]) (by kernel_rfl) (by simp) ?_
      refine AllReadyH.cons rfl (fun K hK => ?_) AllReadyH.nil
      go_simp
      refine (HC2 _ _ (by first | assumption | exact D0 | exact D1 | exact below_lit C9 _ | exact below_lit C8 _) (by assumption)).mono ?_
      rintro e w8 ⟨v8, rfl, R8, B8⟩
      obtain ⟨a8, c8, rfl⟩ := R8.form
      have C8 : Below u2.heap.size u2 w8 := by first | exact Below.next C9 B8 | exact Below.next (below_lit C9 _) B8
      try go_simp
      refine hK.out _ _ ?_ (fun hHeld => ?_)
      · exact Q1.out _ C8
      clear hK K
      try simp only [Act.put, List.setIfInBounds_toArray, List.set_cons_zero, List.set_cons_succ]
      have lq : w9.heap.size < (w9.alloc (.cells #[.slice none 0 0] 36)).heap.size := by simp
      have kq := (B8.cell (p := ⟨w9.heap.size, 0, none⟩) lq).trans (show (w9.alloc (.cells #[.slice none 0 0] 36)).cell? ⟨w9.heap.size, 0, none⟩ = some (.slice none 0 0) by go_simp)
      have kf := (B8.frozen (p := ⟨w9.heap.size, 0, none⟩) lq).trans (show (w9.alloc (.cells #[.slice none 0 0] 36)).frozen? ⟨w9.heap.size, 0, none⟩ = false by go_simp)
      have FW := FIN w8 w8 w9.heap.size a8 c8 C8 C8 (Nat.lt_of_lt_of_le lq B8.size) (by have := C9.size; omega) kq (fun i x => by rw [B8.cell (p := ⟨w9.heap.size, i, none⟩) lq, World.cell?_alloc_new]; rcases i with _ | i <;> simp) R8
      clear HC1 HC2 FIN
      refine wpAnyH_ready (rs := [5]) (by kernel_rfl) (by simp) ?_
      refine AllReadyH.cons rfl (fun K hK => ?_) AllReadyH.nil
      go_simp
      refine hK.out _ _ ?_ (fun hHeld => ?_)
      · exact FW.1
      clear hK K
      refine wpAnyH_done (by kernel_rfl) ?_ _
      have FW2 : Hid _ := FW.2
      clear FW
      try simp only [Act.put, List.setIfInBounds_toArray, List.set_cons_zero, List.set_cons_succ]
      go_wp2
      go_ret
      rw [← HZ.out]
      exact FW2.out
  · go_simp
    refine hK.out _ _ ?_ (fun hHeld => ?_)
    · exact Q1.out _ (by first | assumption | exact D0 | exact D1 | exact below_lit C9 _ | exact below_lit C8 _)
    clear hK K
    try simp only [Act.put, List.setIfInBounds_toArray, List.set_cons_zero, List.set_cons_succ]
    refine wpAnyH_ready (rs := [2]) (by kernel_rfl) (by simp) ?_
    refine AllReadyH.cons rfl (fun K hK => ?_) AllReadyH.nil
    go_simp
    refine (HC1 _ (by first | assumption | exact D0 | exact D1 | exact below_lit C9 _ | exact below_lit C8 _)).mono ?_
    rintro e w9 ⟨v9, rfl, R9, B9⟩
    obtain ⟨a9, c9, rfl⟩ := R9.form
    have C9 : Below u2.heap.size u2 w9 := by first | exact Below.next D0 B9 | exact Below.next D1 B9
    have R9a := R9.below ((Below.refl _ _).alloc (Nat.le_refl _) (.cells #[.slice none 0 0] 36))
    try go_simp
    refine hK.out _ _ ?_ (fun hHeld => ?_)
    · exact Q1.out _ C9
    clear hK K
    try simp only [Act.put, List.setIfInBounds_toArray, List.set_cons_zero, List.set_cons_succ]
    refine wpAnyH_ready (rs := [3]) (by kernel_rfl) (by simp) ?_
    refine AllReadyH.cons rfl (fun K hK => ?_) AllReadyH.nil
    go_simp
    refine (HC2 _ _ (by first | assumption | exact D0 | exact D1 | exact below_lit C9 _ | exact below_lit C8 _) (by assumption)).mono ?_
    rintro e w8 ⟨v8, rfl, R8, B8⟩
    obtain ⟨a8, c8, rfl⟩ := R8.form
    have C8 : Below u2.heap.size u2 w8 := by first | exact Below.next C9 B8 | exact Below.next (below_lit C9 _) B8
    try go_simp
    refine hK.out _ _ ?_ (fun hHeld => ?_)
    · exact Q1.out _ C8
    clear hK K
    try simp only [Act.put, List.setIfInBounds_toArray, List.set_cons_zero, List.set_cons_succ]
    have lq : u2.heap.size < (u2.drew.alloc (.cells #[.slice none 0 0] 36)).heap.size := by simp
    have lq9 : u2.heap.size < w9.heap.size := Nat.lt_of_lt_of_le lq B9.size
    have kq := (B8.cell (p := ⟨u2.heap.size, 0, none⟩) lq9).trans ((B9.cell (p := ⟨u2.heap.size, 0, none⟩) lq).trans (show (u2.drew.alloc (.cells #[.slice none 0 0] 36)).cell? ⟨u2.heap.size, 0, none⟩ = some (.slice none 0 0) by go_simp))
    have kf := (B8.frozen (p := ⟨u2.heap.size, 0, none⟩) lq9).trans ((B9.frozen (p := ⟨u2.heap.size, 0, none⟩) lq).trans (show (u2.drew.alloc (.cells #[.slice none 0 0] 36)).frozen? ⟨u2.heap.size, 0, none⟩ = false by go_simp))
    have FW := FIN w8 w8 u2.heap.size a8 c8 C8 C8 (Nat.lt_of_lt_of_le lq9 B8.size) (Nat.le_refl _) kq (fun i x => by rw [B8.cell (p := ⟨u2.heap.size, i, none⟩) lq9, B9.cell (p := ⟨u2.heap.size, i, none⟩) lq]; show (u2.alloc (.cells #[.slice none 0 0] 36)).cell? ⟨u2.heap.size, i, none⟩ ≠ _; rw [World.cell?_alloc_new]; rcases i with _ | i <;> simp) R8
    clear HC1 HC2 FIN
    refine wpAnyH_ready (rs := [5]) (by kernel_rfl) (by simp) ?_
    refine AllReadyH.cons rfl (fun K hK => ?_) AllReadyH.nil
    go_simp
    refine hK.out _ _ ?_ (fun hHeld => ?_)
    · exact FW.1
    clear hK K
    refine wpAnyH_done (by kernel_rfl) ?_ _
    have FW2 : Hid _ := FW.2
    clear FW
    try simp only [Act.put, List.setIfInBounds_toArray, List.set_cons_zero, List.set_cons_succ]
    go_wp2
    go_ret
    rw [← HZ.out]
    exact FW2.out
  -- REGION END
end Go.Proofs.YtddnfhfangfgeaaGreat.Gf

