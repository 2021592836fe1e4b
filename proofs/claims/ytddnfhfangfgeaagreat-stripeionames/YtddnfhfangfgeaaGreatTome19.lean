/- TEXTS JOINED: KeCode. -/
import Derived.KernelRfl
import Derived.Test.YtddnfhfangfgeaaGreatChecked
import GoSem.Claim
import GoSem.ClaimJoined
import GoSem.ClaimMapViews
import Derived.JoinedTies
import Derived.WalkKit
import Derived.Deep.QuietTactic
import Derived.BigQuiet
import Derived.WalkLawsBesides
import Derived.WalkSpells
import Derived.OpenShut
import Derived.Deep.AppendLies
import Derived.Laws.CopyOwn
import Derived.Laws.AppendOwnNone
import Derived.Deep.RegionHeld3
import Derived.Deep.RegionWith
import Derived.WalkMore
import Derived.Laws.EntriesVeiled
import Derived.Test.YtddnfhfangfgeaaGreatRows
import Derived.Test.YtddnfhfangfgeaaGreatTome2
import Derived.Test.YtddnfhfangfgeaaGreatTome1
import Derived.Test.YtddnfhfangfgeaaGreatTome3
import Derived.Test.YtddnfhfangfgeaaGreatTome14
import Derived.Test.YtddnfhfangfgeaaGreatTome15
import Derived.Test.YtddnfhfangfgeaaGreatTome4
import Derived.Test.YtddnfhfangfgeaaGreatTome5
import Derived.Test.YtddnfhfangfgeaaGreatTome16
import Derived.Test.YtddnfhfangfgeaaGreatTome18
namespace Go.Proofs.YtddnfhfangfgeaaGreat.Gf
set_option linter.unusedVariables false
set_option linter.unusedSimpArgs false
open Go.RowKit
theorem Rd.first9 {w : World} {a : Option Addr} {n c k : Nat} {p : List UInt8} (h : Rd w (.slice a n c) p) (hk : k ≤ n) : Rd w (.slice a k c) (p.take k) := by
  rcases h with ⟨a', c', e, e2, h3, h4⟩ | ⟨b, off, c', h1, e2, h3, h4, h5, h6⟩
  · simp at e2
    obtain ⟨rfl, rfl, rfl⟩ := e2
    subst e
    obtain rfl : k = 0 := by omega
    exact Or.inl ⟨_, _, rfl, rfl, h3, h4⟩
  · simp at e2
    obtain ⟨rfl, rfl, rfl⟩ := e2
    have hl : (p.take k).length = k := by rw [List.length_take]; omega
    by_cases h0 : k = 0
    · subst h0
      exact Or.inl ⟨_, _, by simp, rfl, h4, fun h => by cases h⟩
    · refine Or.inr ⟨b, off, c, fun e => by rw [e] at hl; simp at hl; omega, by rw [hl], by rw [hl]; omega, h4, h5, fun i hi => ?_⟩
      rw [hl] at hi
      rw [co_take hi]
      exact h6 i (by omega)
theorem Rd.caps {w : World} {a : Option Addr} {n c : Nat} {p : List UInt8} (h : Rd w (.slice a n c) p) : n = p.length ∧ n ≤ c ∧ c ≤ 9223372036854775807 := by
  rcases h with ⟨a', c', e, e2, h3, h4⟩ | ⟨b, off, c', h1, e2, h3, h4, h5, h6⟩
  · simp at e2; obtain ⟨rfl, rfl, rfl⟩ := e2; subst e; unfold maxLen at h3; exact ⟨rfl, Nat.zero_le _, by omega⟩
  · simp at e2; obtain ⟨rfl, rfl, rfl⟩ := e2; unfold maxLen at h4; exact ⟨rfl, h3, by omega⟩
theorem keP_told (s known : List UInt8) : co (mulP (norm known) s.reverse) = keP s known := by
  rw [co_mulP, co_norm]; rfl
theorem told_take {s known : List UInt8} {k : Nat} (hk : k = min s.length (mulP (norm known) s.reverse).length) : ((mulP (norm known) s.reverse).take k).length ≤ s.length ∧ ∀ j, j < s.length → co ((mulP (norm known) s.reverse).take k) j = keP s known j := by
  rw [← keP_told]
  refine ⟨by rw [List.length_take]; omega, fun j hj => ?_⟩
  by_cases h : j < k
  · rw [co_take h]
  · rw [co_ge (p := (mulP (norm known) s.reverse).take k) (by rw [List.length_take]; omega), co_ge (by omega)]
theorem eva_told {s known : List UInt8} {t : Nat} {L : Nat → UInt8} (h : Fin0 L (t + 1)) : norm ((mulP (upto L (t + 1)) (mulP (norm known) s.reverse)).drop s.length) = evaL s known t L := by
  have e : co (upto L (t + 1)) = L := funext fun i => co_upto h i
  have hf := fin_conv (upto L (t + 1)) (mulP (norm known) s.reverse)
  have e1 : (mulP (upto L (t + 1)) (mulP (norm known) s.reverse)).drop s.length = evaL s known t L := by
    unfold evaL
    show (mk (conv (co (upto L (t + 1))) (co (mulP (norm known) s.reverse))) _).drop s.length = _
    rw [keP_told, e] at hf ⊢
    exact drop_mk hf (eva_fin h)
  rw [e1]
  exact norm_mk (eva_fin h)
set_option maxRecDepth 100000 in
set_option maxHeartbeats 4000000 in
theorem ksol_any {w : World} {b : Nat} {vs vk : Value} {s known : List UInt8} (hF : FieldAt w b) (hs : Rd w vs s) (hk : Rd w vk known) (hl : s.length ≤ 300) (hl2 : known.length ≤ 300) : Calls Tryz.prog 169 #[.pointer (some ⟨b, 0, none⟩), vs, vk] w (MakesK w s known) := by
  obtain ⟨sa, sc, rfl⟩ := hs.form
  go_enter Tryz.func169, Tryz.ntmps169
  go_wp2_with fail
  refine (pnorm_any hk (by omega)).mono ?_
  rintro e9 w1 ⟨v1, rfl, r1, b1⟩
  have hn := norm_length_le known
  obtain ⟨K, hK⟩ : ∃ K, Hid (K = norm known) := ⟨_, rfl⟩
  rw [← hK.out] at r1 hn
  obtain ⟨ka, kc, rfl⟩ := r1.form
  replace hs := hs.below b1
  have hF1 := hF.below b1
  obtain ⟨m, hm⟩ : ∃ m, Hid (m = s.length) := ⟨_, rfl⟩
  obtain ⟨n, hn9⟩ : ∃ n, Hid (n = K.length) := ⟨_, rfl⟩
  have hm3 : m ≤ 300 := by rw [hm.out]; exact hl
  have hn3 : n ≤ 300 := by rw [hn9.out]; omega
  rw [← hm.out] at hs ⊢
  rw [← hn9.out] at r1 ⊢
  have gw1 : IntKind.i64.wrap ((n : Int) - 1) = (n : Int) - 1 := by rw [IntKind.wrap_i64]; omega
  clear hn hk hF
  by_cases h0 : n = 0
  · have g1 : (n : Int) - 1 < 0 := by omega
    have HF : Hid (KeyAns s known 1 [] []) := Or.inl ⟨Or.inl (by rw [← hK.out, ← hn9.out]; exact h0), rfl, rfl, rfl⟩
    clear h0
    go_wp2
    go_ret3
    exact MakesK.mk HF.out (rd9_nil _) (rd9_nil _) b1
  by_cases h1 : m + 1 < n
  · have g1 : ¬ (n : Int) - 1 < 0 := by omega
    have g2 : (n : Int) - 1 > (m : Int) := by omega
    have HF : Hid (KeyAns s known 1 [] []) := Or.inl ⟨Or.inr (by rw [← hK.out, ← hn9.out, ← hm.out]; exact h1), rfl, rfl, rfl⟩
    clear h0 h1
    go_wp2
    go_ret3
    exact MakesK.mk HF.out (rd9_nil _) (rd9_nil _) b1
  have hB : Hid (¬ BadK s known) := by
    unfold Hid BadK
    rw [← hK.out, ← hn9.out, ← hm.out]
    omega
  obtain ⟨E, hE⟩ : ∃ E, Hid (E = n - 1) := ⟨_, rfl⟩
  have gE : (n : Int) - 1 = (E : Int) := by have := hE.out; omega
  have hEm : E ≤ m := by have := hE.out; omega
  have g1 : ¬ (E : Int) < 0 := by omega
  have g2 : ¬ (E : Int) > (m : Int) := by omega
  have gw2 : IntKind.i64.wrap (E : Int) = (E : Int) := by rw [IntKind.wrap_i64]; omega
  clear gw1 h0 h1
  have hsl : Hid (s.length ≤ 1000) := by show _ ≤ _; omega
  go_wp2_with fail
  refine (kturn_any hs hsl.out).mono ?_
  rintro e9 w2 ⟨v2, rfl, r2, b2, _⟩
  replace b1 := Below.next b1 b2
  replace r1 := r1.below b2
  have hF2 := hF1.below b2
  have hrl : Hid (s.reverse.length = m) := by show _ = _; rw [List.length_reverse, hm.out]
  clear hF1 hs b2
  go_wp2_with fail
  refine (pmul_any hF2 r1 r2 (by rw [← hn9.out]; omega) (by rw [hrl.out]; omega)).mono ?_
  rintro e9 w3 ⟨v3, rfl, r3, b3⟩
  have hpl := mulP_length_le K s.reverse
  rw [← hn9.out, hrl.out] at hpl
  obtain ⟨P, hP⟩ : ∃ P, Hid (P = mulP K s.reverse) := ⟨_, rfl⟩
  rw [← hP.out] at r3 hpl
  have HP : Hid (P = mulP (norm known) s.reverse) := by show _ = _; rw [hP.out, hK.out]
  obtain ⟨pa, pc, rfl⟩ := r3.form
  obtain ⟨_, hpc, hpm⟩ := r3.caps
  replace b1 := Below.next b1 b3
  have hF3 := hF2.below b3
  obtain ⟨pn, hpn⟩ : ∃ pn, Hid (pn = P.length) := ⟨_, rfl⟩
  rw [← hpn.out] at hpl hpc r3 ⊢
  clear hF2 r1 r2 b3
  obtain ⟨k, hk⟩ : ∃ k, Hid (k = min m pn) := ⟨_, rfl⟩
  have hkn : k ≤ pn := by have := hk.out; omega
  have hkc : k ≤ pc := by omega
  have rT := r3.first9 hkn
  have HT : Hid ((P.take k).length ≤ s.length ∧ ∀ j, j < s.length → co (P.take k) j = keP s known j) := by
    rw [HP.out]
    exact told_take (by rw [hk.out, hpn.out, HP.out, hm.out])
  obtain ⟨HT1, HT2⟩ := HT.out
  have HC := keuc_any (e := E) hF3 rT HT1 HT2 hl (by rw [← hm.out]; exact hEm) rfl rfl
  rw [← hm.out] at HC
  clear HT1 HT2 rT
  rcases Nat.lt_or_ge pn m with hlt | hge
  rotate_left
  · have ek : k = m := by have := hk.out; omega
    rw [ek] at HC hkn hkc
    have hlt' : ¬ (pn : Int) < (m : Int) := by omega
    clear ek
    go_wp2_with fail
    refine HC.mono ?_
    rintro e9 w4 ⟨r0, v0, R1, C1, vc, vl, hU, hEnd, rfl, rc, rl, b4⟩
    obtain ⟨f1, f2, f3, f4, f5⟩ := hU.fac
    rw [← hm.out] at f2 f3 f5
    obtain ⟨ca, cc, rfl⟩ := rc.form
    obtain ⟨la, lc, rfl⟩ := rl.form
    replace b1 := Below.next b1 b4
    replace r3 := r3.below b4
    have hF4 := hF3.below b4
    obtain ⟨c, hc⟩ : ∃ c, Hid (c = C1.length) := ⟨_, rfl⟩
    obtain ⟨t, ht⟩ : ∃ t, Hid (t = c - 1) := ⟨_, rfl⟩
    obtain ⟨l, hl9⟩ : ∃ l, Hid (l = R1.length) := ⟨_, rfl⟩
    have hc1 : 1 ≤ c := by rw [hc.out]; exact f1
    have hc2 : c ≤ 301 := by rw [hc.out]; omega
    have hl3 : l ≤ 301 := by rw [hl9.out]; omega
    have gt : (c : Int) - 1 = (t : Int) := by have := ht.out; omega
    have ht3 : t ≤ 300 := by have := ht.out; omega
    have gtw : IntKind.i64.wrap (t : Int) = (t : Int) := by rw [IntKind.wrap_i64]; omega
    obtain ⟨q, hq⟩ : ∃ q, Hid (q = E + t) := ⟨_, rfl⟩
    have gq : (E : Int) + (t : Int) = (q : Int) := by have := hq.out; omega
    have hq6 : q ≤ 600 := by have := hq.out; omega
    have gqw : IntKind.i64.wrap (q : Int) = (q : Int) := by rw [IntKind.wrap_i64]; omega
    have HE2 : Hid ((norm known).length - 1 = E) := by show _ = _; rw [← hK.out, ← hn9.out, hE.out]
    rcases Nat.lt_or_ge q l with hql | hql
    · have g3 : (l : Int) > (q : Int) := by omega
      have HF : Hid (KeyAns s known 100 [] []) := by
        refine Or.inr (Or.inr ⟨hB.out, ?_, rfl, rfl, rfl⟩)
        rw [HE2.out]
        exact hU.none hEnd (by rw [← hc.out, ← ht.out, ← hq.out, ← hl9.out]; exact hql)
      rw [← hc.out, ← hl9.out]
      clear HC hU hEnd f1 f2 f3 f4 f5 rc rl r3 HT hF3 hF4 b4
      go_wp2
      go_ret3
      exact MakesK.mk HF.out (rd9_nil _) (rd9_nil _) b1
    · have g3 : ¬ (l : Int) > (q : Int) := by omega
      obtain ⟨k1, k2, k3⟩ := hU.least hEnd (by rw [← hc.out, ← ht.out, ← hq.out, ← hl9.out]; exact hql)
      have HL : Hid (LeastLoc (keP s known) s.length E t (fun j => mu (iv (co C1 (C1.length - 1))) (co C1 j))) := by
        show LeastLoc _ _ _ _ _
        rw [ht.out, hc.out]; exact k3
      have HC5 := ktop_any hF4 rc (by omega) k1 k2
      obtain ⟨A, hA⟩ : ∃ A, Hid (A = fun j => mu (iv (co C1 (C1.length - 1))) (co C1 j)) := ⟨_, rfl⟩
      rw [← hA.out] at HC5 HL
      rw [show C1.length - 1 + 1 = t + 1 by rw [ht.out, hc.out]] at HC5
      obtain ⟨AL, hAL⟩ : ∃ AL, Hid (AL = upto A (t + 1)) := ⟨_, rfl⟩
      have hALl : Hid (AL.length = t + 1) := by show _ = _; rw [hAL.out, upto_length]
      rw [← hAL.out] at HC5
      rw [← hc.out] at HC5 ⊢
      rw [← hl9.out]
      clear HC hU hEnd f1 f2 f3 f4 f5 rc rl HT hF3 b4 k1 k2 k3
      go_wp2_with fail
      refine HC5.mono ?_
      rintro e9 w5 ⟨v5, rfl, r5, b5, _⟩
      replace b1 := Below.next b1 b5
      replace r3 := r3.below b5
      have hF5 := hF4.below b5
      obtain ⟨a5, c5, rfl⟩ := r5.form
      rw [hALl.out] at r5 ⊢
      clear HC5 hF4 b5
      go_wp2_with fail
      refine (pmul_any hF5 r5 r3 (by rw [hALl.out]; omega) (by rw [← hpn.out]; omega)).mono ?_
      rintro e9 w6 ⟨v6, rfl, r6, b6⟩
      have h6 := mulP_length_le AL P
      rw [hALl.out, ← hpn.out] at h6
      have HO : Hid (norm ((mulP AL P).drop m) = evaL s known t A) := by
        show _ = _
        rw [hAL.out, HP.out, hm.out]
        exact eva_told HL.out.loc.fin
      obtain ⟨Q, hQ⟩ : ∃ Q, Hid (Q = mulP AL P) := ⟨_, rfl⟩
      rw [← hQ.out] at r6 h6 HO
      replace b1 := Below.next b1 b6
      replace r5 := r5.below b6
      clear hF5 r3 b6
      go_wp2_with fail
      refine (kfrom_any r6 (by omega) (m := m) (by omega) rfl).mono ?_
      rintro e9 w7 ⟨v7, rfl, r7, b7, _⟩
      rw [HO.out] at r7
      replace b1 := Below.next b1 b7
      replace r5 := r5.below b7
      obtain ⟨a7, c7, rfl⟩ := r7.form
      have HF : Hid (KeyAns s known 0 AL (evaL s known t A)) := by
        rw [hAL.out]
        refine KeyAns.of_loc hB.out ?_
        rw [HE2.out]; exact HL.out
      obtain ⟨O, hO⟩ : ∃ O, Hid (O = evaL s known t A) := ⟨_, rfl⟩
      rw [← hO.out] at r7 HF ⊢
      clear b7 r6
      go_wp2
      go_ret3
      exact MakesK.mk HF.out r5 r7 b1
  · have ek : k = pn := by have := hk.out; omega
    rw [ek] at HC hkn hkc
    have hlt' : (pn : Int) < (m : Int) := by omega
    clear ek
    go_wp2_with fail
    refine HC.mono ?_
    rintro e9 w4 ⟨r0, v0, R1, C1, vc, vl, hU, hEnd, rfl, rc, rl, b4⟩
    obtain ⟨f1, f2, f3, f4, f5⟩ := hU.fac
    rw [← hm.out] at f2 f3 f5
    obtain ⟨ca, cc, rfl⟩ := rc.form
    obtain ⟨la, lc, rfl⟩ := rl.form
    replace b1 := Below.next b1 b4
    replace r3 := r3.below b4
    have hF4 := hF3.below b4
    obtain ⟨c, hc⟩ : ∃ c, Hid (c = C1.length) := ⟨_, rfl⟩
    obtain ⟨t, ht⟩ : ∃ t, Hid (t = c - 1) := ⟨_, rfl⟩
    obtain ⟨l, hl9⟩ : ∃ l, Hid (l = R1.length) := ⟨_, rfl⟩
    have hc1 : 1 ≤ c := by rw [hc.out]; exact f1
    have hc2 : c ≤ 301 := by rw [hc.out]; omega
    have hl3 : l ≤ 301 := by rw [hl9.out]; omega
    have gt : (c : Int) - 1 = (t : Int) := by have := ht.out; omega
    have ht3 : t ≤ 300 := by have := ht.out; omega
    have gtw : IntKind.i64.wrap (t : Int) = (t : Int) := by rw [IntKind.wrap_i64]; omega
    obtain ⟨q, hq⟩ : ∃ q, Hid (q = E + t) := ⟨_, rfl⟩
    have gq : (E : Int) + (t : Int) = (q : Int) := by have := hq.out; omega
    have hq6 : q ≤ 600 := by have := hq.out; omega
    have gqw : IntKind.i64.wrap (q : Int) = (q : Int) := by rw [IntKind.wrap_i64]; omega
    have HE2 : Hid ((norm known).length - 1 = E) := by show _ = _; rw [← hK.out, ← hn9.out, hE.out]
    rcases Nat.lt_or_ge q l with hql | hql
    · have g3 : (l : Int) > (q : Int) := by omega
      have HF : Hid (KeyAns s known 100 [] []) := by
        refine Or.inr (Or.inr ⟨hB.out, ?_, rfl, rfl, rfl⟩)
        rw [HE2.out]
        exact hU.none hEnd (by rw [← hc.out, ← ht.out, ← hq.out, ← hl9.out]; exact hql)
      rw [← hc.out, ← hl9.out]
      clear HC hU hEnd f1 f2 f3 f4 f5 rc rl r3 HT hF3 hF4 b4
      go_wp2
      go_ret3
      exact MakesK.mk HF.out (rd9_nil _) (rd9_nil _) b1
    · have g3 : ¬ (l : Int) > (q : Int) := by omega
      obtain ⟨k1, k2, k3⟩ := hU.least hEnd (by rw [← hc.out, ← ht.out, ← hq.out, ← hl9.out]; exact hql)
      have HL : Hid (LeastLoc (keP s known) s.length E t (fun j => mu (iv (co C1 (C1.length - 1))) (co C1 j))) := by
        show LeastLoc _ _ _ _ _
        rw [ht.out, hc.out]; exact k3
      have HC5 := ktop_any hF4 rc (by omega) k1 k2
      obtain ⟨A, hA⟩ : ∃ A, Hid (A = fun j => mu (iv (co C1 (C1.length - 1))) (co C1 j)) := ⟨_, rfl⟩
      rw [← hA.out] at HC5 HL
      rw [show C1.length - 1 + 1 = t + 1 by rw [ht.out, hc.out]] at HC5
      obtain ⟨AL, hAL⟩ : ∃ AL, Hid (AL = upto A (t + 1)) := ⟨_, rfl⟩
      have hALl : Hid (AL.length = t + 1) := by show _ = _; rw [hAL.out, upto_length]
      rw [← hAL.out] at HC5
      rw [← hc.out] at HC5 ⊢
      rw [← hl9.out]
      clear HC hU hEnd f1 f2 f3 f4 f5 rc rl HT hF3 b4 k1 k2 k3
      go_wp2_with fail
      refine HC5.mono ?_
      rintro e9 w5 ⟨v5, rfl, r5, b5, _⟩
      replace b1 := Below.next b1 b5
      replace r3 := r3.below b5
      have hF5 := hF4.below b5
      obtain ⟨a5, c5, rfl⟩ := r5.form
      rw [hALl.out] at r5 ⊢
      clear HC5 hF4 b5
      go_wp2_with fail
      refine (pmul_any hF5 r5 r3 (by rw [hALl.out]; omega) (by rw [← hpn.out]; omega)).mono ?_
      rintro e9 w6 ⟨v6, rfl, r6, b6⟩
      have h6 := mulP_length_le AL P
      rw [hALl.out, ← hpn.out] at h6
      have HO : Hid (norm ((mulP AL P).drop m) = evaL s known t A) := by
        show _ = _
        rw [hAL.out, HP.out, hm.out]
        exact eva_told HL.out.loc.fin
      obtain ⟨Q, hQ⟩ : ∃ Q, Hid (Q = mulP AL P) := ⟨_, rfl⟩
      rw [← hQ.out] at r6 h6 HO
      replace b1 := Below.next b1 b6
      replace r5 := r5.below b6
      clear hF5 r3 b6
      go_wp2_with fail
      refine (kfrom_any r6 (by omega) (m := m) (by omega) rfl).mono ?_
      rintro e9 w7 ⟨v7, rfl, r7, b7, _⟩
      rw [HO.out] at r7
      replace b1 := Below.next b1 b7
      replace r5 := r5.below b7
      obtain ⟨a7, c7, rfl⟩ := r7.form
      have HF : Hid (KeyAns s known 0 AL (evaL s known t A)) := by
        rw [hAL.out]
        refine KeyAns.of_loc hB.out ?_
        rw [HE2.out]; exact HL.out
      obtain ⟨O, hO⟩ : ∃ O, Hid (O = evaL s known t A) := ⟨_, rfl⟩
      rw [← hO.out] at r7 HF ⊢
      clear b7 r6
      go_wp2
      go_ret3
      exact MakesK.mk HF.out r5 r7 b1
end Go.Proofs.YtddnfhfangfgeaaGreat.Gf
