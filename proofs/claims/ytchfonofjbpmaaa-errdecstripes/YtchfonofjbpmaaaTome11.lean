/- TEXTS JOINED: KeCF, KeCode, SyCA, CaCA, SyCB. -/
import Derived.Test.YtchfonofjbpmaaaTome8
import Derived.Test.YtchfonofjbpmaaaTome9
import Derived.Test.YtchfonofjbpmaaaTome3
import Derived.Test.YtchfonofjbpmaaaTome10
import Derived.Test.YtchfonofjbpmaaaTome5
import Derived.Test.YtchfonofjbpmaaaTome7
import Derived.Test.YtchfonofjbpmaaaTome2
/-
  THE PROGRAM's 'from' (package keyeq) BY CONTRACT.
-/


namespace Go.Proofs.Ytchfonofjbpmaaa.Gf
set_option linter.unusedVariables false
set_option linter.unusedSimpArgs false
open Go.RowKit

theorem rd_e9 {w : World} {a : Option Addr} {c n : Nat} (h1 : c - n ≤ maxLen) (h2 : a = none → c = 0) : Rd w (.slice (Option.map (fun x => x.add n) a) 0 (c - n)) [] :=
  Or.inl ⟨_, _, rfl, rfl, h1, fun e => by
    cases a with
    | none => rw [h2 rfl]; exact Nat.zero_sub n
    | some x => cases e⟩

set_option maxRecDepth 100000 in
set_option maxHeartbeats 1000000 in
theorem kfrom_any {w : World} {v : Value} {p : List UInt8} (hp : Rd w v p) (hl : p.length ≤ 100000) {m : Nat} (hm : m ≤ 100000) {x : Int} (hx : x = (m : Int)) : Calls Try.prog 84 #[v, .int .i64 x] w (MakesF w (norm (p.drop m))) := by
  subst hx
  by_cases hlt : m < p.length
  · obtain ⟨b, off, c, rfl, hc1, hc2⟩ := hp.spot9 (by omega)
    have hr := hp.behind hlt rfl
    unfold maxLen at hc2
    obtain ⟨n, hn⟩ : ∃ n, Hid (n = p.length) := ⟨_, rfl⟩
    obtain ⟨k, hk⟩ : ∃ k, Hid (k = n - m) := ⟨_, rfl⟩
    have hdl : Hid ((p.drop m).length ≤ 100000) := by show _ ≤ _; rw [List.length_drop]; omega
    rw [← hn.out] at hr hlt hc1 hl ⊢
    rw [← hk.out] at hr
    have hlt' : (m : Int) < (n : Int) := by omega
    have hge : ¬ (n : Int) < (m : Int) := by omega
    have hmn : m ≤ n := by omega
    have hmc : m < c := by omega
    have hcm : ¬ c = m := by omega
    have hnk : n - m = k := by rw [hk.out]
    go_enter Try.func84, Try.ntmps84
    go_wp2_with fail
    refine (pnorm_far hr (Nat.le_trans hdl.out (by decide))).mono ?_
    rintro e w2 ⟨v2, rfl, hr2, hb2, hf2⟩
    go_wp2
    go_ret
    exact ⟨_, rfl, hr2, hb2, hf2⟩
  · have hd : p.drop m = [] := List.drop_eq_nil_of_le (by omega)
    rw [hd]
    obtain ⟨a, c, rfl⟩ := hp.form
    have hc : p.length ≤ c ∧ c ≤ maxLen ∧ (a = none → c = 0) := by
      rcases hp with ⟨a', c', e, e2, h3, h4⟩ | ⟨b, o, c', h1, e2, h3, h4, _⟩
      · simp at e2; obtain ⟨rfl, _, rfl⟩ := e2; subst e; exact ⟨Nat.zero_le _, h3, h4⟩
      · simp at e2; obtain ⟨rfl, rfl⟩ := e2; exact ⟨h3, h4, fun h => by cases h⟩
    obtain ⟨hc1, hc2, hc3⟩ := hc
    obtain ⟨n, hn⟩ : ∃ n, Hid (n = p.length) := ⟨_, rfl⟩
    rw [← hn.out] at hlt hc1 hl ⊢
    clear hp hd
    have hlt' : ¬ (m : Int) < (n : Int) := by omega
    unfold maxLen at hc2
    go_enter Try.func84, Try.ntmps84
    by_cases e1 : (n : Int) < (m : Int)
    · go_wp2_with fail
      · refine (pnorm_far (p := []) (Or.inl ⟨_, _, rfl, rfl, Nat.zero_le _, fun _ => rfl⟩) (by decide)).mono ?_
        rintro e w2 ⟨v2, rfl, hr2, hb2, hf2⟩
        go_wp2
        go_ret
        exact ⟨_, rfl, hr2, hb2, hf2⟩
      · refine (pnorm_far (p := []) (rd_e9 (by unfold maxLen; omega) hc3) (by decide)).mono ?_
        rintro e w2 ⟨v2, rfl, hr2, hb2, hf2⟩
        go_wp2
        go_ret
        exact ⟨_, rfl, hr2, hb2, hf2⟩
    · obtain rfl : n = m := by omega
      clear e1 hlt' hlt
      go_wp2_with fail
      · refine (pnorm_far (p := []) (Or.inl ⟨_, _, rfl, rfl, Nat.zero_le _, fun _ => rfl⟩) (by decide)).mono ?_
        rintro e w2 ⟨v2, rfl, hr2, hb2, hf2⟩
        go_wp2
        go_ret
        exact ⟨_, rfl, hr2, hb2, hf2⟩
      · refine (pnorm_far (p := []) (rd_e9 (by unfold maxLen; omega) hc3) (by decide)).mono ?_
        rintro e w2 ⟨v2, rfl, hr2, hb2, hf2⟩
        go_wp2
        go_ret
        exact ⟨_, rfl, hr2, hb2, hf2⟩

end Go.Proofs.Ytchfonofjbpmaaa.Gf

/-
  THE PROGRAM's 'Solve' (package keyeq) BY CONTRACT.
-/

namespace Go.Proofs.Ytchfonofjbpmaaa.Gf
set_option linter.unusedVariables false
set_option linter.unusedSimpArgs false
open Go.RowKit

theorem Rd.first9 {w : World} {a : Option Addr} {n c k : Nat} {p : List UInt8} (h : Rd w (.slice a n c) p) (hk : k ≤ n) : Rd w (.slice a k c) (p.take k) := by
  rcases h with ⟨a', c', e, e2, h3, h4⟩ | ⟨b, off, c', h1, e2, h3, h4, h5, h6⟩
  · simp at e2
    obtain ⟨rfl, rfl, rfl⟩ := e2
    subst e
    obtain rfl : k = 0 := by omega
    exact Or.inl ⟨_, _, rfl, rfl, h3, h4⟩
  · simp at e2
    obtain ⟨rfl, rfl, rfl⟩ := e2
    have hl : (p.take k).length = k := by rw [List.length_take]; omega
    by_cases h0 : k = 0
    · subst h0
      exact Or.inl ⟨_, _, by simp, rfl, h4, fun h => by cases h⟩
    · refine Or.inr ⟨b, off, c, fun e => by rw [e] at hl; simp at hl; omega, by rw [hl], by rw [hl]; omega, h4, h5, fun i hi => ?_⟩
      rw [hl] at hi
      rw [co_take hi]
      exact h6 i (by omega)
theorem Rd.caps {w : World} {a : Option Addr} {n c : Nat} {p : List UInt8} (h : Rd w (.slice a n c) p) : n = p.length ∧ n ≤ c ∧ c ≤ 9223372036854775807 := by
  rcases h with ⟨a', c', e, e2, h3, h4⟩ | ⟨b, off, c', h1, e2, h3, h4, h5, h6⟩
  · simp at e2; obtain ⟨rfl, rfl, rfl⟩ := e2; subst e; unfold maxLen at h3; exact ⟨rfl, Nat.zero_le _, by omega⟩
  · simp at e2; obtain ⟨rfl, rfl, rfl⟩ := e2; unfold maxLen at h4; exact ⟨rfl, h3, by omega⟩
theorem keP_told (s known : List UInt8) : co (mulP (norm known) s.reverse) = keP s known := by
  rw [co_mulP, co_norm]; rfl
theorem told_take {s known : List UInt8} {k : Nat} (hk : k = min s.length (mulP (norm known) s.reverse).length) : ((mulP (norm known) s.reverse).take k).length ≤ s.length ∧ ∀ j, j < s.length → co ((mulP (norm known) s.reverse).take k) j = keP s known j := by
  rw [← keP_told]
  refine ⟨by rw [List.length_take]; omega, fun j hj => ?_⟩
  by_cases h : j < k
  · rw [co_take h]
  · rw [co_ge (p := (mulP (norm known) s.reverse).take k) (by rw [List.length_take]; omega), co_ge (by omega)]
theorem eva_told {s known : List UInt8} {t : Nat} {L : Nat → UInt8} (h : Fin0 L (t + 1)) : norm ((mulP (upto L (t + 1)) (mulP (norm known) s.reverse)).drop s.length) = evaL s known t L := by
  have e : co (upto L (t + 1)) = L := funext fun i => co_upto h i
  have hf := fin_conv (upto L (t + 1)) (mulP (norm known) s.reverse)
  have e1 : (mulP (upto L (t + 1)) (mulP (norm known) s.reverse)).drop s.length = evaL s known t L := by
    unfold evaL
    show (mk (conv (co (upto L (t + 1))) (co (mulP (norm known) s.reverse))) _).drop s.length = _
    rw [keP_told, e] at hf ⊢
    exact drop_mk hf (eva_fin h)
  rw [e1]
  exact norm_mk (eva_fin h)

set_option maxRecDepth 100000 in
set_option maxHeartbeats 1000000 in
theorem ksol_nil {w : World} {vs vk : Value} {s known : List UInt8} (hs : Rd w vs s) (hk : Rd w vk known) (hl : known.length ≤ 140737488355328) : Calls Try.prog 55 #[.pointer none, vs, vk] w fun e w' => ∃ va vo, e = .returned (.tuple #[va, vo, .int .i64 1]) ∧ Rd w' va [] ∧ Rd w' vo [] ∧ Below w.heap.size w w' := by
  obtain ⟨sa, sc, rfl⟩ := hs.form
  go_enter Try.func55, Try.ntmps55
  go_wp2_with fail
  refine (pnorm_any hk hl).mono ?_
  rintro e9 w1 ⟨v1, rfl, r1, b1⟩
  obtain ⟨ka, kc, rfl⟩ := r1.form
  have hn := norm_length_le known
  obtain ⟨K, hK⟩ : ∃ K, Hid (K = norm known) := ⟨_, rfl⟩
  rw [← hK.out] at r1 hn ⊢
  have hsl := hs.len
  unfold maxLen at hsl
  clear hs hk
  go_wp2
  go_ret3
  exact ⟨_, _, rfl, rd9_nil _, rd9_nil _, b1⟩

set_option maxRecDepth 100000 in
set_option maxHeartbeats 4000000 in
theorem ksol_any {w : World} {b : Nat} {vs vk : Value} {s known : List UInt8} (hF : FieldAt w b) (hs : Rd w vs s) (hk : Rd w vk known) (hl : s.length ≤ 300) (hl2 : known.length ≤ 300) : Calls Try.prog 55 #[.pointer (some ⟨b, 0, none⟩), vs, vk] w (MakesK w s known) := by
  obtain ⟨sa, sc, rfl⟩ := hs.form
  go_enter Try.func55, Try.ntmps55
  go_wp2_with fail
  refine (pnorm_any hk (by omega)).mono ?_
  rintro e9 w1 ⟨v1, rfl, r1, b1⟩
  have hn := norm_length_le known
  obtain ⟨K, hK⟩ : ∃ K, Hid (K = norm known) := ⟨_, rfl⟩
  rw [← hK.out] at r1 hn
  obtain ⟨ka, kc, rfl⟩ := r1.form
  replace hs := hs.below b1
  have hF1 := hF.below b1
  obtain ⟨m, hm⟩ : ∃ m, Hid (m = s.length) := ⟨_, rfl⟩
  obtain ⟨n, hn9⟩ : ∃ n, Hid (n = K.length) := ⟨_, rfl⟩
  have hm3 : m ≤ 300 := by rw [hm.out]; exact hl
  have hn3 : n ≤ 300 := by rw [hn9.out]; omega
  rw [← hm.out] at hs ⊢
  rw [← hn9.out] at r1 ⊢
  have gw1 : IntKind.i64.wrap ((n : Int) - 1) = (n : Int) - 1 := by rw [IntKind.wrap_i64]; omega
  clear hn hk hF
  by_cases h0 : n = 0
  · have g1 : (n : Int) - 1 < 0 := by omega
    have HF : Hid (KeyAns s known 1 [] []) := Or.inl ⟨Or.inl (by rw [← hK.out, ← hn9.out]; exact h0), rfl, rfl, rfl⟩
    clear h0
    go_wp2
    go_ret3
    exact MakesK.mk HF.out (rd9_nil _) (rd9_nil _) b1
  by_cases h1 : m + 1 < n
  · have g1 : ¬ (n : Int) - 1 < 0 := by omega
    have g2 : (n : Int) - 1 > (m : Int) := by omega
    have HF : Hid (KeyAns s known 1 [] []) := Or.inl ⟨Or.inr (by rw [← hK.out, ← hn9.out, ← hm.out]; exact h1), rfl, rfl, rfl⟩
    clear h0 h1
    go_wp2
    go_ret3
    exact MakesK.mk HF.out (rd9_nil _) (rd9_nil _) b1
  have hB : Hid (¬ BadK s known) := by
    unfold Hid BadK
    rw [← hK.out, ← hn9.out, ← hm.out]
    omega
  obtain ⟨E, hE⟩ : ∃ E, Hid (E = n - 1) := ⟨_, rfl⟩
  have gE : (n : Int) - 1 = (E : Int) := by have := hE.out; omega
  have hEm : E ≤ m := by have := hE.out; omega
  have g1 : ¬ (E : Int) < 0 := by omega
  have g2 : ¬ (E : Int) > (m : Int) := by omega
  have gw2 : IntKind.i64.wrap (E : Int) = (E : Int) := by rw [IntKind.wrap_i64]; omega
  clear gw1 h0 h1
  have hsl : Hid (s.length ≤ 1000) := by show _ ≤ _; omega
  go_wp2_with fail
  refine (kturn_any hs hsl.out).mono ?_
  rintro e9 w2 ⟨v2, rfl, r2, b2, _⟩
  replace b1 := Below.next b1 b2
  replace r1 := r1.below b2
  have hF2 := hF1.below b2
  have hrl : Hid (s.reverse.length = m) := by show _ = _; rw [List.length_reverse, hm.out]
  clear hF1 hs b2
  go_wp2_with fail
  refine (pmul_any hF2 r1 r2 (by rw [← hn9.out]; omega) (by rw [hrl.out]; omega)).mono ?_
  rintro e9 w3 ⟨v3, rfl, r3, b3⟩
  have hpl := mulP_length_le K s.reverse
  rw [← hn9.out, hrl.out] at hpl
  obtain ⟨P, hP⟩ : ∃ P, Hid (P = mulP K s.reverse) := ⟨_, rfl⟩
  rw [← hP.out] at r3 hpl
  have HP : Hid (P = mulP (norm known) s.reverse) := by show _ = _; rw [hP.out, hK.out]
  obtain ⟨pa, pc, rfl⟩ := r3.form
  obtain ⟨_, hpc, hpm⟩ := r3.caps
  replace b1 := Below.next b1 b3
  have hF3 := hF2.below b3
  obtain ⟨pn, hpn⟩ : ∃ pn, Hid (pn = P.length) := ⟨_, rfl⟩
  rw [← hpn.out] at hpl hpc r3 ⊢
  clear hF2 r1 r2 b3
  obtain ⟨k, hk⟩ : ∃ k, Hid (k = min m pn) := ⟨_, rfl⟩
  have hkn : k ≤ pn := by have := hk.out; omega
  have hkc : k ≤ pc := by omega
  have rT := r3.first9 hkn
  have HT : Hid ((P.take k).length ≤ s.length ∧ ∀ j, j < s.length → co (P.take k) j = keP s known j) := by
    rw [HP.out]
    exact told_take (by rw [hk.out, hpn.out, HP.out, hm.out])
  obtain ⟨HT1, HT2⟩ := HT.out
  have HC := keuc_any (e := E) hF3 rT HT1 HT2 hl (by rw [← hm.out]; exact hEm) rfl rfl
  rw [← hm.out] at HC
  clear HT1 HT2 rT
  rcases Nat.lt_or_ge pn m with hlt | hge
  rotate_left
  · have ek : k = m := by have := hk.out; omega
    rw [ek] at HC hkn hkc
    have hlt' : ¬ (pn : Int) < (m : Int) := by omega
    clear ek
    go_wp2_with fail
    refine HC.mono ?_
    rintro e9 w4 ⟨r0, v0, R1, C1, vc, vl, hU, hEnd, rfl, rc, rl, b4⟩
    obtain ⟨f1, f2, f3, f4, f5⟩ := hU.fac
    rw [← hm.out] at f2 f3 f5
    obtain ⟨ca, cc, rfl⟩ := rc.form
    obtain ⟨la, lc, rfl⟩ := rl.form
    replace b1 := Below.next b1 b4
    replace r3 := r3.below b4
    have hF4 := hF3.below b4
    obtain ⟨c, hc⟩ : ∃ c, Hid (c = C1.length) := ⟨_, rfl⟩
    obtain ⟨t, ht⟩ : ∃ t, Hid (t = c - 1) := ⟨_, rfl⟩
    obtain ⟨l, hl9⟩ : ∃ l, Hid (l = R1.length) := ⟨_, rfl⟩
    have hc1 : 1 ≤ c := by rw [hc.out]; exact f1
    have hc2 : c ≤ 301 := by rw [hc.out]; omega
    have hl3 : l ≤ 301 := by rw [hl9.out]; omega
    have gt : (c : Int) - 1 = (t : Int) := by have := ht.out; omega
    have ht3 : t ≤ 300 := by have := ht.out; omega
    have gtw : IntKind.i64.wrap (t : Int) = (t : Int) := by rw [IntKind.wrap_i64]; omega
    obtain ⟨q, hq⟩ : ∃ q, Hid (q = E + t) := ⟨_, rfl⟩
    have gq : (E : Int) + (t : Int) = (q : Int) := by have := hq.out; omega
    have hq6 : q ≤ 600 := by have := hq.out; omega
    have gqw : IntKind.i64.wrap (q : Int) = (q : Int) := by rw [IntKind.wrap_i64]; omega
    have HE2 : Hid ((norm known).length - 1 = E) := by show _ = _; rw [← hK.out, ← hn9.out, hE.out]
    rcases Nat.lt_or_ge q l with hql | hql
    · have g3 : (l : Int) > (q : Int) := by omega
      have HF : Hid (KeyAns s known 100 [] []) := by
        refine Or.inr (Or.inr ⟨hB.out, ?_, rfl, rfl, rfl⟩)
        rw [HE2.out]
        exact hU.none hEnd (by rw [← hc.out, ← ht.out, ← hq.out, ← hl9.out]; exact hql)
      rw [← hc.out, ← hl9.out]
      clear HC hU hEnd f1 f2 f3 f4 f5 rc rl r3 HT hF3 hF4 b4
      go_wp2
      go_ret3
      exact MakesK.mk HF.out (rd9_nil _) (rd9_nil _) b1
    · have g3 : ¬ (l : Int) > (q : Int) := by omega
      obtain ⟨k1, k2, k3⟩ := hU.least hEnd (by rw [← hc.out, ← ht.out, ← hq.out, ← hl9.out]; exact hql)
      have HL : Hid (LeastLoc (keP s known) s.length E t (fun j => mu (iv (co C1 (C1.length - 1))) (co C1 j))) := by
        show LeastLoc _ _ _ _ _
        rw [ht.out, hc.out]; exact k3
      have HC5 := ktop_any hF4 rc (by omega) k1 k2
      obtain ⟨A, hA⟩ : ∃ A, Hid (A = fun j => mu (iv (co C1 (C1.length - 1))) (co C1 j)) := ⟨_, rfl⟩
      rw [← hA.out] at HC5 HL
      rw [show C1.length - 1 + 1 = t + 1 by rw [ht.out, hc.out]] at HC5
      obtain ⟨AL, hAL⟩ : ∃ AL, Hid (AL = upto A (t + 1)) := ⟨_, rfl⟩
      have hALl : Hid (AL.length = t + 1) := by show _ = _; rw [hAL.out, upto_length]
      rw [← hAL.out] at HC5
      rw [← hc.out] at HC5 ⊢
      rw [← hl9.out]
      clear HC hU hEnd f1 f2 f3 f4 f5 rc rl HT hF3 b4 k1 k2 k3
      go_wp2_with fail
      refine HC5.mono ?_
      rintro e9 w5 ⟨v5, rfl, r5, b5, _⟩
      replace b1 := Below.next b1 b5
      replace r3 := r3.below b5
      have hF5 := hF4.below b5
      obtain ⟨a5, c5, rfl⟩ := r5.form
      rw [hALl.out] at r5 ⊢
      clear HC5 hF4 b5
      go_wp2_with fail
      refine (pmul_any hF5 r5 r3 (by rw [hALl.out]; omega) (by rw [← hpn.out]; omega)).mono ?_
      rintro e9 w6 ⟨v6, rfl, r6, b6⟩
      have h6 := mulP_length_le AL P
      rw [hALl.out, ← hpn.out] at h6
      have HO : Hid (norm ((mulP AL P).drop m) = evaL s known t A) := by
        show _ = _
        rw [hAL.out, HP.out, hm.out]
        exact eva_told HL.out.loc.fin
      obtain ⟨Q, hQ⟩ : ∃ Q, Hid (Q = mulP AL P) := ⟨_, rfl⟩
      rw [← hQ.out] at r6 h6 HO
      replace b1 := Below.next b1 b6
      replace r5 := r5.below b6
      clear hF5 r3 b6
      go_wp2_with fail
      refine (kfrom_any r6 (by omega) (m := m) (by omega) rfl).mono ?_
      rintro e9 w7 ⟨v7, rfl, r7, b7, _⟩
      rw [HO.out] at r7
      replace b1 := Below.next b1 b7
      replace r5 := r5.below b7
      obtain ⟨a7, c7, rfl⟩ := r7.form
      have HF : Hid (KeyAns s known 0 AL (evaL s known t A)) := by
        rw [hAL.out]
        refine KeyAns.of_loc hB.out ?_
        rw [HE2.out]; exact HL.out
      obtain ⟨O, hO⟩ : ∃ O, Hid (O = evaL s known t A) := ⟨_, rfl⟩
      rw [← hO.out] at r7 HF ⊢
      clear b7 r6
      go_wp2
      go_ret3
      exact MakesK.mk HF.out r5 r7 b1
  · have ek : k = pn := by have := hk.out; omega
    rw [ek] at HC hkn hkc
    have hlt' : (pn : Int) < (m : Int) := by omega
    clear ek
    go_wp2_with fail
    refine HC.mono ?_
    rintro e9 w4 ⟨r0, v0, R1, C1, vc, vl, hU, hEnd, rfl, rc, rl, b4⟩
    obtain ⟨f1, f2, f3, f4, f5⟩ := hU.fac
    rw [← hm.out] at f2 f3 f5
    obtain ⟨ca, cc, rfl⟩ := rc.form
    obtain ⟨la, lc, rfl⟩ := rl.form
    replace b1 := Below.next b1 b4
    replace r3 := r3.below b4
    have hF4 := hF3.below b4
    obtain ⟨c, hc⟩ : ∃ c, Hid (c = C1.length) := ⟨_, rfl⟩
    obtain ⟨t, ht⟩ : ∃ t, Hid (t = c - 1) := ⟨_, rfl⟩
    obtain ⟨l, hl9⟩ : ∃ l, Hid (l = R1.length) := ⟨_, rfl⟩
    have hc1 : 1 ≤ c := by rw [hc.out]; exact f1
    have hc2 : c ≤ 301 := by rw [hc.out]; omega
    have hl3 : l ≤ 301 := by rw [hl9.out]; omega
    have gt : (c : Int) - 1 = (t : Int) := by have := ht.out; omega
    have ht3 : t ≤ 300 := by have := ht.out; omega
    have gtw : IntKind.i64.wrap (t : Int) = (t : Int) := by rw [IntKind.wrap_i64]; omega
    obtain ⟨q, hq⟩ : ∃ q, Hid (q = E + t) := ⟨_, rfl⟩
    have gq : (E : Int) + (t : Int) = (q : Int) := by have := hq.out; omega
    have hq6 : q ≤ 600 := by have := hq.out; omega
    have gqw : IntKind.i64.wrap (q : Int) = (q : Int) := by rw [IntKind.wrap_i64]; omega
    have HE2 : Hid ((norm known).length - 1 = E) := by show _ = _; rw [← hK.out, ← hn9.out, hE.out]
    rcases Nat.lt_or_ge q l with hql | hql
    · have g3 : (l : Int) > (q : Int) := by omega
      have HF : Hid (KeyAns s known 100 [] []) := by
        refine Or.inr (Or.inr ⟨hB.out, ?_, rfl, rfl, rfl⟩)
        rw [HE2.out]
        exact hU.none hEnd (by rw [← hc.out, ← ht.out, ← hq.out, ← hl9.out]; exact hql)
      rw [← hc.out, ← hl9.out]
      clear HC hU hEnd f1 f2 f3 f4 f5 rc rl r3 HT hF3 hF4 b4
      go_wp2
      go_ret3
      exact MakesK.mk HF.out (rd9_nil _) (rd9_nil _) b1
    · have g3 : ¬ (l : Int) > (q : Int) := by omega
      obtain ⟨k1, k2, k3⟩ := hU.least hEnd (by rw [← hc.out, ← ht.out, ← hq.out, ← hl9.out]; exact hql)
      have HL : Hid (LeastLoc (keP s known) s.length E t (fun j => mu (iv (co C1 (C1.length - 1))) (co C1 j))) := by
        show LeastLoc _ _ _ _ _
        rw [ht.out, hc.out]; exact k3
      have HC5 := ktop_any hF4 rc (by omega) k1 k2
      obtain ⟨A, hA⟩ : ∃ A, Hid (A = fun j => mu (iv (co C1 (C1.length - 1))) (co C1 j)) := ⟨_, rfl⟩
      rw [← hA.out] at HC5 HL
      rw [show C1.length - 1 + 1 = t + 1 by rw [ht.out, hc.out]] at HC5
      obtain ⟨AL, hAL⟩ : ∃ AL, Hid (AL = upto A (t + 1)) := ⟨_, rfl⟩
      have hALl : Hid (AL.length = t + 1) := by show _ = _; rw [hAL.out, upto_length]
      rw [← hAL.out] at HC5
      rw [← hc.out] at HC5 ⊢
      rw [← hl9.out]
      clear HC hU hEnd f1 f2 f3 f4 f5 rc rl HT hF3 b4 k1 k2 k3
      go_wp2_with fail
      refine HC5.mono ?_
      rintro e9 w5 ⟨v5, rfl, r5, b5, _⟩
      replace b1 := Below.next b1 b5
      replace r3 := r3.below b5
      have hF5 := hF4.below b5
      obtain ⟨a5, c5, rfl⟩ := r5.form
      rw [hALl.out] at r5 ⊢
      clear HC5 hF4 b5
      go_wp2_with fail
      refine (pmul_any hF5 r5 r3 (by rw [hALl.out]; omega) (by rw [← hpn.out]; omega)).mono ?_
      rintro e9 w6 ⟨v6, rfl, r6, b6⟩
      have h6 := mulP_length_le AL P
      rw [hALl.out, ← hpn.out] at h6
      have HO : Hid (norm ((mulP AL P).drop m) = evaL s known t A) := by
        show _ = _
        rw [hAL.out, HP.out, hm.out]
        exact eva_told HL.out.loc.fin
      obtain ⟨Q, hQ⟩ : ∃ Q, Hid (Q = mulP AL P) := ⟨_, rfl⟩
      rw [← hQ.out] at r6 h6 HO
      replace b1 := Below.next b1 b6
      replace r5 := r5.below b6
      clear hF5 r3 b6
      go_wp2_with fail
      refine (kfrom_any r6 (by omega) (m := m) (by omega) rfl).mono ?_
      rintro e9 w7 ⟨v7, rfl, r7, b7, _⟩
      rw [HO.out] at r7
      replace b1 := Below.next b1 b7
      replace r5 := r5.below b7
      obtain ⟨a7, c7, rfl⟩ := r7.form
      have HF : Hid (KeyAns s known 0 AL (evaL s known t A)) := by
        rw [hAL.out]
        refine KeyAns.of_loc hB.out ?_
        rw [HE2.out]; exact HL.out
      obtain ⟨O, hO⟩ : ∃ O, Hid (O = evaL s known t A) := ⟨_, rfl⟩
      rw [← hO.out] at r7 HF ⊢
      clear b7 r6
      go_wp2
      go_ret3
      exact MakesK.mk HF.out r5 r7 b1

end Go.Proofs.Ytchfonofjbpmaaa.Gf

/-
  THE PROGRAM's 'weighing', THE CLOSURE THAT IT MAKES, AND 'addPowers' (package syndrome) BY CONTRACT.
-/


namespace Go.Proofs.Ytchfonofjbpmaaa.Gf
set_option linter.unusedVariables false
set_option linter.unusedSimpArgs false
open Go.RowKit

/-- what 'weighing' lays: its three variables -/
structure Wg8 (w : World) (b fb kb mb : Nat) (k m : Int) : Prop where
  cf : w.cell? ⟨fb, 0, none⟩ = some (.pointer (some ⟨b, 0, none⟩))
  ck : w.cell? ⟨kb, 0, none⟩ = some (.int .i64 k)
  cm : w.cell? ⟨mb, 0, none⟩ = some (.int .i64 m)
  lf : fb < w.heap.size
  lk : kb < w.heap.size
  lm : mb < w.heap.size
theorem Wg8.below {w w' : World} {b fb kb mb : Nat} {k m : Int} (h : Wg8 w b fb kb mb k m) (hb : Below w.heap.size w w') : Wg8 w' b fb kb mb k m :=
  ⟨(hb.cell (p := ⟨fb, 0, none⟩) h.lf).trans h.cf, (hb.cell (p := ⟨kb, 0, none⟩) h.lk).trans h.ck, (hb.cell (p := ⟨mb, 0, none⟩) h.lm).trans h.cm, Nat.lt_of_lt_of_le h.lf hb.size, Nat.lt_of_lt_of_le h.lk hb.size, Nat.lt_of_lt_of_le h.lm hb.size⟩

set_option maxRecDepth 100000 in
set_option maxHeartbeats 1000000 in
theorem wg_any {b : Nat} {k m : Int} (w : World) : Calls Try.prog 51 #[.pointer (some ⟨b, 0, none⟩), .int .i64 k, .int .i64 m] w fun e w' =>
    ∃ fb kb mb, e = .returned (.func (.func 78) #[] #[.pointer (some ⟨kb, 0, none⟩), .pointer (some ⟨mb, 0, none⟩), .pointer (some ⟨fb, 0, none⟩)]) ∧ Wg8 w' b fb kb mb k m ∧ Below w.heap.size w w' := by
  go_enter Try.func51, Try.ntmps51
  go_wp2
  go_ret
  refine ⟨w.heap.size, w.heap.size + 1, w.heap.size + 1 + 1, rfl, ⟨by go_simp, by go_simp, by go_simp, by simp <;> omega, by simp <;> omega, by simp <;> omega⟩, by repeat (first | exact Below.refl _ _ | apply below_lit)⟩

set_option maxRecDepth 100000 in
set_option maxHeartbeats 2000000 in
/-- the weight of the shard i -/
theorem wg1_any {w : World} {b fb kb mb k m i : Nat} (hF : FieldAt w b) (hW : Wg8 w b fb kb mb (k : Int) (m : Int)) (hkm : k + m ≤ 256) (hi : i < 256) {x : Int} (hx : x = (i : Int)) :
    Calls Try.prog 78 #[.int .i64 x, .pointer (some ⟨kb, 0, none⟩), .pointer (some ⟨mb, 0, none⟩), .pointer (some ⟨fb, 0, none⟩)] w fun e w' => e = .returned (.int .u8 ((wtF k m i).toNat : Nat)) ∧ ∃ n, w' = w.drewN n := by
  subst hx
  obtain ⟨cf, ck, cm, _, _, _⟩ := hW
  obtain ⟨s, hs⟩ : ∃ s, Hid (s = k + m) := ⟨_, rfl⟩
  have g0 : (k : Int) + (m : Int) = (s : Int) := by have := hs.out; omega
  have hs2 : s ≤ 256 := by have := hs.out; omega
  have gw : IntKind.i64.wrap (s : Int) = (s : Int) := by rw [IntKind.wrap_i64]; omega
  have hks : k ≤ s := by have := hs.out; omega
  clear hkm
  go_enter Try.func78, Try.ntmps78
  go_wp2
  go_loopw [6, 7] (fun p v wr => ∃ t : Nat, k ≤ t ∧ t ≤ s ∧ v = .int .i64 t ∧ p = .int .u8 ((wpd k i (t - k)).toNat : Nat) ∧ ∃ nd, wr = w.drewN nd) (fun _ v _ => s - (intOf v).toNat)
  case atStart => exact ⟨k, by omega, by omega, rfl, by rw [Nat.sub_self]; rfl, 0, rfl⟩
  case round =>
    obtain ⟨t, h1, h2, rfl, rfl, nd, hd0⟩ := hrel
    have hd : Hid (wr = w.drewN nd) := hd0
    have hFr : FieldAt wr b := by rw [hd0]; exact hF.drewN nd
    have cfr : wr.cell? ⟨fb, 0, none⟩ = some (.pointer (some ⟨b, 0, none⟩)) := by rw [hd0]; exact cf
    have ckr : wr.cell? ⟨kb, 0, none⟩ = some (.int .i64 (k : Int)) := by rw [hd0]; exact ck
    have cmr : wr.cell? ⟨mb, 0, none⟩ = some (.int .i64 (m : Int)) := by rw [hd0]; exact cm
    clear hd0 hF cf ck cm
    by_cases hlt : t < s
    · have hlt' : (t : Int) < (s : Int) := by omega
      by_cases e : t = i
      · have hn : ((t : Int) != (i : Int)) = false := by simp [e]
        have HP : Hid (wpd k i (t + 1 - k) = wpd k i (t - k)) := by
          show _ = _
          rw [show t + 1 - k = (t - k) + 1 by omega, wpd_self (by omega)]
        clear e
        go_wp2
        go_roundw
        case rel => exact ⟨t + 1, by omega, by omega, by go_num, by rw [HP.out], nd, by first | exact hd.out | rfl⟩
        case measure => simp [intOf]; omega
      · have hn : ((t : Int) != (i : Int)) = true := by simp; omega
        have ht2 : t < 256 := by omega
        have m1 : (t : Int) % 256 = (t : Int) := by omega
        have m2 : (i : Int) % 256 = (i : Int) := by omega
        have X := pt_xor hi ht2
        have HP : Hid (wpd k i (t + 1 - k) = mu (wpd k i (t - k)) (pt i ^^^ pt t)) := by
          show _ = _
          rw [show t + 1 - k = (t - k) + 1 by omega, wpd_next (by omega), show k + (t - k) = t by omega]
        obtain ⟨u, hu⟩ : ∃ u, Hid (u = pt i ^^^ pt t) := ⟨_, rfl⟩
        rw [← hu.out] at X HP
        obtain ⟨q, hq⟩ : ∃ q, Hid (q = wpd k i (t - k)) := ⟨_, rfl⟩
        rw [← hq.out] at HP ⊢
        clear e
        go_wp2_with fail
        refine (fmu_quiet hFr q u rfl rfl).mono ?_
        rintro e w2 ⟨rfl, n2, hw2⟩
        have hw : Hid _ := hw2
        clear hw2
        go_wp2
        go_roundw
        case rel => exact ⟨t + 1, by omega, by omega, by go_num, by rw [HP.out], nd + n2, by rw [hw.out, hd.out, World.drewN_drewN]⟩
        case measure => simp [intOf]; omega
    · have e : t = s := by omega
      subst e
      have hge : ¬ (t : Int) < (t : Int) := by omega
      have HW : Hid (((wtF k m i).toNat : Nat) = invS (wpd k i (t - k)).toNat) := by
        show _ = _
        unfold wtF
        rw [iv_toNat, show t - k = m by have := hs.out; omega]
      obtain ⟨q, hq⟩ : ∃ q, Hid (q = wpd k i (t - k)) := ⟨_, rfl⟩
      rw [← hq.out] at HW ⊢
      go_wp2_with fail
      refine (inv_all hFr q.toNat rfl (u8_lt q)).mono ?_
      rintro e w2 ⟨rfl, n2, hw2⟩
      have hw : Hid _ := hw2
      clear hw2
      go_wp2
      go_ret
      exact ⟨by rw [HW.out]; rfl, nd + n2, by rw [hw.out, hd.out, World.drewN_drewN]⟩

/-- what is added to a row of sums, up to n -/
def apR (f : Nat → UInt8) (a p : UInt8) (n t : Nat) : UInt8 := if t < n then f t ^^^ nmF a p t else f t
theorem apR_zero (f : Nat → UInt8) (a p : UInt8) : apR f a p 0 = f := by funext t; exact if_neg (Nat.not_lt_zero _)
theorem apR_step (f : Nat → UInt8) (a p : UInt8) (n t : Nat) : apR f a p (n + 1) t = if t = n then f n ^^^ nmF a p n else apR f a p n t := by
  unfold apR
  by_cases e : t = n
  · subst e; rw [if_pos (by omega), if_pos rfl]
  · rw [if_neg e]
    by_cases h : t < n
    · rw [if_pos h, if_pos (by omega)]
    · rw [if_neg h, if_neg (by omega)]

set_option maxRecDepth 100000 in
set_option maxHeartbeats 2000000 in
/-- a number times a point's powers is added to a row of sums -/
theorem apw_any {w : World} {base u g n c b : Nat} {f : Nat → UInt8} (a p : UInt8) (hF : FieldAt w b) (hbg : b ≠ g) (hR : RowF w base u g n c f) (hL : n ≤ 1000000) {x y : Int} (hx : x = ((a.toNat : Nat) : Int)) (hy : y = ((p.toNat : Nat) : Int)) :
    Calls Try.prog 44 #[.pointer (some ⟨b, 0, none⟩), .slice (some ⟨g, 0, none⟩) n c, .int .u8 x, .int .u8 y] w fun e w' => e = .returned (.tuple #[]) ∧ Only g w w' ∧ RowF w' base u g n c (apR f a p n) := by
  subst hx hy
  go_enter Try.func44, Try.ntmps44
  go_wp2
  go_loopw [2, 11] (fun v i wr => ∃ l : Nat, l ≤ n ∧ i = .int .i64 l ∧ v = .int .u8 ((nmF a p l).toNat : Nat) ∧ Only g w wr ∧ RowF wr base u g n c (apR f a p l)) (fun _ i _ => n - (intOf i).toNat)
  case atStart => exact ⟨0, by omega, rfl, rfl, Only.refl _ _, by rw [apR_zero]; exact hR⟩
  case round =>
    obtain ⟨l, hl, rfl, rfl, hO, hRl⟩ := hrel
    by_cases hlt : l < n
    · have hlt' : (l : Int) < (n : Int) := by omega
      have c1 := hRl.cell hlt
      have f1 := hRl.unfrozen l
      have e1 : apR f a p l l = f l := if_neg (by omega)
      rw [e1] at c1
      obtain ⟨q, hq⟩ : ∃ q, Hid (q = nmF a p l) := ⟨_, rfl⟩
      have HQ : Hid (nmF a p (l + 1) = mu q p) := by show _ = _; rw [hq.out]; rfl
      have E := xor_u8 (f l) q
      have HN : Hid (RowF (wr.setCell ⟨g, l, none⟩ (.int .u8 (((f l).toNat ^^^ q.toNat : Nat) : Int))) base u g n c (apR f a p (l + 1))) := by
        rw [← UInt8.toNat_xor]
        exact hRl.store hlt _ fun s => by rw [hq.out]; exact apR_step _ _ _ _ _
      have HO : Hid (Only g w (wr.setCell ⟨g, l, none⟩ (.int .u8 (((f l).toNat ^^^ q.toNat : Nat) : Int)))) := hO.setCell l _
      have hFr := hF.only hbg HO.out
      rw [← hq.out]
      clear hRl hO hR e1 hF
      go_wp2_with fail
      refine (fmu_quiet hFr q p rfl rfl).mono ?_
      rintro e w2 ⟨rfl, n2, hw2⟩
      have HN2 : Hid (RowF w2 base u g n c (apR f a p (l + 1))) := by rw [hw2]; exact HN.out.drewN _
      have HO2 : Hid (Only g w w2) := by rw [hw2]; exact HO.out.drewN _
      clear hw2 HN HO hFr c1 f1
      go_wp2
      go_roundw
      case rel => exact ⟨l + 1, by omega, by go_num, by rw [HQ.out], HO2.out, HN2.out⟩
      case measure => simp [intOf]; omega
    · have e : l = n := by omega
      subst e
      have hge : ¬ (l : Int) < (l : Int) := by omega
      go_wp2
      go_end0
      exact ⟨rfl, hO, hRl⟩

end Go.Proofs.Ytchfonofjbpmaaa.Gf

/-
  THE PROGRAM's 'Check', 'checkField' AND WHAT FILLS A PARITY SHARD's ROW (the closure of 'parityRow') BY CONTRACT.
-/


namespace Go.Proofs.Ytchfonofjbpmaaa.Gf
set_option linter.unusedVariables false
set_option linter.unusedSimpArgs false
open Go.RowKit

set_option maxRecDepth 100000 in
set_option maxHeartbeats 1000000 in
theorem ccheck_same_ok {k m : Int} (w : World) (h : OkC k m) : Calls Try.prog 19 #[.int .i64 k, .int .i64 m] w fun e w' => e = .returned (.int .i64 0) ∧ w' = w := by
  obtain ⟨h1, h2, h3⟩ := h
  have k1 : decide (k < 1) = false := decide_eq_false (by omega)
  have k2 : decide (k > 256) = false := decide_eq_false (by omega)
  have k3 : decide (m < 0) = false := decide_eq_false (by omega)
  have k4 : decide (m > 256) = false := decide_eq_false (by omega)
  have k5 : decide (k + m > 256) = false := decide_eq_false (by omega)
  have gw : IntKind.i64.wrap (k + m) = k + m := by rw [IntKind.wrap_i64]; omega
  go_enter Try.func19, Try.ntmps19
  go_wp2
  go_ret
  exact ⟨rfl, rfl⟩
set_option maxRecDepth 100000 in
set_option maxHeartbeats 1000000 in
theorem ccheck_same_bad {k m : Int} (w : World) (h : ¬ OkC k m) : Calls Try.prog 19 #[.int .i64 k, .int .i64 m] w fun e w' => e = .returned (.int .i64 50) ∧ w' = w := by
  by_cases h1 : k < 1
  · have k1 : decide (k < 1) = true := decide_eq_true h1
    clear h h1
    go_enter Try.func19, Try.ntmps19
    go_wp2
    go_ret
    exact ⟨rfl, rfl⟩
  have k1 : decide (k < 1) = false := decide_eq_false h1
  by_cases h2 : k > 256
  · have k2 : decide (k > 256) = true := decide_eq_true h2
    clear h h1 h2
    go_enter Try.func19, Try.ntmps19
    go_wp2
    go_ret
    exact ⟨rfl, rfl⟩
  have k2 : decide (k > 256) = false := decide_eq_false h2
  by_cases h3 : m < 0
  · have k3 : decide (m < 0) = true := decide_eq_true h3
    clear h h1 h2 h3
    go_enter Try.func19, Try.ntmps19
    go_wp2
    go_ret
    exact ⟨rfl, rfl⟩
  have k3 : decide (m < 0) = false := decide_eq_false h3
  by_cases h4 : m > 256
  · have k4 : decide (m > 256) = true := decide_eq_true h4
    clear h h1 h2 h3 h4
    go_enter Try.func19, Try.ntmps19
    go_wp2
    go_ret
    exact ⟨rfl, rfl⟩
  have k4 : decide (m > 256) = false := decide_eq_false h4
  have k5 : decide (k + m > 256) = true := decide_eq_true (by
    by_cases h5 : k + m ≤ 256
    · exact absurd ⟨by omega, by omega, h5⟩ h
    · omega)
  have gw : IntKind.i64.wrap (k + m) = k + m := by rw [IntKind.wrap_i64]; omega
  clear h h1 h2 h3 h4
  go_enter Try.func19, Try.ntmps19
  go_wp2
  go_ret
  exact ⟨rfl, rfl⟩

theorem ccheck_ok {k m : Int} (w : World) (h : OkC k m) : Calls Try.prog 19 #[.int .i64 k, .int .i64 m] w fun e w' => e = .returned (.int .i64 0) ∧ Below w.heap.size w w' :=
  (ccheck_same_ok w h).mono fun e w' ⟨h1, h2⟩ => ⟨h1, h2 ▸ Below.refl _ _⟩
theorem ccheck_bad {k m : Int} (w : World) (h : ¬ OkC k m) : Calls Try.prog 19 #[.int .i64 k, .int .i64 m] w fun e w' => e = .returned (.int .i64 50) ∧ Below w.heap.size w w' :=
  (ccheck_same_bad w h).mono fun e w' ⟨h1, h2⟩ => ⟨h1, h2 ▸ Below.refl _ _⟩

set_option maxRecDepth 100000 in
set_option maxHeartbeats 1000000 in
theorem ccf_ok {k m : Int} {b : Nat} (w : World) (h : OkC k m) : Calls Try.prog 70 #[.pointer (some ⟨b, 0, none⟩), .int .i64 k, .int .i64 m] w fun e w' => e = .returned (.int .i64 0) ∧ w' = w := by
  go_enter Try.func70, Try.ntmps70
  go_wp2_with fail
  refine (ccheck_same_ok _ h).mono ?_
  rintro e w2 ⟨rfl, rfl⟩
  clear h
  go_wp2
  go_ret
  exact ⟨rfl, rfl⟩
set_option maxRecDepth 100000 in
set_option maxHeartbeats 1000000 in
theorem ccf_bad {k m : Int} {b : Nat} (w : World) (h : ¬ OkC k m) : Calls Try.prog 70 #[.pointer (some ⟨b, 0, none⟩), .int .i64 k, .int .i64 m] w fun e w' => e = .returned (.int .i64 50) ∧ w' = w := by
  go_enter Try.func70, Try.ntmps70
  go_wp2_with fail
  refine (ccheck_same_bad _ h).mono ?_
  rintro e w2 ⟨rfl, rfl⟩
  clear h
  go_wp2
  go_ret
  exact ⟨rfl, rfl⟩

set_option maxRecDepth 100000 in
set_option maxHeartbeats 2000000 in
/-- The closure fills the first k numbers of the row of the parity shard i. -/
theorem prow_fill {w : World} {b kb fb k i o n cap g m base : Nat} {f : Nat → UInt8} (hF : FieldAt w b) (hb : b ≠ g) (ck : w.cell? ⟨kb, 0, none⟩ = some (.int .i64 (k : Int))) (hk : kb ≠ g) (cf : w.cell? ⟨fb, 0, none⟩ = some (.pointer (some ⟨b, 0, none⟩))) (hf : fb ≠ g)
    (hki : k + i < 256) (hkn : k ≤ n) (hn : n ≤ 256) (hom : o + n ≤ m) (R : RowF w base 5 g m m f) {x : Int} (hx : x = (i : Int)) :
    Calls Try.prog 99 #[.int .i64 x, .slice (some ⟨g, o, none⟩) n cap, .pointer (some ⟨kb, 0, none⟩), .pointer (some ⟨fb, 0, none⟩)] w fun e w' => e = .returned (.tuple #[]) ∧ Only g w w' ∧ RowF w' base 5 g m m (putAt f o k (fun j => parF k i j)) := by
  subst hx
  obtain ⟨t, ht⟩ : ∃ t, Hid (t = k + i) := ⟨_, rfl⟩
  have g0 : (k : Int) + (i : Int) = (t : Int) := by have := ht.out; omega
  have ht2 : t < 256 := by have := ht.out; omega
  have m1 : (t : Int) % 256 = (t : Int) := by omega
  have w1 : IntKind.i64.wrap (t : Int) = (t : Int) := by rw [IntKind.wrap_i64]; omega
  go_enter Try.func99, Try.ntmps99
  go_wp2
  go_loopw [8] (fun v wr => ∃ j : Nat, j ≤ k ∧ v = .int .i64 j ∧ Only g w wr ∧ RowF wr base 5 g m m (putAt f o j (fun j => parF k i j))) (fun v _ => k - (intOf v).toNat)
  case atStart => exact ⟨0, by omega, rfl, by first | exact Only.refl _ _ | exact (Only.refl _ _).drew, by rw [putAt_zero]; first | exact R | exact R.drew⟩
  case round =>
    obtain ⟨j, hj, rfl, hO, hR⟩ := hrel
    have ck2 := (hO.cell (p := ⟨kb, 0, none⟩) hk).trans ck
    have cf2 := (hO.cell (p := ⟨fb, 0, none⟩) hf).trans cf
    have hF2 := hF.only hb hO
    clear hF ck cf R
    by_cases hlt : j < k
    · have hlt' : (j : Int) < (k : Int) := by omega
      have hj2 : (j : Int) % 256 = (j : Int) := by omega
      have X := pt_xor ht2 (show j < 256 by omega)
      have HP : Hid (parF k i j = iv (pt t ^^^ pt j)) := by show _ = _; rw [ht.out]; rfl
      obtain ⟨u, hu⟩ : ∃ u, Hid (u = pt t ^^^ pt j) := ⟨_, rfl⟩
      rw [← hu.out] at X HP
      have c4 : ∀ nd : Nat, (wr.drewN nd).cell? ⟨g, o + j, none⟩ = some (.int .u8 ((putAt f o j (fun j => parF k i j) (o + j)).toNat : Nat)) := fun nd => hR.cell (show o + j < m by omega)
      have f4 : ∀ nd : Nat, (wr.drewN nd).frozen? ⟨g, o + j, none⟩ = false := fun nd => hR.unfrozen (o + j)
      have HN : ∀ nd : Nat, Hid (RowF ((wr.drewN nd).setCell ⟨g, o + j, none⟩ (.int .u8 (invS u.toNat : Nat))) base 5 g m m (putAt f o (j + 1) (fun j => parF k i j))) := by
        intro nd
        have h := (hR.drewN nd).store (f' := putAt f o (j + 1) (fun j => parF k i j)) (show o + j < m by omega) (iv u) (fun s => by rw [putAt_step, HP.out])
        rw [iv_toNat] at h
        exact h
      have HT : ∀ nd : Nat, Hid (Only g w ((wr.drewN nd).setCell ⟨g, o + j, none⟩ (.int .u8 (invS u.toNat : Nat)))) := fun nd => (hO.drewN nd).setCell _ _
      clear hO hR
      go_wp2_with fail
      refine (inv_all hF2 u.toNat rfl (u8_lt u)).mono ?_
      rintro e w' ⟨rfl, nd, rfl⟩
      replace c4 := c4 nd
      replace f4 := f4 nd
      replace HN := HN nd
      replace HT := HT nd
      go_wp2
      go_roundw
      case rel => exact ⟨j + 1, by omega, by go_num, by first | exact HT.out | exact HT.out.drew, by first | exact HN.out | exact HN.out.drew⟩
      case measure => simp [intOf]; omega
    · have e : j = k := by omega
      subst e
      go_wp2
      go_end0
      exact ⟨rfl, hO, hR⟩

end Go.Proofs.Ytchfonofjbpmaaa.Gf

/-
  THE PROGRAM's 'Weights' AND 'Of' (package syndrome) BY CONTRACT.
-/

namespace Go.Proofs.Ytchfonofjbpmaaa.Gf
set_option linter.unusedVariables false
set_option linter.unusedSimpArgs false
open Go.RowKit

/-- What a call that answers bytes and an error leaves. -/
def MakesP (w : World) (x : Int) (p : List UInt8) (e : Ending) (w' : World) : Prop := ∃ v, e = .returned (.tuple #[v, .int .i64 x]) ∧ Rd w' v p ∧ Below w.heap.size w w'
theorem rd_nil (w : World) : Rd w (.slice none 0 0) [] := Or.inl ⟨none, 0, rfl, rfl, Nat.zero_le _, fun _ => rfl⟩

set_option maxRecDepth 100000 in
set_option maxHeartbeats 1000000 in
theorem wts_bad {b : Nat} {k m : Int} (w : World) (h : ¬ OkC k m) : Calls Try.prog 29 #[.pointer (some ⟨b, 0, none⟩), .int .i64 k, .int .i64 m] w (MakesP w 50 []) := by
  go_enter Try.func29, Try.ntmps29
  go_wp2_with fail
  refine (ccheck_same_bad _ h).mono ?_
  rintro e w2 ⟨rfl, rfl⟩
  clear h
  go_wp2
  exact bodyPost_ret (v := .tuple #[.slice none 0 0, .int .i64 50]) (by simp [results, Try.results29, go_sem]) rfl ⟨_, rfl, rd_nil _, Below.refl _ _⟩

/-- the first n numbers of f -/
def upF (f : Nat → UInt8) (n t : Nat) : UInt8 := if t < n then f t else 0
theorem upF_zero (f : Nat → UInt8) (t : Nat) : upF f 0 t = 0 := if_neg (Nat.not_lt_zero _)
theorem upF_step (f : Nat → UInt8) (n t : Nat) : upF f (n + 1) t = if t = n then f n else upF f n t := by
  unfold upF
  by_cases e : t = n
  · subst e; rw [if_pos (by omega), if_pos rfl]
  · rw [if_neg e]
    by_cases h : t < n
    · rw [if_pos h, if_pos (by omega)]
    · rw [if_neg h, if_neg (by omega)]

set_option maxRecDepth 100000 in
set_option maxHeartbeats 2000000 in
theorem wts_ok {b k m : Nat} {w : World} (hF : FieldAt w b) (h1 : 1 ≤ k) (h2 : k + m ≤ 256) {x y : Int} (hx : x = (k : Int)) (hy : y = (m : Int)) : Calls Try.prog 29 #[.pointer (some ⟨b, 0, none⟩), .int .i64 x, .int .i64 y] w (MakesP w 0 (upto (wtF k m) (k + m))) := by
  subst hx hy
  obtain ⟨i0, hi, hz0, hz1, hz2⟩ := info_parts info_u8
  obtain ⟨s, hs⟩ : ∃ s, Hid (s = k + m) := ⟨_, rfl⟩
  have g0 : (k : Int) + (m : Int) = (s : Int) := by have := hs.out; omega
  have hs2 : s ≤ 256 := by have := hs.out; omega
  have gw : IntKind.i64.wrap (s : Int) = (s : Int) := by rw [IntKind.wrap_i64]; omega
  rw [← hs.out]
  have hok := okC_mk h1 h2
  have h2' : Hid _ := h2
  clear h2
  go_enter Try.func29, Try.ntmps29
  go_wp2_with fail
  refine (ccheck_same_ok _ hok).mono ?_
  rintro e w2 ⟨rfl, rfl⟩
  clear hok
  go_wp2_with fail
  refine (wg_any _).mono ?_
  rintro e w3 ⟨fb, kb, mb, rfl, hW, b3⟩
  have hF3 := hF.below b3
  clear hF
  go_wp2_with (at_make; go_loud (refine wpList_make_full _ rfl (.tmp 26) (.tmp 26) 22 rfl w3.heap.size 5 i0 (.int .u8 0) 1 Try.underlying22 hi hz0 hz1 _ _ _ _ s rfl rfl (by omega) (by omega) (by rw [hz2]; omega) (by unfold maxLen; omega) (Nat.le_refl _) ?_); intro w4 hown4 hgrow4)
  have R4 : Hid (RowF w4 w3.heap.size 5 w3.heap.size s s (fun _ => 0)) := RowF.made hown4
  have B4 : Hid (Below w3.heap.size w3 w4) := (Below.refl _ _).grown hgrow4 (Nat.le_refl _) (fun q hq => by cases hq)
  clear hown4 hgrow4
  obtain ⟨g, hg⟩ : ∃ g, Hid (g = w3.heap.size) := ⟨_, rfl⟩
  rw [← hg.out] at R4 B4 ⊢
  go_loopw [30] (fun v wr => ∃ i : Nat, i ≤ s ∧ v = .int .i64 i ∧ Below g w3 wr ∧ RowF wr g 5 g s s (upF (wtF k m) i)) (fun v _ => s - (intOf v).toNat)
  case atStart => exact ⟨0, by omega, rfl, B4.out, R4.out.congr fun t _ => (upF_zero _ t).symm⟩
  case round =>
    obtain ⟨i, hi, rfl, hB, hR⟩ := hrel
    clear R4 B4
    by_cases hlt : i < s
    · have hlt' : (i : Int) < (s : Int) := by omega
      have HB : Hid (Below g w3 wr) := hB
      rw [hg.out] at hB
      have hFr := hF3.below hB
      have hWr := hW.below hB
      have c1 := fun nd : Nat => hR.cell hlt
      have f1 := hR.unfrozen i
      have HR : Hid (RowF wr g 5 g s s (upF (wtF k m) i)) := hR
      clear hB hR hF3 hW
      go_wp2_with fail
      refine (wg1_any (i := i) hFr hWr h2'.out (by omega) rfl).mono ?_
      rintro e w5 ⟨rfl, nd, hw5⟩
      have R5 : RowF w5 g 5 g s s (upF (wtF k m) i) := by rw [hw5]; exact HR.out.drewN nd
      have B5 : Below g w3 w5 := by rw [hw5]; exact HB.out.trans ⟨rfl, rfl, rfl, Nat.le_refl _, fun _ _ => rfl⟩
      clear hw5 HB HR c1 f1 hFr hWr
      have c1 := R5.cell hlt
      have f1 := R5.unfrozen i
      have HN : Hid (RowF (w5.setCell ⟨g, i, none⟩ (.int .u8 ((wtF k m i).toNat : Nat))) g 5 g s s (upF (wtF k m) (i + 1))) := R5.store hlt _ fun t => upF_step _ _ _
      have HB : Hid (Below g w3 (w5.setCell ⟨g, i, none⟩ (.int .u8 ((wtF k m i).toNat : Nat)))) := B5.setCell (p := ⟨g, i, none⟩) (Nat.le_refl _) _
      clear R5 B5
      go_wp2
      go_roundw
      case rel => exact ⟨i + 1, by omega, by go_num, HB.out, HN.out⟩
      case measure => simp [intOf]; omega
    · have e : i = s := by omega
      subst e
      have hge : ¬ (i : Int) < (i : Int) := by omega
      have HP : Rd wr (.slice (some ⟨g, 0, none⟩) i i) (upto (wtF k m) i) := (hR.congr (f' := wtF k m) fun t ht => if_pos ht).rd
      rw [hg.out] at hB
      have HB : Hid (Below w2.heap.size w2 wr) := Below.next b3 hB
      clear hB hR hF3 hW
      go_wp2
      exact bodyPost_ret (v := .tuple #[.slice (some ⟨g, 0, none⟩) i i, .int .i64 0]) (by simp [results, Try.results29, go_sem]) rfl ⟨_, rfl, HP, HB.out⟩

theorem wts_any {b : Nat} {k m : Int} {w : World} (hF : FieldAt w b) : Calls Try.prog 29 #[.pointer (some ⟨b, 0, none⟩), .int .i64 k, .int .i64 m] w (MakesP w (wtX k m) (wtR k m)) := by
  by_cases h : OkC k m
  · obtain ⟨k, m, rfl, rfl, h1, h2⟩ := h.nat
    rw [(wtX_ok h).1, (wtX_ok h).2]
    exact wts_ok hF h1 h2 rfl rfl
  · rw [(wtX_bad h).1, (wtX_bad h).2]
    exact wts_bad w h

set_option maxRecDepth 100000 in
set_option maxHeartbeats 1000000 in
theorem sof_bad {b : Nat} {k m : Int} {v : Value} {z : List UInt8} {w : World} (h : ¬ OkC k m) (hz : Rd w v z) : Calls Try.prog 24 #[.pointer (some ⟨b, 0, none⟩), .int .i64 k, .int .i64 m, v] w (MakesP w 50 []) := by
  obtain ⟨a, c, rfl⟩ := hz.form
  clear hz
  go_enter Try.func24, Try.ntmps24
  go_wp2_with fail
  refine (wts_bad _ h).mono ?_
  rintro e w2 ⟨v, rfl, hR, b2⟩
  obtain ⟨va, vc, rfl⟩ := hR.form
  clear h hR
  go_wp2
  exact bodyPost_ret (v := .tuple #[.slice none 0 0, .int .i64 50]) (by simp [results, Try.results24, go_sem]) rfl ⟨_, rfl, rd_nil _, b2⟩

set_option maxRecDepth 100000 in
set_option maxHeartbeats 1000000 in
theorem sof_shard {b k m : Nat} {v : Value} {z : List UInt8} {w : World} (hF : FieldAt w b) (h1 : 1 ≤ k) (h2 : k + m ≤ 256) (hz : Rd w v z) (hne : ¬ z.length = k + m) {x y : Int} (hx : x = (k : Int)) (hy : y = (m : Int)) : Calls Try.prog 24 #[.pointer (some ⟨b, 0, none⟩), .int .i64 x, .int .i64 y, v] w (MakesP w 60 []) := by
  subst hx hy
  have hl := hz.len
  unfold maxLen at hl
  obtain ⟨a, c, rfl⟩ := hz.form
  obtain ⟨s, hs⟩ : ∃ s, Hid (s = k + m) := ⟨_, rfl⟩
  have g0 : (k : Int) + (m : Int) = (s : Int) := by have := hs.out; omega
  have hs2 : s ≤ 256 := by have := hs.out; omega
  have gw : IntKind.i64.wrap (s : Int) = (s : Int) := by rw [IntKind.wrap_i64]; omega
  have hn : ((z.length : Int) != (s : Int)) = true := by have := hs.out; simp; omega
  have HC := wts_ok hF h1 h2 rfl rfl
  clear hz hne h2 hF
  go_enter Try.func24, Try.ntmps24
  go_wp2_with fail
  refine HC.mono ?_
  rintro e w2 ⟨v, rfl, hR, b2⟩
  obtain ⟨va, vc, rfl⟩ := hR.form
  clear hR HC
  go_wp2
  exact bodyPost_ret (v := .tuple #[.slice none 0 0, .int .i64 60]) (by simp [results, Try.results24, go_sem]) rfl ⟨_, rfl, rd_nil _, b2⟩

/-- the sums of the first i bytes -/
def syK (k m : Nat) (z : Nat → UInt8) (i l : Nat) : UInt8 := S i (fun x => mu (mu (z x) (wtF k m x)) (nmF 1 (pt x) l))
theorem syK_next (k m : Nat) (z : Nat → UInt8) (i l : Nat) : syK k m z (i + 1) l = syK k m z i l ^^^ nmF (mu (z i) (wtF k m i)) (pt i) l := by
  show syK k m z i l ^^^ mu (mu (z i) (wtF k m i)) (nmF 1 (pt i) l) = _
  rw [← nmF_pwr]

set_option maxRecDepth 100000 in
set_option maxHeartbeats 2000000 in
theorem sof_ok {b k m : Nat} {v : Value} {z : List UInt8} {w : World} (hF : FieldAt w b) (h1 : 1 ≤ k) (h2 : k + m ≤ 256) (hz : Rd w v z) (hl : z.length = k + m) {x y : Int} (hx : x = (k : Int)) (hy : y = (m : Int)) : Calls Try.prog 24 #[.pointer (some ⟨b, 0, none⟩), .int .i64 x, .int .i64 y, v] w (MakesP w 0 (upto (synF k m (co z)) m)) := by
  subst hx hy
  obtain ⟨i0, hi, hz0, hz1, hz2⟩ := info_parts info_u8
  obtain ⟨za, zc, rfl⟩ := hz.form
  obtain ⟨s, hs⟩ : ∃ s, Hid (s = k + m) := ⟨_, rfl⟩
  have g0 : (k : Int) + (m : Int) = (s : Int) := by have := hs.out; omega
  have hs2 : s ≤ 256 := by have := hs.out; omega
  have hm2 : m ≤ 256 := by have := hs.out; omega
  have gw : IntKind.i64.wrap (s : Int) = (s : Int) := by rw [IntKind.wrap_i64]; omega
  have HL : Hid (z.length = s) := by show _ = _; rw [hs.out]; exact hl
  rw [hl, ← hs.out] at hz ⊢
  have hn : ((s : Int) != (s : Int)) = false := by simp
  have HC := wts_ok hF h1 h2 rfl rfl
  rw [← hs.out] at HC
  have HS : Hid (upto (synF k m (co z)) m = upto (syK k m (co z) s) m) := by show _ = _; rw [hs.out]; rfl
  rw [HS.out]
  clear h2 hl
  go_enter Try.func24, Try.ntmps24
  go_wp2_with fail
  refine HC.mono ?_
  rintro e w2 ⟨v, rfl, hV, b2⟩
  obtain ⟨va, vc, rfl⟩ := hV.form
  rw [upto_length] at hV ⊢
  have hF2 := hF.below b2
  have hz2' := hz.below b2
  clear HC hF hz
  go_wp2_with (at_make; go_loud (refine wpList_make_full _ rfl (.tmp 31) (.tmp 31) 22 rfl w2.heap.size 5 i0 (.int .u8 0) 1 Try.underlying22 hi hz0 hz1 _ _ _ _ m rfl rfl (by omega) (by omega) (by rw [hz2]; omega) (by unfold maxLen; omega) (Nat.le_refl _) ?_); intro w4 hown4 hgrow4)
  have R4 : Hid (RowF w4 w2.heap.size 5 w2.heap.size m m (fun _ => 0)) := RowF.made hown4
  have B4 : Hid (Below w2.heap.size w2 w4) := (Below.refl _ _).grown hgrow4 (Nat.le_refl _) (fun q hq => by cases hq)
  clear hown4 hgrow4
  have HA : Hid (Apart w2.heap.size (.slice za s zc)) := hz2'.apart (Nat.le_refl _)
  have HAV : Hid (Apart w2.heap.size (.slice va s vc)) := hV.apart (Nat.le_refl _)
  have hF4 := hF2.below B4.out
  have hz4 := hz2'.below B4.out
  have hV4 := hV.below B4.out
  have hbg : b ≠ w2.heap.size := by have := hF2.lt; omega
  have HB4 : Hid (Below w.heap.size w w4) := Below.next b2 B4.out
  have hsz : Hid (w.heap.size ≤ w2.heap.size) := b2.size
  obtain ⟨g, hg⟩ : ∃ g, Hid (g = w2.heap.size) := ⟨_, rfl⟩
  rw [← hg.out] at R4 HA HAV hbg ⊢
  clear hF2 hz2' hV B4
  go_loopw [35] (fun v wr => ∃ i : Nat, i ≤ s ∧ v = .int .i64 i ∧ Only g w4 wr ∧ RowF wr g 5 g m m (syK k m (co z) i)) (fun v _ => s - (intOf v).toNat)
  case atStart => exact ⟨0, by omega, rfl, Only.refl _ _, R4.out.congr fun t _ => rfl⟩
  case round =>
    obtain ⟨i, hi, rfl, hO, hR⟩ := hrel
    clear R4
    by_cases hlt : i < s
    · have hlt' : (i : Int) < (s : Int) := by omega
      have hFr := hF4.only hbg hO
      have hzr := hz4.only HA.out hO
      have hVr := hV4.only HAV.out hO
      obtain ⟨zb, zo, rfl, _, cz⟩ := hzr.byte (i := i) (by rw [HL.out]; exact hlt)
      obtain ⟨vb', vo, rfl, _, cv⟩ := hVr.byte (i := i) (by rw [upto_length]; exact hlt)
      rw [co_upto_in hlt] at cv
      have m1 : (i : Int) % 256 = (i : Int) := by omega
      have hpt : Hid ((i : Int) = (((pt i).toNat : Nat) : Int)) := by show _ = _; rw [pt_toNat (by omega)]
      have HO : Hid (Only g w4 wr) := hO
      have HR : Hid (RowF wr g 5 g m m (syK k m (co z) i)) := hR
      have HX : Hid (∀ t, syK k m (co z) (i + 1) t = syK k m (co z) i t ^^^ nmF (mu (co z i) (wtF k m i)) (pt i) t) := fun t => syK_next _ _ _ _ _
      clear hO hR hzr hVr hz4 hV4 hF4
      go_wp2_with fail
      refine (fmu_quiet hFr (co z i) (wtF k m i) rfl rfl).mono ?_
      rintro e w5 ⟨rfl, nd, hw5⟩
      have R5 : RowF w5 g 5 g m m (syK k m (co z) i) := by rw [hw5]; exact HR.out.drewN nd
      have O5 : Only g w4 w5 := by rw [hw5]; exact HO.out.drewN nd
      have F5 : FieldAt w5 b := by rw [hw5]; exact hFr.drewN nd
      clear hw5 HO HR hFr cz cv
      have HC := apw_any (mu (co z i) (wtF k m i)) (pt i) F5 hbg R5 (by omega) rfl hpt.out
      clear R5 F5
      go_wp2_with fail
      refine HC.mono ?_
      rintro e w6 ⟨rfl, O6, R6⟩
      have HN : Hid (RowF w6 g 5 g m m (syK k m (co z) (i + 1))) := R6.congr fun t ht => by rw [HX.out]; exact if_pos ht
      have HO : Hid (Only g w4 w6) := O5.trans O6
      clear R6 O6 O5 HC
      go_wp2
      go_roundw
      case rel => exact ⟨i + 1, by omega, by go_num, HO.out, HN.out⟩
      case measure => simp [intOf]; omega
    · have e : i = s := by omega
      subst e
      have hge : ¬ (i : Int) < (i : Int) := by omega
      have HP : Rd wr (.slice (some ⟨g, 0, none⟩) m m) (upto (syK k m (co z) i) m) := hR.rd
      have HB : Hid (Below w.heap.size w wr) := HB4.out.trans (hO.below (by rw [hg.out]; exact hsz.out))
      clear hO hR hF4 hz4 hV4
      go_wp2
      exact bodyPost_ret (v := .tuple #[.slice (some ⟨g, 0, none⟩) m m, .int .i64 0]) (by simp [results, Try.results24, go_sem]) rfl ⟨_, rfl, HP, HB.out⟩

theorem sof_any {b : Nat} {k m : Int} {v : Value} {z : List UInt8} {w : World} (hF : FieldAt w b) (hz : Rd w v z) : Calls Try.prog 24 #[.pointer (some ⟨b, 0, none⟩), .int .i64 k, .int .i64 m, v] w (MakesP w (ofX k m z) (ofR k m z)) := by
  rcases of_cases k m z with c | ⟨c, d⟩ | ⟨c, d⟩
  · rw [(ofX_bad c).1, (ofX_bad c).2]
    exact sof_bad c hz
  · rw [(ofX_shard c d).1, (ofX_shard c d).2]
    obtain ⟨k, m, rfl, rfl, h1, h2⟩ := c.nat
    exact sof_shard hF h1 h2 hz (by omega) rfl rfl
  · obtain ⟨k, m, rfl, rfl, h1, h2⟩ := c.nat
    rw [(ofX_ok c (by omega)).1, (ofX_ok c (by omega)).2]
    exact sof_ok hF h1 h2 hz (by omega) rfl rfl

end Go.Proofs.Ytchfonofjbpmaaa.Gf

