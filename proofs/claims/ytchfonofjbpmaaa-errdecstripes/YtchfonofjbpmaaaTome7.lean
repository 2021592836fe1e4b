/- TEXTS JOINED: KeFind, WdBack, WdKey, WdAns, WdRoots, GfMul, GfQuiet, PoLaws, PoTop, PoShort1, PoCodeB, GfPowMath. -/
import Derived.Test.YtchfonofjbpmaaaTome6
import Derived.Test.YtchfonofjbpmaaaTome5
import Derived.Test.YtchfonofjbpmaaaTome3
import Derived.Test.YtchfonofjbpmaaaTome1
import Derived.Test.YtchfonofjbpmaaaTome2
import Derived.BigQuiet
/-
  PLAIN MATHEMATICS: of syndromes that unlike points make the least locator is that of the points, and the evaluator tells by what (what 'KeyeqFinds' asks). No program's function is named here.
-/

namespace Go.Proofs.Ytchfonofjbpmaaa.Gf
set_option linter.unusedVariables false
set_option linter.unusedSimpArgs false

theorem ev_eq {f : Nat → UInt8} {n m : Nat} (x : UInt8) (h : Fin0 f n) (k : Fin0 f m) : ev n f x = ev m f x := by
  rw [← ev_more x h (show n ≤ n + m by omega), ← ev_more x k (show m ≤ n + m by omega)]
/-- what lies below m and what lies from m on -/
def lowF (m : Nat) (f : Nat → UInt8) (j : Nat) : UInt8 := if j < m then f j else 0
def higF (m : Nat) (f : Nat → UInt8) (j : Nat) : UInt8 := f (m + j)
theorem low_hig (m : Nat) (f : Nat → UInt8) : f = addF (lowF m f) (shF m (higF m f)) := by
  funext j
  rw [addF_at]
  by_cases h : j < m
  · rw [shF_low h, x_zero]; exact (if_pos h).symm
  · rw [shF_ge (by omega)]
    unfold lowF higF
    rw [if_neg h, zero_x, show m + (j - m) = j by omega]
theorem IsLoc.low {P : Nat → UInt8} {m e t : Nat} {L : Nat → UInt8} (h : IsLoc P m e t L) : Fin0 (lowF m (conv L P)) (e + t) := fun j hj => by
  unfold lowF
  by_cases h1 : j < m
  · rw [if_pos h1]; exact h.zero j hj h1
  · exact if_neg h1
/-- two locators and their evaluators -/
theorem loc_cross {P : Nat → UInt8} {m e t t' : Nat} {L L' : Nat → UInt8} (h : IsLoc P m e t L) (h' : IsLoc P m e t' L') (hm : t + t' + e ≤ m) : conv L (higF m (conv L' P)) = conv L' (higF m (conv L P)) := by
  have e0 : conv L (conv L' P) = conv L' (conv L P) := conv_left _ _ _
  rw [low_hig m (conv L' P), low_hig m (conv L P), conv_add, conv_add, conv_shF, conv_shF] at e0
  funext p
  have := congrFun e0 (p + m)
  rw [addF_at, addF_at, shF_high, shF_high, (h.fin.conv h'.low) _ (by omega), (h'.fin.conv h.low) _ (by omega), zero_x, zero_x] at this
  rw [low_hig m (conv L' P), low_hig m (conv L P)]
  have e1 : ∀ f : Nat → UInt8, higF m (addF (lowF m f) (shF m (higF m f))) = higF m f := fun f => by rw [← low_hig]
  rw [e1, e1]
  exact this

section
variable {a bv : Nat → UInt8} {t e m : Nat}
/-- the turned one of what points make -/
def tuF (a bv : Nat → UInt8) (N m : Nat) (i : Nat) : UInt8 := S N (fun k => mu (bv k) (geoF (a k) m i))
/-- the evaluator -/
def omF (a bv : Nat → UInt8) (N : Nat) (p : Nat) : UInt8 := S N (fun k => mu (bv k) (peF a k N p))
theorem om_fin (a bv : Nat → UInt8) (N : Nat) : Fin0 (omF a bv N) N := fun p hp => S_zero fun k hk => by rw [(peF_fin a k N).2 hk p hp, mu_zero]
theorem om_at {N j : Nat} (hj : j < N) : ev N (omF a bv N) (a j) = mu (bv j) (PE a j N (a j)) := by
  have e1 : ev N (omF a bv N) (a j) = S N (fun k => mu (bv k) (ev N (peF a k N) (a j))) := by
    unfold ev omF
    rw [S_congr (fun i _ => S_mu _ _ _), S_swap]
    refine S_congr fun k _ => ?_
    rw [mu_S]
    exact S_congr fun i _ => mu_assoc _ _ _
  rw [e1, S_one hj (fun k hk hne => by rw [ev_pe' hk, PE_other a hj (fun h => hne h.symm), mu_zero]), ev_pe' hj]
theorem tu_loc (hm : 2 * t + e ≤ m) (j : Nat) (h1 : t + e ≤ j) (h2 : j < m) : conv (locF a (t + e)) (tuF a bv (t + e) m) j = 0 := by
  have := loc_turn (a := a) (bv := bv) (N := t + e) (m := m) j
  unfold tuF
  rw [this]
  exact S_zero fun k hk => by rw [shF_low h2, (peF_fin a k (t + e)).2 hk j h1, mu_zero, zero_x, mu_zero]
theorem tu_om (hm : 2 * t + e ≤ m) : higF m (conv (locF a (t + e)) (tuF a bv (t + e) m)) = omF a bv (t + e) := by
  funext p
  have := loc_turn (a := a) (bv := bv) (N := t + e) (m := m) (m + p)
  unfold higF tuF
  rw [this]
  exact S_congr fun k hk => by rw [shF_ge (by omega), Nat.add_sub_cancel_left, (peF_fin a k (t + e)).2 hk (m + p) (by omega), mu_zero, x_zero]
/-- the least locator is that of the points -/
theorem find_least (hm : 2 * t + e ≤ m) (hd : ∀ i j, i < t + e → j < t + e → i ≠ j → a i ≠ a j) (hb : ∀ i, i < t → bv i ≠ 0) :
    LeastLoc (conv (locF (fun i => a (t + i)) e) (tuF a bv (t + e) m)) m e t (locF a t) := by
  have hW : conv (locF a t) (conv (locF (fun i => a (t + i)) e) (tuF a bv (t + e) m)) = conv (locF a (t + e)) (tuF a bv (t + e) m) := by rw [← conv_assoc, ← locF_append]
  have hL : IsLoc (conv (locF (fun i => a (t + i)) e) (tuF a bv (t + e) m)) m e t (locF a t) :=
    ⟨locF_fin a t, locF_top a t, fun j h1 h2 => by rw [hW]; exact tu_loc hm j (by omega) h2⟩
  -- each locator has the points as roots
  have root : ∀ t' L', t' ≤ t → IsLoc (conv (locF (fun i => a (t + i)) e) (tuF a bv (t + e) m)) m e t' L' → ∀ j, j < t → ev (t' + 1) L' (a j) = 0 := fun t' L' htt h' j hj => by
    have c := loc_cross hL h' (by omega)
    rw [hW, tu_om hm] at c
    obtain ⟨n, hn⟩ : ∃ n, Fin0 (higF m (conv L' (conv (locF (fun i => a (t + i)) e) (tuF a bv (t + e) m)))) n := by
      have hT : Fin0 (tuF a bv (t + e) m) m := fun i hi => S_zero fun k _ => by unfold geoF; rw [if_neg (by omega), mu_zero]
      exact ⟨t' + 1 + (e + 1 + m), fun i hi => (h'.fin.conv ((locF_fin (fun i => a (t + i)) e).conv hT)) (m + i) (by omega)⟩
    have e1 := ev_conv (a j) (locF_fin a t) hn
    have e2 := ev_conv (a j) h'.fin (om_fin a bv (t + e))
    rw [ev_loc, PD_zero.2 ⟨j, hj, rfl⟩, zero_mu] at e1
    rw [om_at (by omega)] at e2
    have e3 : ev (t + 1 + n) (conv (locF a t) (higF m (conv L' (conv (locF (fun i => a (t + i)) e) (tuF a bv (t + e) m))))) (a j) = ev (t' + 1 + (t + e)) (conv L' (omF a bv (t + e))) (a j) := by
      rw [← c]
      exact ev_eq (a j) (((locF_fin a t).conv hn).mono (by omega)) (by rw [c]; exact (h'.fin.conv (om_fin a bv (t + e))).mono (by omega))
    rw [e1, e2] at e3
    rcases mu_eq_zero.1 e3.symm with h0 | h0
    · exact h0
    · rcases mu_eq_zero.1 h0 with h0 | h0
      · exact absurd h0 (hb j hj)
      · exact absurd h0 (PE_own a j (t + e) fun l hl hne h => hd j l (by omega) hl (fun x => hne x.symm) (x_eq_zero.1 h))
  refine ⟨hL, hm, fun t' L' h1 h2 => ?_, fun L' h2 => ?_⟩
  · rcases Nat.lt_or_ge t' t with h | h
    · have := roots_all h2.fin a (fun i j hi hj => hd i j (by omega) (by omega)) (fun i hi => root t' L' (by omega) h2 i (by omega)) t'
      rw [h2.top] at this
      cases this
    · exact h
  · have hD : Fin0 (addF L' (locF a t)) t := fun i hi => by
      rw [addF_at]
      by_cases e0 : i = t
      · rw [e0, h2.top, locF_top, x_self]
      · rw [h2.fin i (by omega), locF_fin a t i (by omega), x_self]
    have := roots_all hD a (fun i j hi hj => hd i j (by omega) (by omega)) (fun i hi => by
      rw [← ev_more (a i) hD (show t ≤ t + 1 by omega), ev_add, root t L' (Nat.le_refl _) h2 i hi, ev_loc, PD_zero.2 ⟨i, hi, rfl⟩]; rfl)
    funext i
    exact x_eq_zero.1 (this i)
end

/-! .. as lists. -/
theorem co_app {p q : List UInt8} {i : Nat} : co (p ++ q) i = if i < p.length then co p i else co q (i - p.length) := by
  split
  · exact co_append_lt (by assumption)
  · exact co_append_ge (by omega)
section
variable {s pts ks bs zs : List UInt8}
/-- s are the syndromes of all points -/
def SyOf (s pts ks bs zs : List UInt8) : Prop := ∀ l, l < s.length → co s l = syP (co (pts ++ ks)) (co (bs ++ zs)) (pts.length + ks.length) l
theorem find_keP (hs : SyOf s pts ks bs zs) : keP s (locL ks) = conv (locF (fun i => co (pts ++ ks) (pts.length + i)) ks.length) (tuF (co (pts ++ ks)) (co (bs ++ zs)) (pts.length + ks.length) s.length) := by
  unfold keP
  have e1 : co (locL ks) = locF (fun i => co (pts ++ ks) (pts.length + i)) ks.length := by
    unfold locL
    rw [co_locN]
    exact locF_congr fun i hi => by rw [co_append_ge (by omega), Nat.add_sub_cancel_left]
  have e2 : co s.reverse = tuF (co (pts ++ ks)) (co (bs ++ zs)) (pts.length + ks.length) s.length := by
    funext i
    unfold tuF
    by_cases h : i < s.length
    · rw [co_rev h, hs _ (by omega)]
      exact S_congr fun k _ => by unfold geoF; rw [if_pos h]
    · rw [co_ge (by rw [List.length_reverse]; omega)]
      exact (S_zero fun k _ => by unfold geoF; rw [if_neg h, mu_zero]).symm
  rw [e1, e2]
theorem find_norm (ks : List UInt8) : (norm (locL ks)).length = ks.length + 1 := by unfold locL; rw [norm_locN, locN_length]
theorem find_loc (pts ks : List UInt8) : upto (locF (co (pts ++ ks)) pts.length) (pts.length + 1) = locL pts := by
  unfold locL locN
  rw [locF_congr fun i hi => co_append_lt hi]
theorem find_ok (hs : SyOf s pts ks bs zs) (hm : 2 * pts.length + ks.length ≤ s.length) (hb : bs.length = pts.length)
    (hd : ∀ i j, i < pts.length + ks.length → j < pts.length + ks.length → i ≠ j → co (pts ++ ks) i ≠ co (pts ++ ks) j) (h0 : ∀ i, i < pts.length → co bs i ≠ 0) :
    KeyAns s (locL ks) 0 (locL pts) (evaL s (locL ks) pts.length (locF (co (pts ++ ks)) pts.length)) := by
  have hl := find_least (bv := co (bs ++ zs)) hm hd (fun i hi => by rw [co_append_lt (by omega)]; exact h0 i hi)
  have nb : ¬ BadK s (locL ks) := by unfold BadK; rw [find_norm]; omega
  have := KeyAns.of_loc (t := pts.length) (L := locF (co (pts ++ ks)) pts.length) nb (by rw [find_norm, Nat.add_sub_cancel, find_keP hs]; exact hl)
  rw [find_loc] at this
  exact this
/-- the evaluator's value at a point -/
theorem find_eva (hs : SyOf s pts ks bs zs) (hm : 2 * pts.length + ks.length ≤ s.length) {j : Nat} (hj : j < pts.length + ks.length) :
    evP (evaL s (locL ks) pts.length (locF (co (pts ++ ks)) pts.length)) (co (pts ++ ks) j) = mu (co (bs ++ zs) j) (PE (co (pts ++ ks)) j (pts.length + ks.length) (co (pts ++ ks) j)) := by
  have e1 : co (evaL s (locL ks) pts.length (locF (co (pts ++ ks)) pts.length)) = omF (co (pts ++ ks)) (co (bs ++ zs)) (pts.length + ks.length) := by
    unfold evaL
    rw [co_mk (eva_fin (locF_fin _ _)), find_keP hs]
    have := tu_om (a := co (pts ++ ks)) (bv := co (bs ++ zs)) hm
    rw [← this]
    funext i
    show conv _ _ _ = higF _ _ _
    rw [← conv_assoc, ← locF_append]; rfl
  rw [← om_at hj]
  unfold evP
  rw [e1]
  exact ev_eq _ (by rw [← e1]; exact co_fin _) (om_fin _ _ _)
/-- the derivative's value at a point -/
theorem find_der (pts ks : List UInt8) {j : Nat} (hj : j < pts.length + ks.length) :
    evP (derP (mulP (locL pts) (locL ks))) (co (pts ++ ks) j) = PE (co (pts ++ ks)) j (pts.length + ks.length) (co (pts ++ ks) j) := by
  have e1 : co (mulP (locL pts) (locL ks)) = locF (co (pts ++ ks)) (pts.length + ks.length) := by
    rw [co_mulP]
    unfold locL
    rw [co_locN, co_locN, locF_append]
    congr 1
    · exact locF_congr fun i hi => (co_append_lt hi).symm
    · exact locF_congr fun i hi => by rw [co_append_ge (by omega), Nat.add_sub_cancel_left]
  rw [← ev_der hj]
  unfold evP
  have e2 := co_derP (mulP (locL pts) (locL ks))
  rw [e1] at e2
  rw [e2]
  exact ev_eq _ (by rw [← e2]; exact co_fin _) ((locF_fin _ _).der.mono (by omega))
theorem find_ne (hd : ∀ i j, i < pts.length + ks.length → j < pts.length + ks.length → i ≠ j → co (pts ++ ks) i ≠ co (pts ++ ks) j) {j : Nat} (hj : j < pts.length + ks.length) :
    PE (co (pts ++ ks)) j (pts.length + ks.length) (co (pts ++ ks) j) ≠ 0 :=
  PE_own _ j _ fun l hl hne h => hd j l hj hl (fun x => hne x.symm) (x_eq_zero.1 h)
end

end Go.Proofs.Ytchfonofjbpmaaa.Gf

/-
  PLAIN MATHEMATICS: syndromes whose locator has all its points are what these points make, by what the evaluator tells. No program is named here.
-/

namespace Go.Proofs.Ytchfonofjbpmaaa.Gf
set_option linter.unusedVariables false
set_option linter.unusedSimpArgs false

theorem conv_zero_top {f g : Nat → UInt8} {n m : Nat} (hf : Fin0 f (n + 1)) (h1 : f n = 1) (hg : Fin0 g m) (h : ∀ j, n ≤ j → conv f g j = 0) : ∀ i, g i = 0 := by
  induction m with
  | zero => exact fun i => hg i (Nat.zero_le _)
  | succ m ih =>
    have e := conv_top hf hg
    rw [h _ (by omega), h1, one_mu] at e
    refine ih fun i hi => ?_
    by_cases q : i = m
    · rw [q]; exact e.symm
    · exact hg i (by omega)
theorem tuF_fin (a bv : Nat → UInt8) (N m : Nat) : Fin0 (tuF a bv N m) m := fun i hi => S_zero fun k _ => by unfold geoF; rw [if_neg (by omega), mu_zero]
/-- the turned one is what the points make, by the numbers that the evaluator tells -/
theorem loc_back {a bv T : Nat → UInt8} {N m : Nat} (hN : N ≤ m) (hd : ∀ i j, i < N → j < N → i ≠ j → a i ≠ a j) (hT : Fin0 T m) (h : ∀ j, N ≤ j → j < m → conv (locF a N) T j = 0)
    (hb : ∀ j, j < N → mu (bv j) (PE a j N (a j)) = ev N (higF m (conv (locF a N) T)) (a j)) : T = tuF a bv N m := by
  have hH : Fin0 (higF m (conv (locF a N) T)) N := fun i hi => ((locF_fin a N).conv hT) (m + i) (by omega)
  have hz := roots_all (hH.add (om_fin a bv N)) a hd fun i hi => by rw [ev_add, om_at hi, hb i hi, x_self]
  have tl := tu_loc (a := a) (bv := bv) (t := 0) (e := N) (m := m) (by omega)
  have to := tu_om (a := a) (bv := bv) (t := 0) (e := N) (m := m) (by omega)
  rw [Nat.zero_add] at tl to
  have z := conv_zero_top (locF_fin a N) (locF_top a N) (hT.add (tuF_fin a bv N m)) fun j hj => by
    rw [conv_add, addF_at]
    by_cases hlt : j < m
    · rw [h j hj hlt, tl j hj hlt, x_self]
    · obtain ⟨i, rfl⟩ : ∃ i, j = m + i := ⟨j - m, by omega⟩
      have e1 : conv (locF a N) (tuF a bv N m) (m + i) = omF a bv N i := congrFun to i
      rw [e1]
      exact hz i
  funext i
  exact x_eq_zero.1 (z i)
/-- .. as lists -/
theorem find_made {s pts ks bs zs : List UInt8} (hm : pts.length + ks.length ≤ s.length)
    (hd : ∀ i j, i < pts.length + ks.length → j < pts.length + ks.length → i ≠ j → co (pts ++ ks) i ≠ co (pts ++ ks) j)
    (hl : ∀ j, pts.length + ks.length ≤ j → j < s.length → conv (locF (co pts) pts.length) (keP s (locL ks)) j = 0)
    (hv : ∀ j, j < pts.length + ks.length → mu (co (bs ++ zs) j) (PE (co (pts ++ ks)) j (pts.length + ks.length) (co (pts ++ ks) j)) = evP (evaL s (locL ks) pts.length (locF (co pts) pts.length)) (co (pts ++ ks) j)) : SyOf s pts ks bs zs := by
  have hT : Fin0 (co s.reverse) s.length := fun i hi => co_ge (by rw [List.length_reverse]; exact hi)
  have e0 : locF (co (pts ++ ks)) (pts.length + ks.length) = conv (locF (co pts) pts.length) (co (locL ks)) := by
    rw [locF_append]
    unfold locL
    rw [co_locN]
    congr 1
    · exact locF_congr fun i hi => co_append_lt hi
    · exact locF_congr fun i hi => by rw [co_append_ge (by omega), Nat.add_sub_cancel_left]
  have e1 : conv (locF (co (pts ++ ks)) (pts.length + ks.length)) (co s.reverse) = conv (locF (co pts) pts.length) (keP s (locL ks)) := by
    unfold keP
    rw [e0, conv_assoc]
  have hH : Fin0 (higF s.length (conv (locF (co (pts ++ ks)) (pts.length + ks.length)) (co s.reverse))) (pts.length + ks.length) := fun i hi => ((locF_fin _ _).conv hT) (s.length + i) (by omega)
  have e2 : co (evaL s (locL ks) pts.length (locF (co pts) pts.length)) = higF s.length (conv (locF (co (pts ++ ks)) (pts.length + ks.length)) (co s.reverse)) := by
    unfold evaL
    rw [co_mk (eva_fin (locF_fin _ _)), e1]; rfl
  have key := loc_back (a := co (pts ++ ks)) (bv := co (bs ++ zs)) hm hd hT (fun j h1 h2 => by rw [e1]; exact hl j h1 h2) (fun j hj => by
    rw [hv j hj]
    unfold evP
    rw [e2]
    exact ev_eq _ (by rw [← e2]; exact co_fin _) hH)
  intro l hll
  have e3 : co s l = co s.reverse (s.length - 1 - l) := by rw [co_rev (by omega)]; congr 1; omega
  rw [e3, key]
  unfold tuF syP
  refine S_congr fun k _ => ?_
  unfold geoF
  rw [if_pos (by omega), show s.length - 1 - (s.length - 1 - l) = l by omega]

end Go.Proofs.Ytchfonofjbpmaaa.Gf

/-
  PLAIN MATHEMATICS: a word's syndromes are what the points of its wrong and missing places make; and a word whose syndromes are so is put right. No program is named here.
-/

namespace Go.Proofs.Ytchfonofjbpmaaa.Gf
set_option linter.unusedVariables false
set_option linter.unusedSimpArgs false

theorem nmF_one_pwr (x : UInt8) (l : Nat) : nmF 1 x l = pwr x l := by
  induction l with
  | zero => rfl
  | succ l ih => rw [nmF, pwr, ih]
/-- a sum over some places -/
theorem S_plc (p : Nat → Bool) (f : Nat → UInt8) (n : Nat) : S (cnt p n) (fun j => f ((plc p n).getD j 0)) = S n (fun i => if p i then f i else 0) := by
  induction n with
  | zero => rfl
  | succ n ih =>
    have hc : S (cnt p n) (fun j => f ((plc p (n + 1)).getD j 0)) = S (cnt p n) (fun j => f ((plc p n).getD j 0)) := S_congr fun j hj => by
      rw [plc_succ, ← plc_length] at *
      rw [show (plc p n ++ if p n then [n] else []).getD j 0 = (plc p n).getD j 0 by simp [List.getD, List.getElem?_append_left hj]]
    show _ = S n (fun i => if p i then f i else 0) ^^^ (if p n then f n else 0)
    rw [← ih, ← hc]
    cases e : p n
    · have : cnt p (n + 1) = cnt p n := by rw [cnt, e]; rfl
      rw [this]
      simp
    · have h1 : cnt p (n + 1) = cnt p n + 1 := by rw [cnt, e]; rfl
      rw [h1]
      show S (cnt p n) (fun j => f ((plc p (n + 1)).getD j 0)) ^^^ f ((plc p (n + 1)).getD (cnt p n) 0) = _
      have h2 : (plc p (n + 1)).getD (cnt p n) 0 = n := by
        rw [plc_succ, e, ← plc_length]
        simp [List.getD]
      rw [h2]; rfl
theorem co_map {L : List Nat} {f : Nat → UInt8} {j : Nat} (hj : j < L.length) : co (L.map f) j = f (L.getD j 0) := by
  rw [co_lt (by rw [List.length_map]; exact hj)]
  simp [List.getD, hj]
/-- what points of places make -/
theorem syP_plc {p q : Nat → Bool} (hd : ∀ i, p i = true → q i = false) (v : Nat → UInt8) (n l : Nat) :
    syP (co ((plc p n).map pt ++ (plc q n).map pt)) (co ((plc p n).map v ++ (plc q n).map v)) (((plc p n).map pt).length + ((plc q n).map pt).length) l = S n (fun i => if p i || q i then mu (v i) (pwr (pt i) l) else 0) := by
  unfold syP
  rw [S_split, List.length_map, List.length_map]
  have e1 : S (plc p n).length (fun i => mu (co ((plc p n).map v ++ (plc q n).map v) i) (pwr (co ((plc p n).map pt ++ (plc q n).map pt) i) l)) = S n (fun i => if p i then mu (v i) (pwr (pt i) l) else 0) := by
    rw [← S_plc p (fun i => mu (v i) (pwr (pt i) l)), plc_length]
    exact S_congr fun i hi => by
      rw [← plc_length] at hi
      rw [co_append_lt (by rw [List.length_map]; exact hi), co_append_lt (by rw [List.length_map]; exact hi), co_map hi, co_map hi]
  have e2 : S (plc q n).length (fun i => mu (co ((plc p n).map v ++ (plc q n).map v) ((plc p n).length + i)) (pwr (co ((plc p n).map pt ++ (plc q n).map pt) ((plc p n).length + i)) l)) = S n (fun i => if q i then mu (v i) (pwr (pt i) l) else 0) := by
    rw [← S_plc q (fun i => mu (v i) (pwr (pt i) l)), plc_length q]
    exact S_congr fun i hi => by
      rw [← plc_length] at hi
      rw [co_append_ge (by rw [List.length_map]; omega), co_append_ge (by rw [List.length_map]; omega), List.length_map, List.length_map, Nat.add_sub_cancel_left, co_map hi, co_map hi]
  rw [e1, e2, ← S_xor]
  refine S_congr fun i hi => ?_
  cases a : p i
  · cases b : q i <;> simp
  · rw [hd i a]; simp
/-- points of unlike places are unlike -/
theorem pts_apart {p q : Nat → Bool} {n : Nat} (hn : n ≤ 256) (hd : ∀ i, p i = true → q i = false) : ∀ i j, i < ((plc p n).map pt).length + ((plc q n).map pt).length → j < ((plc p n).map pt).length + ((plc q n).map pt).length → i ≠ j →
    co ((plc p n).map pt ++ (plc q n).map pt) i ≠ co ((plc p n).map pt ++ (plc q n).map pt) j := by
  intro i j hi hj hne e
  rw [← List.map_append] at e
  rw [← List.length_append, ← List.map_append, List.length_map] at hi hj
  rw [co_map hi, co_map hj] at e
  have hnd : (plc p n ++ plc q n).Nodup := by
    rw [List.nodup_append]
    exact ⟨plc_nodup p n, plc_nodup q n, fun a ha b hb hab => by
      subst hab
      have := hd a (plc_mem.1 ha).2
      rw [(plc_mem.1 hb).2] at this
      cases this⟩
  have hlt : ∀ i, i < (plc p n ++ plc q n).length → (plc p n ++ plc q n).getD i 0 < 256 := fun i hi => by
    have hm := List.getElem_mem hi
    have : (plc p n ++ plc q n)[i] < n := by
      rcases List.mem_append.1 hm with h | h
      · exact (plc_mem.1 h).1
      · exact (plc_mem.1 h).1
    simp only [List.getD, List.getElem?_eq_getElem hi, Option.getD_some]
    omega
  have e2 := pt_inj (hlt i hi) (hlt j hj) e
  simp only [List.getD, List.getElem?_eq_getElem hi, List.getElem?_eq_getElem hj, Option.getD_some] at e2
  have hpw := List.pairwise_iff_getElem.1 hnd
  rcases Nat.lt_or_gt_of_ne hne with h | h
  · exact hpw i j hi hj h e2
  · exact hpw j i hj hi h e2.symm
/-- by what a place is wrong, times its weight -/
def byF (k m : Nat) (z c : Nat → UInt8) (i : Nat) : UInt8 := mu (z i ^^^ c i) (wtF k m i)
/-- a word near one of the code: its syndromes -/
theorem near_sy {k m : Nat} {z c : Nat → UInt8} {ms : Nat → Bool} (hc : CodeW k m c) : SyOf (upto (synF k m z) m) ((plc (wrg z c ms) (k + m)).map pt) ((plc ms (k + m)).map pt) ((plc (wrg z c ms) (k + m)).map (byF k m z c)) ((plc ms (k + m)).map (byF k m z c)) := by
  intro l hl
  rw [upto_length] at hl
  rw [co_upto_in hl, syP_plc (fun i h => by unfold wrg at h; simp at h; exact h.1)]
  have e : synF k m z l = synF k m (fun i => z i ^^^ c i) l := by
    have := synF_add (k := k) (m := m) (l := l) (z := z) (y := c) (x := fun i => z i ^^^ c i) (fun i _ => rfl)
    rw [this, hc l hl, x_zero]
  rw [e]
  unfold synF
  refine S_congr fun i hi => ?_
  rw [nmF_one_pwr]
  by_cases h : wrg z c ms i || ms i
  · rw [if_pos h]; rfl
  · rw [if_neg h]
    have h0 : c i = z i := by
      refine Classical.byContradiction fun q => h ?_
      cases em : ms i <;> simp [wrg, em, q]
    show mu (mu (z i ^^^ c i) (wtF k m i)) (pwr (pt i) l) = 0
    rw [h0, x_self, zero_mu, zero_mu]
/-- what the equation tells of a word near one of the code: its locator is that of the places that are wrong -/
theorem near_key {k m : Nat} {z c : Nat → UInt8} {ms : Nat → Bool} (h2 : k + m ≤ 256) (hc : Near k m z ms c) :
    KeyAns (upto (synF k m z) m) (locL ((plc ms (k + m)).map pt)) 0 (locL ((plc (wrg z c ms) (k + m)).map pt))
      (evaL (upto (synF k m z) m) (locL ((plc ms (k + m)).map pt)) ((plc (wrg z c ms) (k + m)).map pt).length (locF (co ((plc (wrg z c ms) (k + m)).map pt ++ (plc ms (k + m)).map pt)) ((plc (wrg z c ms) (k + m)).map pt).length)) := by
  have hf := hc.few
  refine find_ok (near_sy hc.code) (by rw [upto_length, List.length_map, List.length_map, plc_length, plc_length]; exact hf) (by rw [List.length_map, List.length_map]) (pts_apart h2 (fun i h => by unfold wrg at h; simp at h; exact h.1)) fun i hi => ?_
  rw [List.length_map] at hi
  rw [co_map hi]
  have hm : (plc (wrg z c ms) (k + m)).getD i 0 ∈ plc (wrg z c ms) (k + m) := by
    simp only [List.getD, List.getElem?_eq_getElem hi, Option.getD_some]
    exact List.getElem_mem hi
  obtain ⟨g1, g2⟩ := plc_mem.1 hm
  generalize (plc (wrg z c ms) (k + m)).getD i 0 = r at *
  unfold wrg at g2
  simp at g2
  unfold byF
  exact mu_ne (fun q => g2.2 (x_eq_zero.1 q).symm) (wtF_ne h2 (by omega))
/-- a word whose syndromes are made by the points of some places, taken off there, is one of the code -/
theorem sy_code {k m : Nat} {z v : Nat → UInt8} {p q : Nat → Bool} (h2 : k + m ≤ 256) (hd : ∀ i, p i = true → q i = false)
    (hs : SyOf (upto (synF k m z) m) ((plc p (k + m)).map pt) ((plc q (k + m)).map pt) ((plc p (k + m)).map v) ((plc q (k + m)).map v)) :
    CodeW k m (fun i => z i ^^^ (if p i || q i then mu (v i) (iv (wtF k m i)) else 0)) := by
  intro l hl
  have e := hs l (by rw [upto_length]; exact hl)
  rw [co_upto_in hl, syP_plc hd] at e
  rw [synF_add (z := z) (y := fun i => if p i || q i then mu (v i) (iv (wtF k m i)) else 0) (fun i _ => rfl), e]
  unfold synF
  rw [← S_xor]
  refine S_zero fun i hi => ?_
  show (if p i || q i then mu (v i) (pwr (pt i) l) else 0) ^^^ mu (mu (if p i || q i then mu (v i) (iv (wtF k m i)) else 0) (wtF k m i)) (nmF 1 (pt i) l) = 0
  by_cases h : (p i || q i) = true
  · rw [if_pos h, if_pos h, mu_assoc (v i), mu_comm (iv _), mu_iv (wtF_ne h2 (by omega)), mu_one, nmF_one_pwr, x_self]
  · rw [if_neg h, if_neg h, zero_mu, zero_mu, x_self]

end Go.Proofs.Ytchfonofjbpmaaa.Gf

/-
  PLAIN MATHEMATICS: what is answered of a word that is to be put right. No program is named here.
-/

namespace Go.Proofs.Ytchfonofjbpmaaa.Gf
set_option linter.unusedVariables false
set_option linter.unusedSimpArgs false

/-- there is a word of the code near -/
def IsNear (k m : Nat) (z : List UInt8) (ms : List Bool) : Prop := ∃ c, Near k m (co z) (hb ms) c
/-- the word, and its places are as many as they must be -/
def OkW (k m : Int) (z : List UInt8) (ms : List Bool) : Prop := (z.length : Int) = k + m ∧ (ms.length : Int) = k + m
noncomputable def nearF (k m : Nat) (z : List UInt8) (ms : List Bool) : Nat → UInt8 := by
  classical
  exact if h : IsNear k m z ms then h.choose else fun _ => 0
theorem nearF_is {k m : Nat} {z : List UInt8} {ms : List Bool} (h : IsNear k m z ms) : Near k m (co z) (hb ms) (nearF k m z ms) := by
  unfold nearF
  rw [dif_pos h]
  exact h.choose_spec
open Classical in
noncomputable def wdX (k m : Int) (z : List UInt8) (ms : List Bool) : Int := if OkC k m then (if OkW k m z ms then (if IsNear k.toNat m.toNat z ms then 0 else 100) else 60) else 50
open Classical in
noncomputable def wdR (k m : Int) (z : List UInt8) (ms : List Bool) : List UInt8 := if OkC k m ∧ OkW k m z ms ∧ IsNear k.toNat m.toNat z ms then upto (nearF k.toNat m.toNat z ms) (k.toNat + m.toNat) else []
open Classical in
noncomputable def wdP (k m : Int) (z : List UInt8) (ms : List Bool) : List Nat := if OkC k m ∧ OkW k m z ms ∧ IsNear k.toNat m.toNat z ms then plc (wrg (co z) (nearF k.toNat m.toNat z ms) (hb ms)) (k.toNat + m.toNat) else []
theorem wd_bad {k m : Int} {z : List UInt8} {ms : List Bool} (c : ¬ OkC k m) : wdX k m z ms = 50 ∧ wdR k m z ms = [] ∧ wdP k m z ms = [] :=
  ⟨by unfold wdX; rw [if_neg c], by unfold wdR; rw [if_neg fun e => c e.1], by unfold wdP; rw [if_neg fun e => c e.1]⟩
theorem wd_shard {k m : Int} {z : List UInt8} {ms : List Bool} (c : OkC k m) (d : ¬ OkW k m z ms) : wdX k m z ms = 60 ∧ wdR k m z ms = [] ∧ wdP k m z ms = [] :=
  ⟨by unfold wdX; rw [if_pos c, if_neg d], by unfold wdR; rw [if_neg fun e => d e.2.1], by unfold wdP; rw [if_neg fun e => d e.2.1]⟩
theorem wd_many {k m : Nat} {z : List UInt8} {ms : List Bool} (c : OkC k m) (d : OkW k m z ms) (e : ¬ IsNear k m z ms) : wdX k m z ms = 100 ∧ wdR k m z ms = [] ∧ wdP k m z ms = [] :=
  ⟨by unfold wdX; rw [if_pos c, if_pos d]; exact if_neg e, by unfold wdR; rw [if_neg fun q => e q.2.2], by unfold wdP; rw [if_neg fun q => e q.2.2]⟩
/-- whichever near one is found is the one that is told -/
theorem wd_ok {k m : Nat} {z : List UInt8} {ms : List Bool} {c : Nat → UInt8} (o : OkC k m) (d : OkW k m z ms) (h : Near k m (co z) (hb ms) c) : wdX k m z ms = 0 ∧ wdR k m z ms = upto c (k + m) ∧ wdP k m z ms = plc (wrg (co z) c (hb ms)) (k + m) := by
  have hI : IsNear k m z ms := ⟨c, h⟩
  have h2 : k + m ≤ 256 := by have := o.2.2; omega
  have hu := (nearF_is hI).unique h2 h
  refine ⟨by unfold wdX; rw [if_pos o, if_pos d]; exact if_pos hI, ?_, ?_⟩
  · unfold wdR
    rw [if_pos ⟨o, d, hI⟩]
    exact upto_congr fun i hi => hu i hi
  · unfold wdP
    rw [if_pos ⟨o, d, hI⟩]
    show plc (wrg (co z) (nearF k m z ms) (hb ms)) (k + m) = _
    unfold plc
    refine List.filter_congr fun i hi => ?_
    unfold wrg
    rw [hu i (List.mem_range.1 hi)]
theorem wd_cases (k m : Int) (z : List UInt8) (ms : List Bool) : (¬ OkC k m) ∨ (OkC k m ∧ ¬ OkW k m z ms) ∨ (∃ k' m' : Nat, k = (k' : Int) ∧ m = (m' : Int) ∧ 1 ≤ k' ∧ k' + m' ≤ 256 ∧ z.length = k' + m' ∧ ms.length = k' + m' ∧ ((¬ IsNear k' m' z ms) ∨ ∃ c, Near k' m' (co z) (hb ms) c)) := by
  classical
  by_cases c : OkC k m
  · by_cases d : OkW k m z ms
    · obtain ⟨k', m', rfl, rfl, h1, h2⟩ := c.nat
      obtain ⟨d1, d2⟩ := d
      refine Or.inr (Or.inr ⟨k', m', rfl, rfl, h1, h2, by omega, by omega, ?_⟩)
      by_cases e : IsNear k' m' z ms
      · exact Or.inr e
      · exact Or.inl e
    · exact Or.inr (Or.inl ⟨c, d⟩)
  · exact Or.inl c
/-- a place that is missing may hold whatever -/
theorem Near.miss {k m : Nat} {z y c : Nat → UInt8} {ms : Nat → Bool} (h : Near k m z ms c) (e : ∀ i, i < k + m → ms i = false → y i = z i) : Near k m y ms c := by
  refine ⟨h.code, ?_⟩
  have : cnt (wrg y c ms) (k + m) = cnt (wrg z c ms) (k + m) := cnt_congr fun i hi => by
    unfold wrg
    cases em : ms i
    · rw [e i hi em]
    · rfl
  rw [this]
  exact h.few
/-- a word of the code, some places of which are others: it is near -/
theorem near_self {k m : Nat} {z c : Nat → UInt8} {ms : Nat → Bool} (hc : CodeW k m c) (hf : 2 * cnt (wrg z c ms) (k + m) + cnt ms (k + m) ≤ m) : Near k m z ms c := ⟨hc, hf⟩

end Go.Proofs.Ytchfonofjbpmaaa.Gf

/-
  PLAIN MATHEMATICS: a word is put right out of its locator's roots among the places that are there, by what the evaluator and the derivative tell. No program is named here.
-/

namespace Go.Proofs.Ytchfonofjbpmaaa.Gf
set_option linter.unusedVariables false
set_option linter.unusedSimpArgs false

theorem iv_zero10 : iv 0 = 0 := by decide
theorem iv_mu10 {a b : UInt8} (ha : a ≠ 0) (hb : b ≠ 0) : iv (mu a b) = mu (iv a) (iv b) := by
  have h1 : mu (mu a b) (iv (mu a b)) = 1 := mu_iv (mu_ne ha hb)
  have h2 : mu (mu a b) (mu (iv a) (iv b)) = 1 := by
    rw [mu_assoc, mu_comm (iv a), ← mu_assoc b, mu_iv hb, one_mu, mu_iv ha]
  have h3 : mu (iv (mu a b)) (mu (mu a b) (mu (iv a) (iv b))) = mu (iv a) (iv b) := by
    rw [← mu_assoc, mu_comm (iv (mu a b)), h1, one_mu]
  rw [h2, mu_one] at h3
  exact h3
/-- the places that are there at whose points a polynomial is 0 -/
def rtF (A : List UInt8) (ms : Nat → Bool) (i : Nat) : Bool := !ms i && decide (evP A (pt i) = 0)
theorem rtF_not {A : List UInt8} {ms : Nat → Bool} {i : Nat} (h : rtF A ms i = true) : ms i = false := by unfold rtF at h; simp at h; exact h.1
theorem rtF_root {A : List UInt8} {ms : Nat → Bool} {i : Nat} (h : rtF A ms i = true) : evP A (pt i) = 0 := by unfold rtF at h; simp at h; exact h.2
theorem getD_mem {L : List Nat} {j : Nat} (hj : j < L.length) : L.getD j 0 ∈ L := by
  simp only [List.getD, List.getElem?_eq_getElem hj, Option.getD_some]
  exact List.getElem_mem hj
/-- a locator's roots are its places -/
theorem root_of {p : Nat → Bool} {n i : Nat} (hn : n ≤ 256) (hi : i < n) : evP (locL ((plc p n).map pt)) (pt i) = 0 ↔ p i = true := by
  rw [evP_loc, PD_zero]
  constructor
  · rintro ⟨j, hj, e⟩
    rw [List.length_map] at hj
    rw [co_map hj] at e
    obtain ⟨g1, g2⟩ := plc_mem.1 (getD_mem hj)
    rw [pt_inj (by omega) (by omega) e] at g2
    exact g2
  · intro h
    obtain ⟨j, hj, e⟩ := List.getElem_of_mem (plc_mem.2 ⟨hi, h⟩)
    refine ⟨j, by rw [List.length_map]; exact hj, ?_⟩
    rw [co_map hj]
    simp [List.getD, hj, e]
/-- what the equation tells of a word near one of the code -/
theorem near_roots {k m : Nat} {z c : Nat → UInt8} {ms : Nat → Bool} {X : Int} {A O : List UInt8} (h2 : k + m ≤ 256) (hc : Near k m z ms c) (hK : KeyAns (upto (synF k m z) m) (locL ((plc ms (k + m)).map pt)) X A O) :
    X = 0 ∧ plc (rtF A ms) (k + m) = plc (wrg z c ms) (k + m) ∧ A.length = cnt (rtF A ms) (k + m) + 1 := by
  obtain ⟨e1, e2, e3⟩ := (near_key h2 hc).unique hK
  have e4 : plc (rtF A ms) (k + m) = plc (wrg z c ms) (k + m) := by
    unfold plc
    refine List.filter_congr fun i hi => ?_
    have hi' := List.mem_range.1 hi
    have := root_of (p := wrg z c ms) h2 hi'
    rw [← e2] at this
    unfold rtF
    cases em : ms i
    · rw [Bool.not_false, Bool.true_and, Bool.eq_iff_iff, decide_eq_true_eq]; exact this
    · unfold wrg; rw [em]; rfl
  refine ⟨e1, e4, ?_⟩
  rw [← plc_length, e4, e2]
  unfold locL
  rw [locN_length, List.length_map]
/-- by what a place differs -/
def dfF (k m : Nat) (O D : List UInt8) (i : Nat) : UInt8 := mu (evP O (pt i)) (iv (mu (evP D (pt i)) (wtF k m i)))
/-- the word put right -/
def rtW (k m : Nat) (z : Nat → UInt8) (A O D : List UInt8) (ms : Nat → Bool) (i : Nat) : UInt8 := z i ^^^ (if rtF A ms i || ms i then dfF k m O D i else 0)
theorem roots_near {k m : Nat} {z : Nat → UInt8} {ms : Nat → Bool} {A O : List UInt8} (h2 : k + m ≤ 256) (hK : KeyAns (upto (synF k m z) m) (locL ((plc ms (k + m)).map pt)) 0 A O) (hr : A.length ≤ cnt (rtF A ms) (k + m) + 1) :
    Near k m z ms (rtW k m z A O (derP (mulP A (locL ((plc ms (k + m)).map pt)))) ms) ∧ ∀ i, i < k + m → (rtF A ms i || ms i) = true → mu (evP (derP (mulP A (locL ((plc ms (k + m)).map pt)))) (pt i)) (wtF k m i) ≠ 0 := by
  rcases hK with ⟨_, h, _⟩ | ⟨b, t, L, hl, _, eA, eO⟩ | ⟨_, _, h, _⟩
  · cases h
  · have hnd : ∀ i, rtF A ms i = true → ms i = false := fun i => rtF_not
    have hap := pts_apart (n := k + m) h2 hnd
    have hpl : ((plc (rtF A ms) (k + m)).map pt).length = cnt (rtF A ms) (k + m) := by rw [List.length_map, plc_length]
    have hkl : ((plc ms (k + m)).map pt).length = cnt ms (k + m) := by rw [List.length_map, plc_length]
    have hco : co A = L := by rw [eA]; exact funext fun i => co_upto hl.loc.fin i
    have hAl : A.length = t + 1 := by rw [eA, upto_length]
    have hroot : ∀ j, j < cnt (rtF A ms) (k + m) → ev (t + 1) L (co ((plc (rtF A ms) (k + m)).map pt) j) = 0 := fun j hj => by
      rw [← plc_length] at hj
      rw [co_map hj]
      have := rtF_root (plc_mem.1 (getD_mem hj)).2
      unfold evP at this
      rw [hAl, hco] at this
      exact this
    have hdist : ∀ i j, i < cnt (rtF A ms) (k + m) → j < cnt (rtF A ms) (k + m) → i ≠ j → co ((plc (rtF A ms) (k + m)).map pt) i ≠ co ((plc (rtF A ms) (k + m)).map pt) j := fun i j hi hj hne => by
      have := hap i j (by omega) (by omega) hne
      rw [co_append_lt (by omega), co_append_lt (by omega)] at this
      exact this
    have hT : cnt (rtF A ms) (k + m) = t := by
      refine Nat.le_antisymm (Nat.le_of_not_lt fun hlt => ?_) (by omega)
      have := roots_all hl.loc.fin (co ((plc (rtF A ms) (k + m)).map pt)) (fun i j hi hj => hdist i j (by omega) (by omega)) (fun i hi => hroot i (by omega)) t
      rw [hl.loc.top] at this
      cases this
    have hLl : L = locF (co ((plc (rtF A ms) (k + m)).map pt)) t := by
      have hD : Fin0 (addF L (locF (co ((plc (rtF A ms) (k + m)).map pt)) t)) t := fun i hi => by
        rw [addF_at]
        by_cases e0 : i = t
        · rw [e0, hl.loc.top, locF_top, x_self]
        · rw [hl.loc.fin i (by omega), locF_fin _ t i (by omega), x_self]
      have := roots_all hD (co ((plc (rtF A ms) (k + m)).map pt)) (fun i j hi hj => hdist i j (by omega) (by omega)) (fun i hi => by
        rw [← ev_more _ hD (show t ≤ t + 1 by omega), ev_add, hroot i (by omega), ev_loc, PD_zero.2 ⟨i, hi, rfl⟩]; rfl)
      funext i
      exact x_eq_zero.1 (this i)
    have hAL : A = locL ((plc (rtF A ms) (k + m)).map pt) := by
      rw [eA]
      unfold locL locN
      rw [← eA, hpl, hT, ← hLl]
      exact eA
    have hf := hl.few
    rw [upto_length, find_norm, Nat.add_sub_cancel, hkl] at hf
    obtain ⟨D, hD⟩ : ∃ D, D = derP (mulP A (locL ((plc ms (k + m)).map pt))) := ⟨_, rfl⟩
    have hDD : D = derP (mulP (locL ((plc (rtF A ms) (k + m)).map pt)) (locL ((plc ms (k + m)).map pt))) := by rw [hD]; congr 2
    have spot : ∀ j, j < ((plc (rtF A ms) (k + m)).map pt).length + ((plc ms (k + m)).map pt).length → co ((plc (rtF A ms) (k + m)).map pt ++ (plc ms (k + m)).map pt) j = pt ((plc (rtF A ms) (k + m) ++ plc ms (k + m)).getD j 0) := fun j hj => by
      rw [← List.map_append, co_map (by rw [List.length_map, List.length_map] at hj; rw [List.length_append]; exact hj)]
    have hDne : ∀ i, i < k + m → (rtF A ms i || ms i) = true → evP D (pt i) ≠ 0 := fun i hi hp => by
      have hmem : i ∈ plc (rtF A ms) (k + m) ++ plc ms (k + m) := by
        rw [Bool.or_eq_true] at hp
        rcases hp with h | h
        · exact List.mem_append_left _ (plc_mem.2 ⟨hi, h⟩)
        · exact List.mem_append_right _ (plc_mem.2 ⟨hi, h⟩)
      obtain ⟨j, hj, ej⟩ := List.getElem_of_mem hmem
      have hj' : j < ((plc (rtF A ms) (k + m)).map pt).length + ((plc ms (k + m)).map pt).length := by rw [List.length_map, List.length_map, ← List.length_append]; exact hj
      have h5 := find_der ((plc (rtF A ms) (k + m)).map pt) ((plc ms (k + m)).map pt) hj'
      have h6 := find_ne hap hj'
      rw [spot j hj', ← hDD] at h5
      rw [spot j hj'] at h6
      have h7 : (plc (rtF A ms) (k + m) ++ plc ms (k + m)).getD j 0 = i := by
        simp only [List.getD, List.getElem?_eq_getElem hj, Option.getD_some]
        exact ej
      rw [h7] at h5 h6
      rw [h5]
      exact h6
    have hw : ∀ i, i < k + m → (rtF A ms i || ms i) = true → mu (evP D (pt i)) (wtF k m i) ≠ 0 := fun i hi hp => mu_ne (hDne i hi hp) (wtF_ne h2 (by omega))
    have hs := find_made (s := upto (synF k m z) m) (pts := (plc (rtF A ms) (k + m)).map pt) (ks := (plc ms (k + m)).map pt) (bs := (plc (rtF A ms) (k + m)).map (fun i => mu (evP O (pt i)) (iv (evP D (pt i))))) (zs := (plc ms (k + m)).map (fun i => mu (evP O (pt i)) (iv (evP D (pt i)))))
      (by rw [hpl, hkl, upto_length]; omega) hap (fun j h1 h3 => by
        have := hl.loc.zero j (by rw [find_norm, hkl]; omega) h3
        rw [hpl, hT, ← hLl]
        exact this) (fun j hj => by
        have h5 := find_der ((plc (rtF A ms) (k + m)).map pt) ((plc ms (k + m)).map pt) hj
        have h6 := find_ne hap hj
        rw [← hDD] at h5
        rw [← List.map_append (f := fun i => mu (evP O (pt i)) (iv (evP D (pt i)))), co_map (by rw [List.length_map, List.length_map] at hj; rw [List.length_append]; exact hj)]
        rw [← h5] at h6 ⊢
        rw [spot j hj] at h6 ⊢
        show mu (mu (evP O _) (iv (evP D _))) (evP D _) = _
        rw [mu_assoc, mu_comm (iv _), mu_iv h6, mu_one, eO, hpl, hT, ← hLl])
    have hcode := sy_code h2 hnd hs
    rw [← hD]
    refine ⟨⟨hcode.congr fun i hi => ?_, ?_⟩, hw⟩
    · unfold rtW dfF
      congr 1
      by_cases hp : (rtF A ms i || ms i) = true
      · rw [if_pos hp, if_pos hp, iv_mu10 (hDne i hi hp) (wtF_ne h2 (by omega)), mu_assoc]
      · rw [if_neg hp, if_neg hp]
    · have : cnt (wrg z (rtW k m z A O D ms) ms) (k + m) ≤ cnt (rtF A ms) (k + m) := cnt_mono fun i hi hwr => by
        unfold wrg at hwr
        simp only [Bool.and_eq_true, Bool.not_eq_true', decide_eq_true_eq] at hwr
        refine Classical.byContradiction fun q => hwr.2 ?_
        unfold rtW
        rw [if_neg (by simp [q, hwr.1]), x_zero]
      omega
  · cases h
/-- .. and the places that are told are those that differ -/
theorem roots_told {k m : Nat} {z : Nat → UInt8} {ms : Nat → Bool} {A O : List UInt8} (h2 : k + m ≤ 256) (hK : KeyAns (upto (synF k m z) m) (locL ((plc ms (k + m)).map pt)) 0 A O) (hr : A.length ≤ cnt (rtF A ms) (k + m) + 1) :
    plc (rtF A ms) (k + m) = plc (wrg z (rtW k m z A O (derP (mulP A (locL ((plc ms (k + m)).map pt)))) ms) ms) (k + m) := (near_roots h2 (roots_near h2 hK hr).1 hK).2.1

end Go.Proofs.Ytchfonofjbpmaaa.Gf

/-
  THE FIELD's PRODUCTS BY CONTRACT, on a field that stands in memory; the world stands, but for draws.
-/

namespace Go.Proofs.Ytchfonofjbpmaaa.Gf
set_option linter.unusedVariables false
open Go.RowKit

set_option maxRecDepth 100000 in
theorem filled_any (b : Nat) (w : World) (hF : FieldAt w b) :
    Calls Try.prog 69 #[.pointer (some ⟨b, 0, none⟩)] w fun e w' => e = .returned (.pointer (some ⟨b, 0, none⟩)) ∧ w' = w := by
  have h0 : w.cell? ⟨b, 0, none⟩ = some (.int .u8 1) := by rw [hF.powers 0 (by omega), pw_zero]; rfl
  go_enter Try.func69, Try.ntmps69
  go_wp2
  go_ret
  exact ⟨rfl, rfl⟩

set_option maxRecDepth 100000 in
theorem mul_zero_l (b c : Nat) (w : World) :
    Calls Try.prog 45 #[.pointer (some ⟨b, 0, none⟩), .int .u8 0, .int .u8 c] w fun e w' => e = .returned (.int .u8 0) ∧ w' = w := by
  go_enter Try.func45, Try.ntmps45
  go_wp2
  go_ret
  exact ⟨rfl, rfl⟩

set_option maxRecDepth 100000 in
theorem mul_zero_r (b a : Nat) (w : World) (ha : a ≠ 0) :
    Calls Try.prog 45 #[.pointer (some ⟨b, 0, none⟩), .int .u8 a, .int .u8 0] w fun e w' => e = .returned (.int .u8 0) ∧ w' = w := by
  go_enter Try.func45, Try.ntmps45
  go_wp2
  go_ret
  exact ⟨rfl, rfl⟩

set_option maxRecDepth 100000 in
set_option maxHeartbeats 1000000 in
theorem mul_main (b a c : Nat) (w : World) (hF : FieldAt w b) (ha0 : a ≠ 0) (hc0 : c ≠ 0) (ha : a < 256) (hc : c < 256) :
    Calls Try.prog 45 #[.pointer (some ⟨b, 0, none⟩), .int .u8 a, .int .u8 c] w fun e w' => e = .returned (.int .u8 (pw ((lg a + lg c) % 255) : Nat)) ∧ ∃ n, w' = w.drewN n := by
  have ka : ((a : Int) == 0) = false := by simpa using ha0
  have kc : ((c : Int) == 0) = false := by simpa using hc0
  have h1 := hF.places a ha
  have h2 := hF.places c hc
  have l1 := lg_lt ha
  have l2 := lg_lt hc
  have h3 := hF.powers ((lg a + lg c) % 255) (Nat.mod_lt _ (by decide))
  go_enter Try.func45, Try.ntmps45
  go_wp2_with (go_at_call 69; go_must (refine (filled_any b _ hF).mono ?_); rintro e w' ⟨rfl, rfl⟩)
  go_quiet (fail)
  go_wp2
  go_ret
  exact ⟨rfl, _, rfl⟩

theorem mul_any (b a c : Nat) (w : World) (hF : FieldAt w b) (ha : a < 256) (hc : c < 256) :
    Calls Try.prog 45 #[.pointer (some ⟨b, 0, none⟩), .int .u8 a, .int .u8 c] w fun e w' => e = .returned (.int .u8 (mulS a c : Nat)) ∧ ∃ n, w' = w.drewN n := by
  by_cases ha0 : a = 0
  · subst ha0
    exact (mul_zero_l b c w).mono fun e w' ⟨he, hw⟩ => ⟨by rw [he]; simp [mulS], 0, hw⟩
  · by_cases hc0 : c = 0
    · subst hc0
      exact (mul_zero_r b a w ha0).mono fun e w' ⟨he, hw⟩ => ⟨by rw [he]; simp [mulS], 0, hw⟩
    · exact (mul_main b a c w hF ha0 hc0 ha hc).mono fun e w' ⟨he, hw⟩ => ⟨by rw [he]; simp [mulS, ha0, hc0], hw⟩

theorem FieldAt.drewN {w : World} {b : Nat} (h : FieldAt w b) (n : Nat) : FieldAt (w.drewN n) b := h.own ((Own.refl w).drewN n)

/-! The same, at numbers that are written as they stand (the walk then need not see that a number is a cast one). -/
theorem mul_at {b : Nat} {x y : Int} {w : World} (hF : FieldAt w b) (a c : Nat) (hx : x = a) (hy : y = c) (ha : a < 256) (hc : c < 256) :
    Calls Try.prog 45 #[.pointer (some ⟨b, 0, none⟩), .int .u8 x, .int .u8 y] w fun e w' => e = .returned (.int .u8 (mulS a c : Nat)) ∧ ∃ n, w' = w.drewN n := by
  subst hx hy; exact mul_any b a c w hF ha hc

end Go.Proofs.Ytchfonofjbpmaaa.Gf

/-
  A PRODUCT OF BYTES BY CONTRACT.
-/

namespace Go.Proofs.Ytchfonofjbpmaaa.Gf
set_option linter.unusedVariables false
set_option linter.unusedSimpArgs false
open Go.RowKit

theorem fmu_quiet {b : Nat} {w : World} (hF : FieldAt w b) (a c : UInt8) {x y : Int} (hx : x = ((a.toNat : Nat) : Int)) (hy : y = ((c.toNat : Nat) : Int)) :
    Calls Try.prog 45 #[.pointer (some ⟨b, 0, none⟩), .int .u8 x, .int .u8 y] w fun e w' => e = .returned (.int .u8 ((mu a c).toNat : Nat)) ∧ ∃ n, w' = w.drewN n := by
  rw [mu_toNat]
  exact mul_at hF a.toNat c.toNat hx hy (u8_lt a) (u8_lt c)

end Go.Proofs.Ytchfonofjbpmaaa.Gf

/-
  PLAIN MATHEMATICS: what follows of polynomials, in the words of lists without noughts at their tops. No program is named here.
-/

namespace Go.Proofs.Ytchfonofjbpmaaa.Gf
set_option linter.unusedVariables false
set_option linter.unusedSimpArgs false

theorem norm_eq_nil {p : List UInt8} : norm p = [] ↔ ∀ i, co p i = 0 := by
  constructor
  · intro h i
    rw [← co_norm p, h]; exact co_nil i
  · intro h
    have e : norm p = mk (fun _ => 0) 0 := mk_same (co_fin p) (fun _ _ => rfl) h
    rw [e]; rfl
theorem norm_length (p : List UInt8) : (norm p).length = deg (co p) p.length := mk_length _ _
theorem norm_length_le (p : List UInt8) : (norm p).length ≤ p.length := by rw [norm_length]; exact deg_le _ _
theorem norm_addP (p q : List UInt8) : norm (addP p q) = addP p q := norm_mk (fin_add p q)
theorem norm_mulP (p q : List UInt8) : norm (mulP p q) = mulP p q := norm_mk (fin_conv p q)
theorem norm_derP (p : List UInt8) : norm (derP p) = derP p := norm_mk (fin_der p)
theorem norm_norm (p : List UInt8) : norm (norm p) = norm p := norm_mk (co_fin p)
theorem addP_length (p q : List UInt8) : (addP p q).length ≤ p.length + q.length := by rw [addP, mk_length]; exact deg_le _ _
theorem mulP_length_le (p q : List UInt8) : (mulP p q).length ≤ p.length + q.length := by rw [mulP, mk_length]; exact deg_le _ _
theorem derP_length (p : List UInt8) : (derP p).length ≤ p.length := by rw [derP, mk_length]; exact deg_le _ _
/-- two lists whose numbers are the same ones serve as one -/
theorem addP_congr {p p' q q' : List UInt8} (hp : co p = co p') (hq : co q = co q') : addP p q = addP p' q' := mk_ext (fin_add _ _) (fin_add _ _) (by rw [hp, hq])
theorem mulP_congr {p p' q q' : List UInt8} (hp : co p = co p') (hq : co q = co q') : mulP p q = mulP p' q' := mk_ext (fin_conv _ _) (fin_conv _ _) (by rw [hp, hq])
theorem derP_congr {p p' : List UInt8} (hp : co p = co p') : derP p = derP p' := mk_ext (fin_der _) (fin_der _) (by rw [hp])
theorem addP_comm (p q : List UInt8) : addP p q = addP q p := mk_ext (fin_add _ _) (fin_add _ _) (by funext i; exact x_comm _ _)
theorem mulP_comm (p q : List UInt8) : mulP p q = mulP q p := mk_ext (fin_conv _ _) (fin_conv _ _) (conv_comm _ _)
theorem mulP_assoc (p q r : List UInt8) : mulP (mulP p q) r = mulP p (mulP q r) := mk_ext (fin_conv _ _) (fin_conv _ _) (by rw [co_mulP, co_mulP, conv_assoc])
theorem addP_assoc (p q r : List UInt8) : addP (addP p q) r = addP p (addP q r) := mk_ext (fin_add _ _) (fin_add _ _) (by rw [co_addP, co_addP]; funext i; exact x_assoc _ _ _)
theorem mulP_addP (p q r : List UInt8) : mulP p (addP q r) = addP (mulP p q) (mulP p r) := mk_ext (fin_conv _ _) (fin_add _ _) (by rw [co_addP, co_mulP, co_mulP, conv_add])
theorem derP_mulP (p q : List UInt8) : derP (mulP p q) = addP (mulP (derP p) q) (mulP p (derP q)) := mk_ext (fin_der _) (fin_add _ _) (by rw [co_mulP, co_mulP, co_mulP, co_derP, co_derP, der_conv])
theorem derP_addP (p q : List UInt8) : derP (addP p q) = addP (derP p) (derP q) := mk_ext (fin_der _) (fin_add _ _) (by rw [co_addP, co_derP, co_derP, der_add])
theorem add_back {p q s r : List UInt8} (h : IsDiv p q s r) : addP (mulP s q) r = norm p := mk_ext (fin_add _ _) (co_fin p) (by rw [co_mulP]; funext i; exact (h.eqn i).symm)

/-! Values. -/
theorem evP_more (p : List UInt8) (x : UInt8) {n : Nat} (h : Fin0 (co p) n) : evP p x = ev n (co p) x := by
  unfold evP
  by_cases e : n ≤ p.length
  · exact ev_more x h e
  · exact (ev_more x (co_fin p) (by omega)).symm
theorem evP_mulP (p q : List UInt8) (x : UInt8) : evP (mulP p q) x = mu (evP p x) (evP q x) := by
  rw [evP_more (mulP p q) x (n := p.length + q.length) (by rw [co_mulP]; exact fin_conv p q), co_mulP]
  exact ev_conv x (co_fin p) (co_fin q)
theorem evP_addP (p q : List UInt8) (x : UInt8) : evP (addP p q) x = evP p x ^^^ evP q x := by
  rw [evP_more (addP p q) x (n := p.length + q.length) (by rw [co_addP]; exact fin_add p q), co_addP, ev_add]
  rw [evP_more p x ((co_fin p).mono (by omega : p.length ≤ p.length + q.length)), evP_more q x ((co_fin q).mono (by omega : q.length ≤ p.length + q.length))]
theorem evP_norm (p : List UInt8) (x : UInt8) : evP (norm p) x = evP p x := by
  rw [evP_more (norm p) x (n := p.length) (by rw [co_norm]; exact co_fin p), co_norm]; rfl
theorem evP_nil (x : UInt8) : evP [] x = 0 := rfl
theorem evP_one (c x : UInt8) : evP [c] x = c := by
  show S 1 (fun i => mu (co [c] i) (pwr x i)) = c
  rw [S, S, zero_x]
  show mu c 1 = c
  exact mu_one c
theorem evP_root (x : UInt8) : evP [x, 1] x = 0 := by
  show S 2 (fun i => mu (co [x, 1] i) (pwr x i)) = 0
  rw [S, S, S, zero_x]
  show mu x 1 ^^^ mu 1 (mu 1 x) = 0
  rw [mu_one, one_mu, one_mu, x_self]
theorem norm_root (x : UInt8) : norm [x, 1] = [x, 1] := by
  have e : (norm [x, 1]).length = 2 := by
    rw [norm_length]
    show deg (co [x, 1]) 2 = 2
    rw [deg, if_neg (by show ¬ (1 : UInt8) = 0; decide)]
  exact co_ext (by rw [e]; rfl) fun i _ => by rw [co_norm]
theorem rest_root {p s r : List UInt8} {x : UInt8} (h : IsDiv p [x, 1] s r) : (r = [] ∧ evP p x = 0) ∨ (∃ c, r = [c] ∧ c = evP p x ∧ c ≠ 0) := by
  have hv : evP p x = evP r x := by
    rw [← evP_norm p x, ← add_back h, evP_addP, evP_mulP, evP_root, mu_zero, zero_x]
  have hl := h.less
  rw [norm_root] at hl
  match r, h, hv, hl with
  | [], h, hv, _ => exact Or.inl ⟨rfl, by rw [hv]; rfl⟩
  | [c], h, hv, _ =>
    refine Or.inr ⟨c, rfl, by rw [hv, evP_one], fun hc => ?_⟩
    have := h.nr
    rw [hc] at this
    exact absurd this (by decide +kernel)
  | _ :: _ :: _, _, _, hl => exact absurd hl (by simp)

/-! Degrees; a product divided. -/
theorem mulP_length (p q : List UInt8) : (mulP p q).length = if (norm p).length = 0 ∨ (norm q).length = 0 then 0 else (norm p).length + (norm q).length - 1 := by
  rw [mulP, mk_length, norm_length, norm_length]
  exact deg_conv (co_fin p) (co_fin q) (fin_conv p q)
theorem div_undo {p q : List UInt8} (hq : norm q ≠ []) : IsDiv (mulP p q) q (norm p) [] := by
  have hpos : 0 < (norm q).length := List.length_pos_iff.2 hq
  refine ⟨norm_norm p, by decide +kernel, fun i => ?_, hpos, ?_, Nat.zero_le _⟩
  · rw [co_mulP, co_norm, co_nil, x_zero]
  · rw [mulP_length]
    by_cases h : (norm p).length = 0
    · rw [h]; exact Nat.zero_le _
    · rw [if_neg (by omega)]; omega

end Go.Proofs.Ytchfonofjbpmaaa.Gf

/-
  THE PROGRAM's 'upToTop' BY CONTRACT: a part of the slice itself, up to its top; memory stands.
-/



namespace Go.Proofs.Ytchfonofjbpmaaa.Gf
set_option linter.unusedVariables false
set_option linter.unusedSimpArgs false
open Go.RowKit

theorem topg_step {f : Nat → UInt8} {k : Nat} (hk : 0 < k) (h : f (k - 1) = 0) : deg f k = deg f (k - 1) := by
  obtain ⟨j, rfl⟩ : ∃ j, k = j + 1 := ⟨k - 1, by omega⟩
  rw [Nat.add_sub_cancel] at h ⊢
  rw [deg, if_pos h]
theorem topg_stop {f : Nat → UInt8} {k : Nat} (h : k = 0 ∨ f (k - 1) ≠ 0) : deg f k = k := by
  match k, h with
  | 0, _ => rfl
  | j + 1, h =>
    rw [Nat.add_sub_cancel] at h
    rw [deg, if_neg (by simpa using h)]
def lenV : Value → Nat
  | .slice _ n _ => n
  | _ => 0

set_option maxRecDepth 100000 in
set_option maxHeartbeats 1000000 in
theorem top_main (b off c : Nat) (p : List UInt8) (w : World) (hl : p.length ≤ 140737488355328) (hm : p.length ≤ c) (hcm : c ≤ maxLen)
    (hp : ∀ i, i < p.length → w.cell? ⟨b, off + i, none⟩ = some (.int .u8 ((co p i).toNat : Nat))) :
    Calls Try.prog 88 #[.slice (some ⟨b, off, none⟩) p.length c] w fun e w' => e = .returned (.slice (some ⟨b, off, none⟩) (norm p).length c) ∧ w' = w := by
  unfold maxLen at hcm
  go_enter Try.func88, Try.ntmps88
  go_wp2
  go_loop [0] (fun v => ∃ k : Nat, k ≤ p.length ∧ v = .slice (some ⟨b, off, none⟩) k c ∧ Hid (deg (co p) p.length = deg (co p) k)) (fun v => lenV v)
  case atStart => exact ⟨p.length, Nat.le_refl _, rfl, rfl⟩
  case round =>
    obtain ⟨k, hk, rfl, hd⟩ := hrel
    by_cases hgo : 0 < k ∧ co p (k - 1) = 0
    · obtain ⟨h0, hz⟩ := hgo
      have c1 : w.cell? ⟨b, off + (k - 1), none⟩ = some (.int .u8 0) := by rw [hp (k - 1) (by omega), hz]; rfl
      have HD : Hid (deg (co p) p.length = deg (co p) (k - 1)) := by show _ = _; rw [hd.out]; exact topg_step h0 hz
      clear hz hd
      go_wp2
      go_round
      case rel => exact ⟨k - 1, by omega, by go_num, HD⟩
      case measure => simp [lenV]; omega
    · have hstop : k = 0 ∨ co p (k - 1) ≠ 0 := by
        by_cases h0 : k = 0
        · exact Or.inl h0
        · exact Or.inr (fun h => hgo ⟨by omega, h⟩)
      have HK : Hid ((norm p).length = k) := by show _ = _; rw [norm_length, hd.out]; exact topg_stop hstop
      clear hd hgo
      by_cases h0 : k = 0
      · subst h0
        clear hp hstop
        go_wp2
        go_ret
        exact ⟨by rw [HK.out]; rfl, rfl⟩
      · have hne := hstop.resolve_left h0
        have c1 := hp (k - 1) (by omega)
        have c2 : ((((co p (k - 1)).toNat : Nat) : Int) == 0) = false := by rw [eq_u8_zero]; simpa using hne
        clear hne hstop hp
        go_wp2
        go_ret
        exact ⟨by rw [HK.out]; rfl, rfl⟩

set_option maxRecDepth 100000 in
set_option maxHeartbeats 1000000 in
theorem top_nil (ao : Option Addr) (c : Nat) (w : World) :
    Calls Try.prog 88 #[.slice ao 0 c] w fun e w' => e = .returned (.slice ao 0 c) ∧ w' = w := by
  go_enter Try.func88, Try.ntmps88
  go_wp2
  go_loop [0] (fun v => v = .slice ao 0 c) (fun v => 0)
  case atStart => rfl
  case round =>
    subst hrel
    go_wp2
    go_ret
    exact ⟨rfl, rfl⟩

theorem Rd.n {w : World} {ao : Option Addr} {n c : Nat} {p : List UInt8} (h : Rd w (.slice ao n c) p) : n = p.length := by
  obtain ⟨a, c', e⟩ := h.form
  simp at e
  exact e.2.1
/-- A slice, and the first numbers of it. -/
theorem Rd.part {w : World} {ao : Option Addr} {n c : Nat} {p : List UInt8} (h : Rd w (.slice ao n c) p) : Rd w (.slice ao (norm p).length c) (norm p) := by
  by_cases h0 : norm p = []
  · rw [h0]
    rcases h with ⟨a, c', e1, e2, hc, hn⟩ | ⟨b, off, c', hp0, e2, h1, h2, h3, hpc⟩
    · simp at e2; obtain ⟨rfl, _, rfl⟩ := e2
      exact Or.inl ⟨_, _, rfl, rfl, hc, hn⟩
    · simp at e2; obtain ⟨rfl, rfl, rfl⟩ := e2
      exact Or.inl ⟨_, _, rfl, rfl, h2, fun h => by cases h⟩
  · have hle := norm_length_le p
    rcases h with ⟨a, c', e1, e2, hc, hn⟩ | ⟨b, off, c', hp0, e2, h1, h2, h3, hpc⟩
    · subst e1; exact absurd rfl h0
    · simp at e2; obtain ⟨rfl, rfl, rfl⟩ := e2
      exact Or.inr ⟨b, off, _, h0, rfl, Nat.le_trans hle h1, h2, h3, fun i hi => by rw [co_norm]; exact hpc i (Nat.lt_of_lt_of_le hi hle)⟩

theorem top_any {ao : Option Addr} {n c : Nat} {p : List UInt8} {w : World} (hp : Rd w (.slice ao n c) p) (hl : p.length ≤ 140737488355328) :
    Calls Try.prog 88 #[.slice ao n c] w fun e w' => e = .returned (.slice ao (norm p).length c) ∧ w' = w := by
  have hn := hp.n
  subst hn
  rcases hp with ⟨a, c', rfl, e2, hc, hn⟩ | ⟨b, off, c', hp0, e2, h1, h2, h3, hpc⟩
  · exact top_nil ao c w
  · simp at e2; obtain ⟨rfl, rfl⟩ := e2
    exact top_main b off _ p w hl h1 h2 hpc

end Go.Proofs.Ytchfonofjbpmaaa.Gf

/-
  SMALL CALLEES OF THE STATEMENTS OF LAYER 2 BY CONTRACT: a product of two bytes.
-/

namespace Go.Proofs.Ytchfonofjbpmaaa.Gf
set_option linter.unusedVariables false
set_option linter.unusedSimpArgs false
open Go.RowKit

theorem u8_byte {x : Int} (h : (Lit.int .u8 x).wf = true) : ∃ a : UInt8, x = ((a.toNat : Nat) : Int) := by
  have := bounds_u8 h
  exact ⟨UInt8.ofNat x.toNat, by rw [ofNat_u8 (by omega)]; omega⟩
theorem rd_nil_any {w : World} : Rd w (.slice none 0 0) [] := Or.inl ⟨none, 0, rfl, rfl, Nat.zero_le _, fun _ => rfl⟩
theorem fmu_at {b : Nat} {w : World} (hF : FieldAt w b) (a c : UInt8) {x y : Int} (hx : x = ((a.toNat : Nat) : Int)) (hy : y = ((c.toNat : Nat) : Int)) :
    Calls Try.prog 45 #[.pointer (some ⟨b, 0, none⟩), .int .u8 x, .int .u8 y] w fun e w' => e = .returned (.int .u8 ((mu a c).toNat : Nat)) ∧ Below w.heap.size w w' := by
  rw [mu_toNat]
  exact (mul_at hF a.toNat c.toNat hx hy (u8_lt a) (u8_lt c)).mono fun e w' ⟨he, n, hw⟩ => ⟨he, by rw [hw]; exact below_draws w n⟩

end Go.Proofs.Ytchfonofjbpmaaa.Gf

/-
  THE PROGRAM's 'Deriv' AND 'Eval' BY CONTRACT.
-/



namespace Go.Proofs.Ytchfonofjbpmaaa.Gf
set_option linter.unusedVariables false
set_option linter.unusedSimpArgs false
open Go.RowKit

theorem pder_even {f : Nat → UInt8} {k : Nat} (h : k % 2 = 0) : der f k = f (k + 1) := by unfold der od; rw [if_pos (by omega)]
theorem pder_odd {f : Nat → UInt8} {k : Nat} (h : k % 2 = 1) : der f k = 0 := by unfold der od; rw [if_neg (by omega)]
/-- the first k numbers of a derivative -/
def dk (f : Nat → UInt8) (k t : Nat) : UInt8 := if t < k then der f t else 0
theorem dk_zero (f : Nat → UInt8) (t : Nat) : dk f 0 t = 0 := if_neg (by omega)
theorem dk_even {f : Nat → UInt8} {k : Nat} (h : k % 2 = 0) (t : Nat) : dk f (k + 1) t = if t = k then f (k + 1) else dk f k t := by
  unfold dk
  by_cases e : t = k
  · subst e; rw [if_pos (by omega), if_pos rfl, pder_even h]
  · rw [if_neg e]
    by_cases h2 : t < k
    · rw [if_pos h2, if_pos (by omega)]
    · rw [if_neg h2, if_neg (by omega)]
theorem dk_odd {f : Nat → UInt8} {k : Nat} (h : k % 2 = 1) : dk f (k + 1) = dk f k := by
  funext t
  unfold dk
  by_cases e : t = k
  · subst e; rw [if_pos (by omega), if_neg (by omega), pder_odd h]
  · by_cases h2 : t < k
    · rw [if_pos h2, if_pos (by omega)]
    · rw [if_neg h2, if_neg (by omega)]

set_option maxRecDepth 100000 in
set_option maxHeartbeats 1000000 in
theorem pderiv_nil (a : Option Addr) (c : Nat) (w : World) :
    Calls Try.prog 58 #[.slice a 0 c] w fun e w' => e = .returned (.slice none 0 0) ∧ w' = w := by
  go_enter Try.func58, Try.ntmps58
  go_wp2
  go_ret
  exact ⟨rfl, rfl⟩

set_option maxRecDepth 100000 in
set_option maxHeartbeats 1000000 in
theorem pderiv_main (b off c : Nat) (p : List UInt8) (w : World) (hp0 : p ≠ []) (hl : p.length ≤ 1000000) (hb : b < w.heap.size)
    (hpc : ∀ i, i < p.length → w.cell? ⟨b, off + i, none⟩ = some (.int .u8 ((co p i).toNat : Nat))) :
    Calls Try.prog 58 #[.slice (some ⟨b, off, none⟩) p.length c] w (Makes w (derP p)) := by
  obtain ⟨i0, hi, hz0, hz1, hz2⟩ := info_parts info_u8
  obtain ⟨n, hn⟩ : ∃ n, p.length = n + 1 := ⟨p.length - 1, by have := List.length_pos_iff.2 hp0; omega⟩
  have HN : Hid (norm (upto (der (co p)) n) = derP p) := norm_upto (by have := (co_fin p).der; rw [hn] at this; exact this) (fin_der p)
  have HU : Hid ((upto (der (co p)) n).length = n) := upto_length _ _
  rw [hn] at hpc hl
  simp only [hn]
  clear hp0 hn
  have hnz : (((n : Int) + 1) == 0) = false := by simp; omega
  go_enter Try.func58, Try.ntmps58
  go_wp2_with (at_make; go_loud (refine wpList_make_full _ rfl (.tmp 10) (.tmp 10) 22 rfl w.heap.size 5 i0 (.int .u8 0) 1 Try.underlying22 hi hz0 hz1 _ _ _ _ n rfl rfl (by omega) (by omega) (by rw [hz2]; omega) (by unfold maxLen; omega) (Nat.le_refl _) ?_); intro w1 hown1 hgrow1)
  have R1 := RowF.made hown1
  have B1 : Below w.heap.size w w1 := (Below.refl _ _).grown hgrow1 (Nat.le_refl _) (fun k h => by cases h)
  clear hown1 hgrow1
  go_loopw [14] (fun i wr => ∃ k : Nat, k ≤ n ∧ i = .int .i64 k ∧ RowF wr w.heap.size 5 w.heap.size n n (dk (co p) k) ∧ Below w.heap.size w wr) (fun i _ => n - (intOf i).toNat)
  case atStart => exact ⟨0, by omega, rfl, R1.congr (fun t _ => (dk_zero _ t).symm), B1⟩
  case round =>
    obtain ⟨k, hk, rfl, hR, hB⟩ := hrel
    clear R1 B1
    by_cases hlt : k < n
    · by_cases hev : k % 2 = 0
      · have c1 : wr.cell? ⟨b, off + (k + 1), none⟩ = some (.int .u8 (((co p (k + 1)).toNat : Nat) : Int)) := (hB.cell (p := ⟨b, off + (k + 1), none⟩) hb).trans (hpc (k + 1) (by omega))
        have c2 := hR.cell hlt
        have f1 := hR.unfrozen k
        have N1 : Hid _ := hR.store hlt (co p (k + 1)) (dk_even hev)
        have N2 : Hid _ := hB.setCell (p := ⟨w.heap.size, k, none⟩) (Nat.le_refl _) (.int .u8 (((co p (k + 1)).toNat : Nat) : Int))
        clear hpc hR hB
        go_wp2
        go_roundw
        case rel => exact ⟨k + 1, by omega, by go_num, N1.out, N2.out⟩
        case measure => simp [intOf]; omega
      · have hev2 : k % 2 = 1 := by omega
        have N1 : Hid (RowF wr w.heap.size 5 w.heap.size n n (dk (co p) (k + 1))) := by rw [dk_odd hev2]; exact hR
        clear hpc hR
        go_wp2
        go_roundw
        case rel => exact ⟨k + 1, by omega, by go_num, N1.out, hB⟩
        case measure => simp [intOf]; omega
    · have e : k = n := by omega
      subst e
      have hR2 : RowF wr w.heap.size 5 w.heap.size k k (der (co p)) := hR.congr (fun t ht => if_pos ht)
      have hRd := hR2.rd
      have hRN := hRd.part
      clear hR hR2 hpc
      go_wp2_with fail
      refine (top_any hRd (by rw [HU.out]; omega)).mono ?_
      rintro e w'' ⟨rfl, rfl⟩
      go_wp2
      go_ret
      rw [← HN.out]
      exact ⟨_, rfl, hRN, hB⟩

theorem pderiv_any {v : Value} {p : List UInt8} {w : World} (hp : Rd w v p) (hl : p.length ≤ 400000) :
    Calls Try.prog 58 #[v] w (Makes w (derP p)) := by
  rcases hp with ⟨a, c, rfl, rfl, hc, hn⟩ | ⟨b, off, c, hp0, rfl, h1, h2, h3, hpc⟩
  · refine (pderiv_nil a c w).mono ?_
    rintro e w' ⟨rfl, rfl⟩
    exact ⟨_, rfl, rd_nil_any, Below.refl _ _⟩
  · exact pderiv_main b off c p w hp0 (by omega) h3 hpc

/-- A value by Horner's rule: the last k numbers. -/
def hor (p : Nat → UInt8) (x : UInt8) (n k : Nat) : UInt8 := ev k (fun i => p (n - k + i)) x
theorem hor_step (p : Nat → UInt8) (x : UInt8) (n k : Nat) (h : k < n) : hor p x n (k + 1) = mu (hor p x n k) x ^^^ p (n - 1 - k) := by
  unfold hor ev
  rw [S_head, S_mu, x_comm]
  congr 1
  · refine S_congr fun i hi => ?_
    rw [pwr, mu_assoc]
    show mu (p (n - (k + 1) + (i + 1))) _ = mu (p (n - k + i)) _
    rw [show n - (k + 1) + (i + 1) = n - k + i by omega]
  · rw [pwr, mu_one]
    show p (n - (k + 1) + 0) = _
    rw [show n - (k + 1) + 0 = n - 1 - k by omega]
theorem hor_all (p : List UInt8) (x : UInt8) : hor (co p) x p.length p.length = evP p x := by
  unfold hor evP ev
  refine S_congr fun i _ => ?_
  show mu (co p (p.length - p.length + i)) _ = _
  rw [Nat.sub_self, Nat.zero_add]

set_option maxRecDepth 100000 in
set_option maxHeartbeats 1000000 in
theorem peval_nil {v : Value} {p : List UInt8} {w : World} (hp : Rd w v p) (x : UInt8) {y : Int} (hy : y = ((x.toNat : Nat) : Int)) (hl : p.length ≤ 400000) :
    Calls Try.prog 85 #[.pointer none, v, .int .u8 y] w fun e w' => e = .returned (.int .u8 0) ∧ Below w.heap.size w w' := by
  clear hp
  go_enter Try.func85, Try.ntmps85
  go_wp2
  go_ret
  exact ⟨rfl, Below.refl _ _⟩

set_option maxRecDepth 100000 in
set_option maxHeartbeats 1000000 in
theorem peval_quiet {b : Nat} {v : Value} {p : List UInt8} {w : World} (hF : FieldAt w b) (hp : Rd w v p) (x : UInt8) {y : Int} (hy : y = ((x.toNat : Nat) : Int)) (hl : p.length ≤ 400000) :
    Calls Try.prog 85 #[.pointer (some ⟨b, 0, none⟩), v, .int .u8 y] w fun e w' => e = .returned (.int .u8 ((evP p x).toNat : Nat)) ∧ ∃ n, w' = w.drewN n := by
  subst hy
  rcases hp with ⟨a, c, rfl, rfl, hc, hn⟩ | ⟨bb, off, c, hp0, rfl, h1, h2, h3, hpc⟩
  · have e : evP [] x = 0 := rfl
    have E : Hid _ := e
    clear e
    go_enter Try.func85, Try.ntmps85
    go_wp2
    go_loop [7, 13] (fun o i => o = .int .u8 0 ∧ i = .int .i64 0) (fun _ _ => 0)
    case atStart => exact ⟨rfl, rfl⟩
    case round =>
      obtain ⟨rfl, rfl⟩ := hrel
      go_wp2
      go_ret
      exact ⟨by rw [E.out]; rfl, 0, rfl⟩
  · have HE : Hid _ := hor_all p x
    clear hp0
    go_enter Try.func85, Try.ntmps85
    go_wp2
    go_loopw [7, 13] (fun o i wr => ∃ k : Nat, k ≤ p.length ∧ i = .int .i64 k ∧ o = .int .u8 ((hor (co p) x p.length k).toNat : Nat) ∧ ∃ d, Hid (wr = w.drewN d)) (fun _ i _ => p.length - (intOf i).toNat)
    case atStart => exact ⟨0, by omega, rfl, rfl, 0, rfl⟩
    case round =>
      obtain ⟨k, hk, rfl, rfl, d, hd⟩ := hrel
      by_cases hlt : k < p.length
      · have c1 : wr.cell? ⟨bb, off + (p.length - 1 - k), none⟩ = some (.int .u8 ((co p (p.length - 1 - k)).toNat : Nat)) := by rw [hd.out]; exact hpc (p.length - 1 - k) (by omega)
        obtain ⟨t, ht⟩ : ∃ t, t = p.length - 1 - k := ⟨_, rfl⟩
        have hx : bits .xor .u8 (((mu (hor (co p) x p.length k) x).toNat : Nat) : Int) (((co p t).toNat : Nat) : Int) = (((hor (co p) x p.length (k + 1)).toNat : Nat) : Int) := by
          rw [hor_step _ _ _ _ hlt, ← ht]; exact xor_u8 _ _
        have HX : Hid _ := hx
        rw [← ht] at c1
        clear hpc
        have g0 : (p.length : Int) - 1 - (k : Int) = (t : Int) := by omega
        have htl : t < p.length := by omega
        have gw1 : IntKind.i64.wrap ((p.length : Int) - 1) = (p.length : Int) - 1 := by rw [IntKind.wrap_i64]; omega
        have gw3 : IntKind.i64.wrap (t : Int) = (t : Int) := by rw [IntKind.wrap_i64]; omega
        have g1 : (t : Int) < (p.length : Int) := by omega
        clear ht
        have hFd : FieldAt wr b := by rw [hd.out]; exact hF.drewN d
        go_wp2
        go_quiet ((go_at_call 45; go_loud (exact Calls.quiet_of (fmu_quiet (hFd.drewN _) (hor (co p) x p.length k) x rfl rfl))))
        go_wp2
        go_roundw
        case rel => exact ⟨k + 1, by omega, by go_num, by first | exact congrArg _ HX.out | (rw [← HX.out, xor_u8]), _, by show _ = _; rw [hd.out, World.drewN_drewN]⟩
        case measure => simp [intOf]; omega
      · have e : k = p.length := by omega
        subst e
        clear hpc
        go_wp2
        go_ret
        exact ⟨by rw [← HE.out]; rfl, d, hd.out⟩

theorem peval_any {b : Nat} {v : Value} {p : List UInt8} {w : World} (hF : FieldAt w b) (hp : Rd w v p) (x : UInt8) {y : Int} (hy : y = ((x.toNat : Nat) : Int)) (hl : p.length ≤ 400000) :
    Calls Try.prog 85 #[.pointer (some ⟨b, 0, none⟩), v, .int .u8 y] w fun e w' => e = .returned (.int .u8 ((evP p x).toNat : Nat)) ∧ Below w.heap.size w w' :=
  (peval_quiet hF hp x hy hl).mono fun e w' ⟨h1, n, h2⟩ => ⟨h1, by rw [h2]; exact below_draws _ _⟩

end Go.Proofs.Ytchfonofjbpmaaa.Gf

/-
  PLAIN MATHEMATICS: powers and inverses by logarithms. No program is named here.
-/

namespace Go.Proofs.Ytchfonofjbpmaaa.Gf
set_option linter.unusedVariables false

/-- n, less multiples of 255. -/
def tn (n : Int) : Nat := (n % 255).toNat

theorem tn_lt (n : Int) : tn n < 255 := by unfold tn; omega

theorem tn_cast (n : Int) : ((tn n : Nat) : Int) = n % 255 := by unfold tn; omega

def powV (a : Nat) (n : Int) : Nat := if n = 0 then 1 else if a = 0 then 0 else pw ((lg a * tn n) % 255)

def powE (a : Nat) (n : Int) : Nat := if n < 0 ∧ a = 0 then 10 else 0

theorem tn_neg : tn (-1) = 254 := by kernel_rfl

theorem powV_inv {a : Nat} (h : a ≠ 0) : powV a (-1) = invS a := by
  unfold powV invS; rw [if_neg (by omega), if_neg h, if_neg h, tn_neg]

theorem powE_inv {a : Nat} (h : a ≠ 0) : powE a (-1) = 0 := by simp [powE, h]

theorem powV_lt (a : Nat) (n : Int) : powV a n < 256 := by
  unfold powV; split
  · omega
  · split
    · omega
    · exact pw_lt _

theorem powV_pos {a : Nat} (h : a ≠ 0) (n : Int) : powV a n = pw (lg a * tn n % 255) := by
  unfold powV
  by_cases e : n = 0
  · subst e
    rw [if_pos rfl, show tn 0 = 0 from rfl, Nat.mul_zero, Nat.zero_mod, pw_zero]
  · rw [if_neg e, if_neg h]

theorem powE_pos {a : Nat} (h : a ≠ 0) (n : Int) : powE a n = 0 := by simp [powE, h]

theorem powV_ne {a : Nat} (h : a ≠ 0) (n : Int) : powV a n ≠ 0 := by
  rw [powV_pos h]
  have := pw_pos (Nat.mod_lt (lg a * tn n) (by decide : 0 < 255))
  omega

theorem lg_powV {a : Nat} (h : a ≠ 0) (n : Int) : lg (powV a n) = lg a * tn n % 255 := by
  rw [powV_pos h, lg_pw (Nat.mod_lt _ (by decide))]

theorem tn_add (m n : Int) : tn (m + n) = (tn m + tn n) % 255 := by unfold tn; omega

theorem powV_add {a : Nat} (h : a ≠ 0) (m n : Int) : mulS (powV a m) (powV a n) = powV a (m + n) := by
  rw [mulS_pos (powV_ne h m) (powV_ne h n), lg_powV h, lg_powV h, powV_pos h, tn_add]
  congr 1
  rw [← Nat.add_mod, ← Nat.mul_add, Nat.mul_mod, Nat.mul_mod (lg a) ((tn m + tn n) % 255), Nat.mod_mod]

theorem powV_turn {a : Nat} (h : a ≠ 0) (m : Int) : powV a (m + 255) = powV a m := by
  rw [powV_pos h, powV_pos h]
  have : tn (m + 255) = tn m := by unfold tn; omega
  rw [this]

theorem lg_two : lg 2 = 1 := by kernel_rfl

theorem powV_lg {a : Nat} (h : a < 256) (h0 : a ≠ 0) : powV 2 (lg a : Nat) = a := by
  have l := lg_lt h
  have : tn (lg a : Nat) = lg a := by unfold tn; omega
  rw [powV_pos (by decide), lg_two, this, Nat.one_mul, Nat.mod_eq_of_lt l, pw_lg h h0]

theorem powV_m1 (a : Nat) : powV a (-1) = invS a := by
  by_cases h : a = 0
  · subst h; rfl
  · exact powV_inv h

theorem powE_m1 (a : Nat) : powE a (-1) = zE a := by
  by_cases h : a = 0
  · subst h; rfl
  · rw [powE_inv h, zE_pos h]

end Go.Proofs.Ytchfonofjbpmaaa.Gf

