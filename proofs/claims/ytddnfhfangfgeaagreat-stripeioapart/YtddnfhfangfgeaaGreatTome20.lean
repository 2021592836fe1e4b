/- TEXTS JOINED: WdMath, WdTry, WdOwn, WdBack, WdKey, WdAns, WdRoots. -/
import Derived.Test.YtddnfhfangfgeaaGreatChecked
import GoSem.Claim
import GoSem.ClaimJoined
import GoSem.ClaimMapViews
import Derived.JoinedTies
import Derived.KernelRfl
import Derived.WalkKit
import Derived.Deep.QuietTactic
import Derived.BigQuiet
import Derived.WalkLawsBesides
import Derived.WalkSpells
import Derived.OpenShut
import Derived.Deep.AppendLies
import Derived.Laws.CopyOwn
import Derived.Laws.AppendOwnNone
import Derived.Deep.RegionHeld3
import Derived.Test.YtddnfhfangfgeaaGreatRows
import Derived.Test.YtddnfhfangfgeaaGreatTome2
import Derived.Test.YtddnfhfangfgeaaGreatTome9
import Derived.Test.YtddnfhfangfgeaaGreatTome13
import Derived.Test.YtddnfhfangfgeaaGreatTome14
import Derived.Test.YtddnfhfangfgeaaGreatTome15
import Derived.Test.YtddnfhfangfgeaaGreatTome11
import Derived.Test.YtddnfhfangfgeaaGreatTome3
namespace Go.Proofs.YtddnfhfangfgeaaGreat.Gf
set_option linter.unusedVariables false
set_option linter.unusedSimpArgs false
/-- how many of the first n are so -/
def cnt (p : Nat → Bool) : Nat → Nat
  | 0 => 0
  | n + 1 => cnt p n + (if p n then 1 else 0)
theorem cnt_mono {p q : Nat → Bool} {n : Nat} (h : ∀ i, i < n → p i = true → q i = true) : cnt p n ≤ cnt q n := by
  induction n with
  | zero => exact Nat.le_refl _
  | succ n ih =>
    have h1 := ih fun i hi => h i (by omega)
    rw [cnt, cnt]
    by_cases e : p n = true
    · rw [if_pos e, if_pos (h n (by omega) e)]; omega
    · rw [if_neg e]; omega
theorem cnt_or (p q : Nat → Bool) (n : Nat) : cnt (fun i => p i || q i) n ≤ cnt p n + cnt q n := by
  induction n with
  | zero => exact Nat.le_refl _
  | succ n ih =>
    rw [cnt, cnt, cnt]
    cases p n <;> cases q n <;> simp <;> omega
theorem cnt_le (p : Nat → Bool) (n : Nat) : cnt p n ≤ n := by
  induction n with
  | zero => exact Nat.le_refl _
  | succ n ih => rw [cnt]; split <;> omega
theorem cnt_congr {p q : Nat → Bool} {n : Nat} (h : ∀ i, i < n → p i = q i) : cnt p n = cnt q n := by
  induction n with
  | zero => rfl
  | succ n ih => rw [cnt, cnt, ih fun i hi => h i (by omega), h n (by omega)]
/-- the places, rising -/
def plc (p : Nat → Bool) (n : Nat) : List Nat := (List.range n).filter p
theorem plc_succ (p : Nat → Bool) (n : Nat) : plc p (n + 1) = plc p n ++ (if p n then [n] else []) := by
  unfold plc
  rw [List.range_succ, List.filter_append]
  congr 1
  cases h : p n <;> simp [h]
theorem plc_length (p : Nat → Bool) (n : Nat) : (plc p n).length = cnt p n := by
  induction n with
  | zero => rfl
  | succ n ih => rw [plc_succ, cnt, List.length_append, ih]; congr 1; split <;> rfl
theorem plc_mem {p : Nat → Bool} {n i : Nat} : i ∈ plc p n ↔ i < n ∧ p i = true := by unfold plc; rw [List.mem_filter, List.mem_range]
theorem plc_nodup (p : Nat → Bool) (n : Nat) : (plc p n).Nodup := List.Nodup.sublist List.filter_sublist List.nodup_range
/-- the product of z and the points of some places -/
def prL (z : UInt8) : List Nat → UInt8
  | [] => 1
  | i :: I => mu (z ^^^ pt i) (prL z I)
theorem prL_PF (I : List Nat) : PF (I.length + 1) (fun z => prL z I) := by
  induction I with
  | nil => exact PF.const 1
  | cons i I ih => exact (ih.lin (pt i)).congr fun z => rfl
theorem prL_zero {z : UInt8} {I : List Nat} : prL z I = 0 ↔ ∃ i, i ∈ I ∧ z = pt i := by
  induction I with
  | nil => exact ⟨fun h => absurd (show (1 : UInt8) = 0 from h) (by decide), fun ⟨i, h, _⟩ => by simp at h⟩
  | cons a I ih =>
    rw [prL, mu_eq_zero, ih]
    constructor
    · rintro (h | ⟨i, h1, h2⟩)
      · exact ⟨a, by simp, x_eq_zero.1 h⟩
      · exact ⟨i, by simp [h1], h2⟩
    · rintro ⟨i, h1, h2⟩
      rcases List.mem_cons.1 h1 with e | e
      · subst e; exact Or.inl (x_eq_zero.2 h2)
      · exact Or.inr ⟨i, e, h2⟩
/-- a word of the code -/
def CodeW (k m : Nat) (c : Nat → UInt8) : Prop := ∀ l, l < m → synF k m c l = 0
/-- one that is not nought has more than m numbers but 0 -/
theorem mds {k m : Nat} {c : Nat → UInt8} (h : k + m ≤ 256) (hc : CodeW k m c) (hn : cnt (fun i => decide (c i ≠ 0)) (k + m) ≤ m) : ∀ i, i < k + m → c i = 0 := by
  intro j hj
  by_cases e : c j = 0
  · exact e
  · exfalso
    have hjI : j ∈ plc (fun i => decide (c i ≠ 0)) (k + m) := plc_mem.2 ⟨hj, decide_eq_true e⟩
    obtain ⟨I, hI⟩ : ∃ I, I = (plc (fun i => decide (c i ≠ 0)) (k + m)).erase j := ⟨_, rfl⟩
    have hlen : I.length + 1 ≤ m := by
      rw [hI, List.length_erase_of_mem hjI, plc_length]
      have : 0 < (plc (fun i => decide (c i ≠ 0)) (k + m)).length := List.length_pos_of_mem hjI
      rw [plc_length] at this
      omega
    have hs := syn_poly hc ((prL_PF I).mono' hlen)
    rw [S_one (k := j) hj (fun i hi hne => ?_)] at hs
    · rcases mu_eq_zero.1 hs with h1 | h1
      · rcases mu_eq_zero.1 h1 with h2 | h2
        · exact e h2
        · exact wtF_ne h (by omega) h2
      · obtain ⟨i, h2, h3⟩ := prL_zero.1 h1
        rw [hI] at h2
        have h4 := List.Nodup.mem_erase_iff (plc_nodup (fun i => decide (c i ≠ 0)) (k + m)) (a := i) (b := j)
        obtain ⟨h5, h6⟩ := h4.1 h2
        have := (plc_mem.1 h6).1
        exact h5 (pt_inj (by omega) (by omega) h3).symm
    · show mu (mu (c i) (wtF k m i)) (prL (pt i) I) = 0
      by_cases ei : c i = 0
      · rw [ei, zero_mu, zero_mu]
      · rw [prL_zero.2 ⟨i, ?_, rfl⟩, mu_zero]
        rw [hI]
        exact (List.Nodup.mem_erase_iff (plc_nodup _ _)).2 ⟨hne, plc_mem.2 ⟨hi, decide_eq_true ei⟩⟩
theorem CodeW.add {k m : Nat} {c d : Nat → UInt8} (hc : CodeW k m c) (hd : CodeW k m d) : CodeW k m (fun i => c i ^^^ d i) := fun l hl => by
  rw [synF_add (fun i _ => rfl), hc l hl, hd l hl]; rfl
theorem CodeW.congr {k m : Nat} {c d : Nat → UInt8} (hc : CodeW k m c) (h : ∀ i, i < k + m → d i = c i) : CodeW k m d := fun l hl => by
  rw [synF_congr h]; exact hc l hl
/-- where c and z differ, besides what is missing -/
def wrg (z c : Nat → UInt8) (ms : Nat → Bool) (i : Nat) : Bool := !ms i && decide (c i ≠ z i)
/-- a word of the code near z -/
structure Near (k m : Nat) (z : Nat → UInt8) (ms : Nat → Bool) (c : Nat → UInt8) : Prop where
  code : CodeW k m c
  few : 2 * cnt (wrg z c ms) (k + m) + cnt ms (k + m) ≤ m
/-- there is one alone -/
theorem Near.unique {k m : Nat} {z c d : Nat → UInt8} {ms : Nat → Bool} (h : k + m ≤ 256) (hc : Near k m z ms c) (hd : Near k m z ms d) : ∀ i, i < k + m → c i = d i := by
  have key := mds h (hc.code.add hd.code) (by
    have h1 : cnt (fun i => decide (c i ^^^ d i ≠ 0)) (k + m) ≤ cnt (fun i => (ms i || wrg z c ms i) || wrg z d ms i) (k + m) := cnt_mono fun i hi hne => by
      have hne' : c i ≠ d i := fun e => (of_decide_eq_true hne) (x_eq_zero.2 e)
      cases em : ms i
      · by_cases e1 : c i = z i
        · have e2 : d i ≠ z i := fun e => hne' (e1.trans e.symm)
          simp [wrg, em, e2]
        · simp [wrg, em, e1]
      · simp
    have h2 := cnt_or (fun i => ms i || wrg z c ms i) (wrg z d ms) (k + m)
    have h3 := cnt_or ms (wrg z c ms) (k + m)
    have h4 := hc.few
    have h5 := hd.few
    omega)
  intro i hi
  exact x_eq_zero.1 (key i hi)
end Go.Proofs.YtddnfhfangfgeaaGreat.Gf

namespace Go.Proofs.YtddnfhfangfgeaaGreat.Gf
set_option linter.unusedVariables false
set_option linter.unusedSimpArgs false
theorem cnt_not (p : Nat → Bool) (n : Nat) : cnt (fun i => !p i) n + cnt p n = n := by
  induction n with
  | zero => rfl
  | succ n ih => rw [cnt, cnt]; cases p n <;> simp <;> omega
end Go.Proofs.YtddnfhfangfgeaaGreat.Gf

namespace Go.Proofs.YtddnfhfangfgeaaGreat.Gf
set_option linter.unusedVariables false
set_option linter.unusedSimpArgs false
open Go.RowKit
theorem OwnI.later {w w' : World} {base e : Nat} {v : Value} {zs : List Nat} (h : OwnI w base e v zs) (hb : Below w.heap.size w w') : OwnI w' base e v zs := owns_later h hb
end Go.Proofs.YtddnfhfangfgeaaGreat.Gf

namespace Go.Proofs.YtddnfhfangfgeaaGreat.Gf
set_option linter.unusedVariables false
set_option linter.unusedSimpArgs false
theorem conv_zero_top {f g : Nat → UInt8} {n m : Nat} (hf : Fin0 f (n + 1)) (h1 : f n = 1) (hg : Fin0 g m) (h : ∀ j, n ≤ j → conv f g j = 0) : ∀ i, g i = 0 := by
  induction m with
  | zero => exact fun i => hg i (Nat.zero_le _)
  | succ m ih =>
    have e := conv_top hf hg
    rw [h _ (by omega), h1, one_mu] at e
    refine ih fun i hi => ?_
    by_cases q : i = m
    · rw [q]; exact e.symm
    · exact hg i (by omega)
theorem tuF_fin (a bv : Nat → UInt8) (N m : Nat) : Fin0 (tuF a bv N m) m := fun i hi => S_zero fun k _ => by unfold geoF; rw [if_neg (by omega), mu_zero]
/-- the turned one is what the points make, by the numbers that the evaluator tells -/
theorem loc_back {a bv T : Nat → UInt8} {N m : Nat} (hN : N ≤ m) (hd : ∀ i j, i < N → j < N → i ≠ j → a i ≠ a j) (hT : Fin0 T m) (h : ∀ j, N ≤ j → j < m → conv (locF a N) T j = 0)
    (hb : ∀ j, j < N → mu (bv j) (PE a j N (a j)) = ev N (higF m (conv (locF a N) T)) (a j)) : T = tuF a bv N m := by
  have hH : Fin0 (higF m (conv (locF a N) T)) N := fun i hi => ((locF_fin a N).conv hT) (m + i) (by omega)
  have hz := roots_all (hH.add (om_fin a bv N)) a hd fun i hi => by rw [ev_add, om_at hi, hb i hi, x_self]
  have tl := tu_loc (a := a) (bv := bv) (t := 0) (e := N) (m := m) (by omega)
  have tO := tu_om (a := a) (bv := bv) (t := 0) (e := N) (m := m) (by omega)
  rw [Nat.zero_add] at tl tO
  have z := conv_zero_top (locF_fin a N) (locF_top a N) (hT.add (tuF_fin a bv N m)) fun j hj => by
    rw [conv_add, addF_at]
    by_cases hlt : j < m
    · rw [h j hj hlt, tl j hj hlt, x_self]
    · obtain ⟨i, rfl⟩ : ∃ i, j = m + i := ⟨j - m, by omega⟩
      have e1 : conv (locF a N) (tuF a bv N m) (m + i) = omF a bv N i := congrFun tO i
      rw [e1]
      exact hz i
  funext i
  exact x_eq_zero.1 (z i)
/-- .. as lists -/
theorem find_made {s pts ks bs zs : List UInt8} (hm : pts.length + ks.length ≤ s.length)
    (hd : ∀ i j, i < pts.length + ks.length → j < pts.length + ks.length → i ≠ j → co (pts ++ ks) i ≠ co (pts ++ ks) j)
    (hl : ∀ j, pts.length + ks.length ≤ j → j < s.length → conv (locF (co pts) pts.length) (keP s (locL ks)) j = 0)
    (hv : ∀ j, j < pts.length + ks.length → mu (co (bs ++ zs) j) (PE (co (pts ++ ks)) j (pts.length + ks.length) (co (pts ++ ks) j)) = evP (evaL s (locL ks) pts.length (locF (co pts) pts.length)) (co (pts ++ ks) j)) : SyOf s pts ks bs zs := by
  have hT : Fin0 (co s.reverse) s.length := fun i hi => co_ge (by rw [List.length_reverse]; exact hi)
  have e0 : locF (co (pts ++ ks)) (pts.length + ks.length) = conv (locF (co pts) pts.length) (co (locL ks)) := by
    rw [locF_append]
    unfold locL
    rw [co_locN]
    congr 1
    · exact locF_congr fun i hi => co_append_lt hi
    · exact locF_congr fun i hi => by rw [co_append_ge (by omega), Nat.add_sub_cancel_left]
  have e1 : conv (locF (co (pts ++ ks)) (pts.length + ks.length)) (co s.reverse) = conv (locF (co pts) pts.length) (keP s (locL ks)) := by
    unfold keP
    rw [e0, conv_assoc]
  have hH : Fin0 (higF s.length (conv (locF (co (pts ++ ks)) (pts.length + ks.length)) (co s.reverse))) (pts.length + ks.length) := fun i hi => ((locF_fin _ _).conv hT) (s.length + i) (by omega)
  have e2 : co (evaL s (locL ks) pts.length (locF (co pts) pts.length)) = higF s.length (conv (locF (co (pts ++ ks)) (pts.length + ks.length)) (co s.reverse)) := by
    unfold evaL
    rw [co_mk (eva_fin (locF_fin _ _)), e1]; rfl
  have key := loc_back (a := co (pts ++ ks)) (bv := co (bs ++ zs)) hm hd hT (fun j h1 h2 => by rw [e1]; exact hl j h1 h2) (fun j hj => by
    rw [hv j hj]
    unfold evP
    rw [e2]
    exact ev_eq _ (by rw [← e2]; exact co_fin _) hH)
  intro l hll
  have e3 : co s l = co s.reverse (s.length - 1 - l) := by rw [co_rev (by omega)]; congr 1; omega
  rw [e3, key]
  unfold tuF syP
  refine S_congr fun k _ => ?_
  unfold geoF
  rw [if_pos (by omega), show s.length - 1 - (s.length - 1 - l) = l by omega]
end Go.Proofs.YtddnfhfangfgeaaGreat.Gf

namespace Go.Proofs.YtddnfhfangfgeaaGreat.Gf
set_option linter.unusedVariables false
set_option linter.unusedSimpArgs false
theorem nmF_one_pwr (x : UInt8) (l : Nat) : nmF 1 x l = pwr x l := by
  induction l with
  | zero => rfl
  | succ l ih => rw [nmF, pwr, ih]
/-- a sum over some places -/
theorem S_plc (p : Nat → Bool) (f : Nat → UInt8) (n : Nat) : S (cnt p n) (fun j => f ((plc p n).getD j 0)) = S n (fun i => if p i then f i else 0) := by
  induction n with
  | zero => rfl
  | succ n ih =>
    have hc : S (cnt p n) (fun j => f ((plc p (n + 1)).getD j 0)) = S (cnt p n) (fun j => f ((plc p n).getD j 0)) := S_congr fun j hj => by
      rw [plc_succ, ← plc_length] at *
      rw [show (plc p n ++ if p n then [n] else []).getD j 0 = (plc p n).getD j 0 by simp [List.getD, List.getElem?_append_left hj]]
    show _ = S n (fun i => if p i then f i else 0) ^^^ (if p n then f n else 0)
    rw [← ih, ← hc]
    cases e : p n
    · have : cnt p (n + 1) = cnt p n := by rw [cnt, e]; rfl
      rw [this]
      simp
    · have h1 : cnt p (n + 1) = cnt p n + 1 := by rw [cnt, e]; rfl
      rw [h1]
      show S (cnt p n) (fun j => f ((plc p (n + 1)).getD j 0)) ^^^ f ((plc p (n + 1)).getD (cnt p n) 0) = _
      have h2 : (plc p (n + 1)).getD (cnt p n) 0 = n := by
        rw [plc_succ, e, ← plc_length]
        simp [List.getD]
      rw [h2]; rfl
theorem co_map {L : List Nat} {f : Nat → UInt8} {j : Nat} (hj : j < L.length) : co (L.map f) j = f (L.getD j 0) := by
  rw [co_lt (by rw [List.length_map]; exact hj)]
  simp [List.getD, hj]
/-- what points of places make -/
theorem syP_plc {p q : Nat → Bool} (hd : ∀ i, p i = true → q i = false) (v : Nat → UInt8) (n l : Nat) :
    syP (co ((plc p n).map pt ++ (plc q n).map pt)) (co ((plc p n).map v ++ (plc q n).map v)) (((plc p n).map pt).length + ((plc q n).map pt).length) l = S n (fun i => if p i || q i then mu (v i) (pwr (pt i) l) else 0) := by
  unfold syP
  rw [S_split, List.length_map, List.length_map]
  have e1 : S (plc p n).length (fun i => mu (co ((plc p n).map v ++ (plc q n).map v) i) (pwr (co ((plc p n).map pt ++ (plc q n).map pt) i) l)) = S n (fun i => if p i then mu (v i) (pwr (pt i) l) else 0) := by
    rw [← S_plc p (fun i => mu (v i) (pwr (pt i) l)), plc_length]
    exact S_congr fun i hi => by
      rw [← plc_length] at hi
      rw [co_append_lt (by rw [List.length_map]; exact hi), co_append_lt (by rw [List.length_map]; exact hi), co_map hi, co_map hi]
  have e2 : S (plc q n).length (fun i => mu (co ((plc p n).map v ++ (plc q n).map v) ((plc p n).length + i)) (pwr (co ((plc p n).map pt ++ (plc q n).map pt) ((plc p n).length + i)) l)) = S n (fun i => if q i then mu (v i) (pwr (pt i) l) else 0) := by
    rw [← S_plc q (fun i => mu (v i) (pwr (pt i) l)), plc_length q]
    exact S_congr fun i hi => by
      rw [← plc_length] at hi
      rw [co_append_ge (by rw [List.length_map]; omega), co_append_ge (by rw [List.length_map]; omega), List.length_map, List.length_map, Nat.add_sub_cancel_left, co_map hi, co_map hi]
  rw [e1, e2, ← S_xor]
  refine S_congr fun i hi => ?_
  cases a : p i
  · cases b : q i <;> simp
  · rw [hd i a]; simp
/-- points of unlike places are unlike -/
theorem pts_apart {p q : Nat → Bool} {n : Nat} (hn : n ≤ 256) (hd : ∀ i, p i = true → q i = false) : ∀ i j, i < ((plc p n).map pt).length + ((plc q n).map pt).length → j < ((plc p n).map pt).length + ((plc q n).map pt).length → i ≠ j →
    co ((plc p n).map pt ++ (plc q n).map pt) i ≠ co ((plc p n).map pt ++ (plc q n).map pt) j := by
  intro i j hi hj hne e
  rw [← List.map_append] at e
  rw [← List.length_append, ← List.map_append, List.length_map] at hi hj
  rw [co_map hi, co_map hj] at e
  have hnd : (plc p n ++ plc q n).Nodup := by
    rw [List.nodup_append]
    exact ⟨plc_nodup p n, plc_nodup q n, fun a ha b hb hab => by
      subst hab
      have := hd a (plc_mem.1 ha).2
      rw [(plc_mem.1 hb).2] at this
      cases this⟩
  have hlt : ∀ i, i < (plc p n ++ plc q n).length → (plc p n ++ plc q n).getD i 0 < 256 := fun i hi => by
    have hm := List.getElem_mem hi
    have : (plc p n ++ plc q n)[i] < n := by
      rcases List.mem_append.1 hm with h | h
      · exact (plc_mem.1 h).1
      · exact (plc_mem.1 h).1
    simp only [List.getD, List.getElem?_eq_getElem hi, Option.getD_some]
    omega
  have e2 := pt_inj (hlt i hi) (hlt j hj) e
  simp only [List.getD, List.getElem?_eq_getElem hi, List.getElem?_eq_getElem hj, Option.getD_some] at e2
  have hpw := List.pairwise_iff_getElem.1 hnd
  rcases Nat.lt_or_gt_of_ne hne with h | h
  · exact hpw i j hi hj h e2
  · exact hpw j i hj hi h e2.symm
/-- by what a place is wrong, times its weight -/
def byF (k m : Nat) (z c : Nat → UInt8) (i : Nat) : UInt8 := mu (z i ^^^ c i) (wtF k m i)
/-- a word near one of the code: its syndromes -/
theorem near_sy {k m : Nat} {z c : Nat → UInt8} {ms : Nat → Bool} (hc : CodeW k m c) : SyOf (upto (synF k m z) m) ((plc (wrg z c ms) (k + m)).map pt) ((plc ms (k + m)).map pt) ((plc (wrg z c ms) (k + m)).map (byF k m z c)) ((plc ms (k + m)).map (byF k m z c)) := by
  intro l hl
  rw [upto_length] at hl
  rw [co_upto_in hl, syP_plc (fun i h => by unfold wrg at h; simp at h; exact h.1)]
  have e : synF k m z l = synF k m (fun i => z i ^^^ c i) l := by
    have := synF_add (k := k) (m := m) (l := l) (z := z) (y := c) (x := fun i => z i ^^^ c i) (fun i _ => rfl)
    rw [this, hc l hl, x_zero]
  rw [e]
  unfold synF
  refine S_congr fun i hi => ?_
  rw [nmF_one_pwr]
  by_cases h : wrg z c ms i || ms i
  · rw [if_pos h]; rfl
  · rw [if_neg h]
    have h0 : c i = z i := by
      refine Classical.byContradiction fun q => h ?_
      cases em : ms i <;> simp [wrg, em, q]
    show mu (mu (z i ^^^ c i) (wtF k m i)) (pwr (pt i) l) = 0
    rw [h0, x_self, zero_mu, zero_mu]
/-- what the equation tells of a word near one of the code: its locator is that of the places that are wrong -/
theorem near_key {k m : Nat} {z c : Nat → UInt8} {ms : Nat → Bool} (h2 : k + m ≤ 256) (hc : Near k m z ms c) :
    KeyAns (upto (synF k m z) m) (locL ((plc ms (k + m)).map pt)) 0 (locL ((plc (wrg z c ms) (k + m)).map pt))
      (evaL (upto (synF k m z) m) (locL ((plc ms (k + m)).map pt)) ((plc (wrg z c ms) (k + m)).map pt).length (locF (co ((plc (wrg z c ms) (k + m)).map pt ++ (plc ms (k + m)).map pt)) ((plc (wrg z c ms) (k + m)).map pt).length)) := by
  have hf := hc.few
  refine find_ok (near_sy hc.code) (by rw [upto_length, List.length_map, List.length_map, plc_length, plc_length]; exact hf) (by rw [List.length_map, List.length_map]) (pts_apart h2 (fun i h => by unfold wrg at h; simp at h; exact h.1)) fun i hi => ?_
  rw [List.length_map] at hi
  rw [co_map hi]
  have hm : (plc (wrg z c ms) (k + m)).getD i 0 ∈ plc (wrg z c ms) (k + m) := by
    simp only [List.getD, List.getElem?_eq_getElem hi, Option.getD_some]
    exact List.getElem_mem hi
  obtain ⟨g1, g2⟩ := plc_mem.1 hm
  generalize (plc (wrg z c ms) (k + m)).getD i 0 = r at *
  unfold wrg at g2
  simp at g2
  unfold byF
  exact mu_ne (fun q => g2.2 (x_eq_zero.1 q).symm) (wtF_ne h2 (by omega))
/-- a word whose syndromes are made by the points of some places, taken off there, is one of the code -/
theorem sy_code {k m : Nat} {z v : Nat → UInt8} {p q : Nat → Bool} (h2 : k + m ≤ 256) (hd : ∀ i, p i = true → q i = false)
    (hs : SyOf (upto (synF k m z) m) ((plc p (k + m)).map pt) ((plc q (k + m)).map pt) ((plc p (k + m)).map v) ((plc q (k + m)).map v)) :
    CodeW k m (fun i => z i ^^^ (if p i || q i then mu (v i) (iv (wtF k m i)) else 0)) := by
  intro l hl
  have e := hs l (by rw [upto_length]; exact hl)
  rw [co_upto_in hl, syP_plc hd] at e
  rw [synF_add (z := z) (y := fun i => if p i || q i then mu (v i) (iv (wtF k m i)) else 0) (fun i _ => rfl), e]
  unfold synF
  rw [← S_xor]
  refine S_zero fun i hi => ?_
  show (if p i || q i then mu (v i) (pwr (pt i) l) else 0) ^^^ mu (mu (if p i || q i then mu (v i) (iv (wtF k m i)) else 0) (wtF k m i)) (nmF 1 (pt i) l) = 0
  by_cases h : (p i || q i) = true
  · rw [if_pos h, if_pos h, mu_assoc (v i), mu_comm (iv _), mu_iv (wtF_ne h2 (by omega)), mu_one, nmF_one_pwr, x_self]
  · rw [if_neg h, if_neg h, zero_mu, zero_mu, x_self]
end Go.Proofs.YtddnfhfangfgeaaGreat.Gf

namespace Go.Proofs.YtddnfhfangfgeaaGreat.Gf
set_option linter.unusedVariables false
set_option linter.unusedSimpArgs false
/-- there is a word of the code near -/
def IsNear (k m : Nat) (z : List UInt8) (ms : List Bool) : Prop := ∃ c, Near k m (co z) (hb ms) c
/-- the word, and its places are as many as they must be -/
def OkW (k m : Int) (z : List UInt8) (ms : List Bool) : Prop := (z.length : Int) = k + m ∧ (ms.length : Int) = k + m
noncomputable def nearF (k m : Nat) (z : List UInt8) (ms : List Bool) : Nat → UInt8 := by
  classical
  exact if h : IsNear k m z ms then h.choose else fun _ => 0
theorem nearF_is {k m : Nat} {z : List UInt8} {ms : List Bool} (h : IsNear k m z ms) : Near k m (co z) (hb ms) (nearF k m z ms) := by
  unfold nearF
  rw [dif_pos h]
  exact h.choose_spec
open Classical in
noncomputable def wdX (k m : Int) (z : List UInt8) (ms : List Bool) : Int := if OkC k m then (if OkW k m z ms then (if IsNear k.toNat m.toNat z ms then 0 else 100) else 60) else 50
open Classical in
noncomputable def wdR (k m : Int) (z : List UInt8) (ms : List Bool) : List UInt8 := if OkC k m ∧ OkW k m z ms ∧ IsNear k.toNat m.toNat z ms then upto (nearF k.toNat m.toNat z ms) (k.toNat + m.toNat) else []
open Classical in
noncomputable def wdP (k m : Int) (z : List UInt8) (ms : List Bool) : List Nat := if OkC k m ∧ OkW k m z ms ∧ IsNear k.toNat m.toNat z ms then plc (wrg (co z) (nearF k.toNat m.toNat z ms) (hb ms)) (k.toNat + m.toNat) else []
theorem wd_many {k m : Nat} {z : List UInt8} {ms : List Bool} (c : OkC k m) (d : OkW k m z ms) (e : ¬ IsNear k m z ms) : wdX k m z ms = 100 ∧ wdR k m z ms = [] ∧ wdP k m z ms = [] :=
  ⟨by unfold wdX; rw [if_pos c, if_pos d]; exact if_neg e, by unfold wdR; rw [if_neg fun q => e q.2.2], by unfold wdP; rw [if_neg fun q => e q.2.2]⟩
/-- whichever near one is found is the one that is told -/
theorem wd_ok {k m : Nat} {z : List UInt8} {ms : List Bool} {c : Nat → UInt8} (o : OkC k m) (d : OkW k m z ms) (h : Near k m (co z) (hb ms) c) : wdX k m z ms = 0 ∧ wdR k m z ms = upto c (k + m) ∧ wdP k m z ms = plc (wrg (co z) c (hb ms)) (k + m) := by
  have hI : IsNear k m z ms := ⟨c, h⟩
  have h2 : k + m ≤ 256 := by have := o.2.2; omega
  have hu := (nearF_is hI).unique h2 h
  refine ⟨by unfold wdX; rw [if_pos o, if_pos d]; exact if_pos hI, ?_, ?_⟩
  · unfold wdR
    rw [if_pos ⟨o, d, hI⟩]
    exact upto_congr fun i hi => hu i hi
  · unfold wdP
    rw [if_pos ⟨o, d, hI⟩]
    show plc (wrg (co z) (nearF k m z ms) (hb ms)) (k + m) = _
    unfold plc
    refine List.filter_congr fun i hi => ?_
    unfold wrg
    rw [hu i (List.mem_range.1 hi)]
end Go.Proofs.YtddnfhfangfgeaaGreat.Gf

namespace Go.Proofs.YtddnfhfangfgeaaGreat.Gf
set_option linter.unusedVariables false
set_option linter.unusedSimpArgs false
theorem iv_mu10 {a b : UInt8} (ha : a ≠ 0) (hb : b ≠ 0) : iv (mu a b) = mu (iv a) (iv b) := by
  have h1 : mu (mu a b) (iv (mu a b)) = 1 := mu_iv (mu_ne ha hb)
  have h2 : mu (mu a b) (mu (iv a) (iv b)) = 1 := by
    rw [mu_assoc, mu_comm (iv a), ← mu_assoc b, mu_iv hb, one_mu, mu_iv ha]
  have h3 : mu (iv (mu a b)) (mu (mu a b) (mu (iv a) (iv b))) = mu (iv a) (iv b) := by
    rw [← mu_assoc, mu_comm (iv (mu a b)), h1, one_mu]
  rw [h2, mu_one] at h3
  exact h3
/-- the places that are there at whose points a polynomial is 0 -/
def rtF (A : List UInt8) (ms : Nat → Bool) (i : Nat) : Bool := !ms i && decide (evP A (pt i) = 0)
theorem rtF_not {A : List UInt8} {ms : Nat → Bool} {i : Nat} (h : rtF A ms i = true) : ms i = false := by unfold rtF at h; simp at h; exact h.1
theorem rtF_root {A : List UInt8} {ms : Nat → Bool} {i : Nat} (h : rtF A ms i = true) : evP A (pt i) = 0 := by unfold rtF at h; simp at h; exact h.2
theorem getD_mem {L : List Nat} {j : Nat} (hj : j < L.length) : L.getD j 0 ∈ L := by
  simp only [List.getD, List.getElem?_eq_getElem hj, Option.getD_some]
  exact List.getElem_mem hj
/-- a locator's roots are its places -/
theorem root_of {p : Nat → Bool} {n i : Nat} (hn : n ≤ 256) (hi : i < n) : evP (locL ((plc p n).map pt)) (pt i) = 0 ↔ p i = true := by
  rw [evP_loc, PD_zero]
  constructor
  · rintro ⟨j, hj, e⟩
    rw [List.length_map] at hj
    rw [co_map hj] at e
    obtain ⟨g1, g2⟩ := plc_mem.1 (getD_mem hj)
    rw [pt_inj (by omega) (by omega) e] at g2
    exact g2
  · intro h
    obtain ⟨j, hj, e⟩ := List.getElem_of_mem (plc_mem.2 ⟨hi, h⟩)
    refine ⟨j, by rw [List.length_map]; exact hj, ?_⟩
    rw [co_map hj]
    simp [List.getD, hj, e]
/-- what the equation tells of a word near one of the code -/
theorem near_roots {k m : Nat} {z c : Nat → UInt8} {ms : Nat → Bool} {X : Int} {A O : List UInt8} (h2 : k + m ≤ 256) (hc : Near k m z ms c) (hK : KeyAns (upto (synF k m z) m) (locL ((plc ms (k + m)).map pt)) X A O) :
    X = 0 ∧ plc (rtF A ms) (k + m) = plc (wrg z c ms) (k + m) ∧ A.length = cnt (rtF A ms) (k + m) + 1 := by
  obtain ⟨e1, e2, e3⟩ := (near_key h2 hc).unique hK
  have e4 : plc (rtF A ms) (k + m) = plc (wrg z c ms) (k + m) := by
    unfold plc
    refine List.filter_congr fun i hi => ?_
    have hi' := List.mem_range.1 hi
    have := root_of (p := wrg z c ms) h2 hi'
    rw [← e2] at this
    unfold rtF
    cases em : ms i
    · rw [Bool.not_false, Bool.true_and, Bool.eq_iff_iff, decide_eq_true_eq]; exact this
    · unfold wrg; rw [em]; rfl
  refine ⟨e1, e4, ?_⟩
  rw [← plc_length, e4, e2]
  unfold locL
  rw [locN_length, List.length_map]
/-- by what a place differs -/
def dfF (k m : Nat) (O D : List UInt8) (i : Nat) : UInt8 := mu (evP O (pt i)) (iv (mu (evP D (pt i)) (wtF k m i)))
/-- the word put right -/
def rtW (k m : Nat) (z : Nat → UInt8) (A O D : List UInt8) (ms : Nat → Bool) (i : Nat) : UInt8 := z i ^^^ (if rtF A ms i || ms i then dfF k m O D i else 0)
theorem roots_near {k m : Nat} {z : Nat → UInt8} {ms : Nat → Bool} {A O : List UInt8} (h2 : k + m ≤ 256) (hK : KeyAns (upto (synF k m z) m) (locL ((plc ms (k + m)).map pt)) 0 A O) (hr : A.length ≤ cnt (rtF A ms) (k + m) + 1) :
    Near k m z ms (rtW k m z A O (derP (mulP A (locL ((plc ms (k + m)).map pt)))) ms) ∧ ∀ i, i < k + m → (rtF A ms i || ms i) = true → mu (evP (derP (mulP A (locL ((plc ms (k + m)).map pt)))) (pt i)) (wtF k m i) ≠ 0 := by
  rcases hK with ⟨_, h, _⟩ | ⟨b, t, L, hl, _, eA, eO⟩ | ⟨_, _, h, _⟩
  · cases h
  · have hnd : ∀ i, rtF A ms i = true → ms i = false := fun i => rtF_not
    have hap := pts_apart (n := k + m) h2 hnd
    have hpl : ((plc (rtF A ms) (k + m)).map pt).length = cnt (rtF A ms) (k + m) := by rw [List.length_map, plc_length]
    have hkl : ((plc ms (k + m)).map pt).length = cnt ms (k + m) := by rw [List.length_map, plc_length]
    have hco : co A = L := by rw [eA]; exact funext fun i => co_upto hl.loc.fin i
    have hAl : A.length = t + 1 := by rw [eA, upto_length]
    have hroot : ∀ j, j < cnt (rtF A ms) (k + m) → ev (t + 1) L (co ((plc (rtF A ms) (k + m)).map pt) j) = 0 := fun j hj => by
      rw [← plc_length] at hj
      rw [co_map hj]
      have := rtF_root (plc_mem.1 (getD_mem hj)).2
      unfold evP at this
      rw [hAl, hco] at this
      exact this
    have hdist : ∀ i j, i < cnt (rtF A ms) (k + m) → j < cnt (rtF A ms) (k + m) → i ≠ j → co ((plc (rtF A ms) (k + m)).map pt) i ≠ co ((plc (rtF A ms) (k + m)).map pt) j := fun i j hi hj hne => by
      have := hap i j (by omega) (by omega) hne
      rw [co_append_lt (by omega), co_append_lt (by omega)] at this
      exact this
    have hT : cnt (rtF A ms) (k + m) = t := by
      refine Nat.le_antisymm (Nat.le_of_not_lt fun hlt => ?_) (by omega)
      have := roots_all hl.loc.fin (co ((plc (rtF A ms) (k + m)).map pt)) (fun i j hi hj => hdist i j (by omega) (by omega)) (fun i hi => hroot i (by omega)) t
      rw [hl.loc.top] at this
      cases this
    have hLl : L = locF (co ((plc (rtF A ms) (k + m)).map pt)) t := by
      have hD : Fin0 (addF L (locF (co ((plc (rtF A ms) (k + m)).map pt)) t)) t := fun i hi => by
        rw [addF_at]
        by_cases e0 : i = t
        · rw [e0, hl.loc.top, locF_top, x_self]
        · rw [hl.loc.fin i (by omega), locF_fin _ t i (by omega), x_self]
      have := roots_all hD (co ((plc (rtF A ms) (k + m)).map pt)) (fun i j hi hj => hdist i j (by omega) (by omega)) (fun i hi => by
        rw [← ev_more _ hD (show t ≤ t + 1 by omega), ev_add, hroot i (by omega), ev_loc, PD_zero.2 ⟨i, hi, rfl⟩]; rfl)
      funext i
      exact x_eq_zero.1 (this i)
    have hAL : A = locL ((plc (rtF A ms) (k + m)).map pt) := by
      rw [eA]
      unfold locL locN
      rw [← eA, hpl, hT, ← hLl]
      exact eA
    have hf := hl.few
    rw [upto_length, find_norm, Nat.add_sub_cancel, hkl] at hf
    obtain ⟨D, hD⟩ : ∃ D, D = derP (mulP A (locL ((plc ms (k + m)).map pt))) := ⟨_, rfl⟩
    have hDD : D = derP (mulP (locL ((plc (rtF A ms) (k + m)).map pt)) (locL ((plc ms (k + m)).map pt))) := by rw [hD]; congr 2
    have spot : ∀ j, j < ((plc (rtF A ms) (k + m)).map pt).length + ((plc ms (k + m)).map pt).length → co ((plc (rtF A ms) (k + m)).map pt ++ (plc ms (k + m)).map pt) j = pt ((plc (rtF A ms) (k + m) ++ plc ms (k + m)).getD j 0) := fun j hj => by
      rw [← List.map_append, co_map (by rw [List.length_map, List.length_map] at hj; rw [List.length_append]; exact hj)]
    have hDne : ∀ i, i < k + m → (rtF A ms i || ms i) = true → evP D (pt i) ≠ 0 := fun i hi hp => by
      have hmem : i ∈ plc (rtF A ms) (k + m) ++ plc ms (k + m) := by
        rw [Bool.or_eq_true] at hp
        rcases hp with h | h
        · exact List.mem_append_left _ (plc_mem.2 ⟨hi, h⟩)
        · exact List.mem_append_right _ (plc_mem.2 ⟨hi, h⟩)
      obtain ⟨j, hj, ej⟩ := List.getElem_of_mem hmem
      have hj' : j < ((plc (rtF A ms) (k + m)).map pt).length + ((plc ms (k + m)).map pt).length := by rw [List.length_map, List.length_map, ← List.length_append]; exact hj
      have h5 := find_der ((plc (rtF A ms) (k + m)).map pt) ((plc ms (k + m)).map pt) hj'
      have h6 := find_ne hap hj'
      rw [spot j hj', ← hDD] at h5
      rw [spot j hj'] at h6
      have h7 : (plc (rtF A ms) (k + m) ++ plc ms (k + m)).getD j 0 = i := by
        simp only [List.getD, List.getElem?_eq_getElem hj, Option.getD_some]
        exact ej
      rw [h7] at h5 h6
      rw [h5]
      exact h6
    have hw : ∀ i, i < k + m → (rtF A ms i || ms i) = true → mu (evP D (pt i)) (wtF k m i) ≠ 0 := fun i hi hp => mu_ne (hDne i hi hp) (wtF_ne h2 (by omega))
    have hs := find_made (s := upto (synF k m z) m) (pts := (plc (rtF A ms) (k + m)).map pt) (ks := (plc ms (k + m)).map pt) (bs := (plc (rtF A ms) (k + m)).map (fun i => mu (evP O (pt i)) (iv (evP D (pt i))))) (zs := (plc ms (k + m)).map (fun i => mu (evP O (pt i)) (iv (evP D (pt i)))))
      (by rw [hpl, hkl, upto_length]; omega) hap (fun j h1 h3 => by
        have := hl.loc.zero j (by rw [find_norm, hkl]; omega) h3
        rw [hpl, hT, ← hLl]
        exact this) (fun j hj => by
        have h5 := find_der ((plc (rtF A ms) (k + m)).map pt) ((plc ms (k + m)).map pt) hj
        have h6 := find_ne hap hj
        rw [← hDD] at h5
        rw [← List.map_append (f := fun i => mu (evP O (pt i)) (iv (evP D (pt i)))), co_map (by rw [List.length_map, List.length_map] at hj; rw [List.length_append]; exact hj)]
        rw [← h5] at h6 ⊢
        rw [spot j hj] at h6 ⊢
        show mu (mu (evP O _) (iv (evP D _))) (evP D _) = _
        rw [mu_assoc, mu_comm (iv _), mu_iv h6, mu_one, eO, hpl, hT, ← hLl])
    have hcode := sy_code h2 hnd hs
    rw [← hD]
    refine ⟨⟨hcode.congr fun i hi => ?_, ?_⟩, hw⟩
    · unfold rtW dfF
      congr 1
      by_cases hp : (rtF A ms i || ms i) = true
      · rw [if_pos hp, if_pos hp, iv_mu10 (hDne i hi hp) (wtF_ne h2 (by omega)), mu_assoc]
      · rw [if_neg hp, if_neg hp]
    · have : cnt (wrg z (rtW k m z A O D ms) ms) (k + m) ≤ cnt (rtF A ms) (k + m) := cnt_mono fun i hi hwr => by
        unfold wrg at hwr
        simp only [Bool.and_eq_true, Bool.not_eq_true', decide_eq_true_eq] at hwr
        refine Classical.byContradiction fun q => hwr.2 ?_
        unfold rtW
        rw [if_neg (by simp [q, hwr.1]), x_zero]
      omega
  · cases h
/-- .. and the places that are told are those that differ -/
theorem roots_told {k m : Nat} {z : Nat → UInt8} {ms : Nat → Bool} {A O : List UInt8} (h2 : k + m ≤ 256) (hK : KeyAns (upto (synF k m z) m) (locL ((plc ms (k + m)).map pt)) 0 A O) (hr : A.length ≤ cnt (rtF A ms) (k + m) + 1) :
    plc (rtF A ms) (k + m) = plc (wrg z (rtW k m z A O (derP (mulP A (locL ((plc ms (k + m)).map pt)))) ms) ms) (k + m) := (near_roots h2 (roots_near h2 hK hr).1 hK).2.1
end Go.Proofs.YtddnfhfangfgeaaGreat.Gf
