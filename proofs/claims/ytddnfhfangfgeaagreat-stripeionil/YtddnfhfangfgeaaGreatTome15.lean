/- TEXTS JOINED: KeLoc, KeFind, KeMakes, KeEuc. -/
import Derived.KernelRfl
import Derived.Test.YtddnfhfangfgeaaGreatChecked
import GoSem.Claim
import GoSem.ClaimJoined
import GoSem.ClaimMapViews
import Derived.JoinedTies
import Derived.WalkKit
import Derived.Deep.QuietTactic
import Derived.BigQuiet
import Derived.WalkLawsBesides
import Derived.WalkSpells
import Derived.OpenShut
import Derived.Test.YtddnfhfangfgeaaGreatRows
import Derived.Test.YtddnfhfangfgeaaGreatTome2
import Derived.Test.YtddnfhfangfgeaaGreatTome6
import Derived.Test.YtddnfhfangfgeaaGreatTome9
import Derived.Test.YtddnfhfangfgeaaGreatTome14
import Derived.Deep.AppendLies
import Derived.Laws.CopyOwn
import Derived.Laws.AppendOwnNone
import Derived.Deep.RegionHeld3
import Derived.Test.YtddnfhfangfgeaaGreatTome3
namespace Go.Proofs.YtddnfhfangfgeaaGreat.Gf
set_option linter.unusedVariables false
set_option linter.unusedSimpArgs false
/-- x and a number -/
def linF (x : UInt8) (i : Nat) : UInt8 := if i = 0 then x else if i = 1 then 1 else 0
theorem co_lin (x : UInt8) : co [x, 1] = linF x := by
  funext i
  rcases i with _ | _ | i
  · rfl
  · rfl
  · rw [co_ge (by simp)]; unfold linF; rw [if_neg (by omega), if_neg (by omega)]
theorem linF_fin (x : UInt8) : Fin0 (linF x) 2 := fun i hi => by unfold linF; rw [if_neg (by omega), if_neg (by omega)]
theorem lin_conv_zero (x : UInt8) (g : Nat → UInt8) : conv (linF x) g 0 = mu x (g 0) := by
  show S 1 _ = _
  rw [S, S, zero_x]; rfl
theorem lin_conv_succ (x : UInt8) (g : Nat → UInt8) (j : Nat) : conv (linF x) g (j + 1) = mu x (g (j + 1)) ^^^ g j := by
  unfold conv
  rw [S_head]
  congr 1
  rw [S_one (k := 0) (by omega) (fun i _ hi => by unfold linF; rw [if_neg (by omega), if_neg (by omega), zero_mu])]
  show mu 1 (g (j + 1 - (0 + 1))) = g j
  rw [one_mu]; rfl
theorem ev_lin (y x : UInt8) : ev 2 (linF y) x = x ^^^ y := by
  unfold ev
  rw [S, S, S, zero_x]
  show mu y (pwr x 0) ^^^ mu 1 (pwr x 1) = _
  show mu y 1 ^^^ mu 1 (mu 1 x) = _
  rw [mu_one, one_mu, one_mu, x_comm]
theorem ev_one (x : UInt8) : ev 1 (cst 1) x = 1 := by
  unfold ev
  rw [S, S, zero_x]
  show mu 1 1 = 1
  rw [one_mu]
/-- the product of x and each of the first n points -/
def locF (a : Nat → UInt8) : Nat → Nat → UInt8
  | 0 => cst 1
  | n + 1 => conv (locF a n) (linF (a n))
theorem locF_fin (a : Nat → UInt8) (n : Nat) : Fin0 (locF a n) (n + 1) := by
  induction n with
  | zero => exact fun i hi => cst_ne (by omega)
  | succ n ih => exact (ih.conv (linF_fin (a n))).mono (by omega)
theorem locF_top (a : Nat → UInt8) (n : Nat) : locF a n n = 1 := by
  induction n with
  | zero => rfl
  | succ n ih => rw [locF, conv_top (locF_fin a n) (linF_fin (a n)), ih, one_mu]; rfl
theorem locF_congr {a b : Nat → UInt8} {n : Nat} (h : ∀ i, i < n → a i = b i) : locF a n = locF b n := by
  induction n with
  | zero => rfl
  | succ n ih => rw [locF, locF, ih (fun i hi => h i (by omega)), h n (by omega)]
theorem locF_append (a : Nat → UInt8) (t n : Nat) : locF a (t + n) = conv (locF a t) (locF (fun i => a (t + i)) n) := by
  induction n with
  | zero => rw [Nat.add_zero, locF, conv_comm, one_conv]; funext j; rw [one_mu]
  | succ n ih => rw [← Nat.add_assoc, locF, ih, locF, conv_assoc]
theorem ev_loc (a : Nat → UInt8) (n : Nat) (x : UInt8) : ev (n + 1) (locF a n) x = PD a n x := by
  induction n with
  | zero => exact ev_one x
  | succ n ih =>
    have := ev_conv x (locF_fin a n) (linF_fin (a n))
    rw [ev_more x (f := conv (locF a n) (linF (a n))) (n := n + 1 + 1) (m := n + 1 + 2) ((locF_fin a n).conv (linF_fin (a n)) |>.mono (by omega)) (by omega)] at this
    rw [locF, this, ih, ev_lin, mu_comm, PD]
theorem PD_zero {a : Nat → UInt8} {n : Nat} {x : UInt8} : PD a n x = 0 ↔ ∃ i, i < n ∧ a i = x := by
  induction n with
  | zero => exact ⟨fun h => absurd (show (1 : UInt8) = 0 from h) (by decide), fun ⟨i, h, _⟩ => by omega⟩
  | succ n ih =>
    rw [PD, mu_eq_zero, ih]
    constructor
    · rintro (h | ⟨i, h1, h2⟩)
      · exact ⟨n, by omega, (x_eq_zero.1 h).symm⟩
      · exact ⟨i, by omega, h2⟩
    · rintro ⟨i, h1, h2⟩
      by_cases e : i = n
      · subst e; exact Or.inl (x_eq_zero.2 h2.symm)
      · exact Or.inr ⟨i, by omega, h2⟩
/-- the locator as a list -/
def locN (a : Nat → UInt8) (n : Nat) : List UInt8 := upto (locF a n) (n + 1)
def locL (ps : List UInt8) : List UInt8 := locN (co ps) ps.length
theorem co_locN (a : Nat → UInt8) (n : Nat) : co (locN a n) = locF a n := funext fun i => co_upto (locF_fin a n) i
theorem locN_length (a : Nat → UInt8) (n : Nat) : (locN a n).length = n + 1 := upto_length _ _
theorem locN_succ (a : Nat → UInt8) (n : Nat) : mulP (locN a n) [a n, 1] = locN a (n + 1) := by
  have e : conv (co (locN a n)) (co [a n, 1]) = locF a (n + 1) := by rw [co_locN, co_lin]; rfl
  have hl : (mulP (locN a n) [a n, 1]).length = n + 2 := by
    unfold mulP
    rw [mk_length, e]
    exact deg_unique ((locF_fin a (n + 1)).mono (by rw [locN_length]; simp)) (locF_fin a (n + 1)) (fun _ => by show locF a (n + 1) (n + 1) ≠ 0; rw [locF_top]; decide)
  refine co_ext (by rw [hl, locN_length]) fun i _ => ?_
  rw [co_mulP, e, co_locN]
theorem norm_locN (a : Nat → UInt8) (n : Nat) : norm (locN a n) = locN a n := by
  have hd : deg (co (locN a n)) (locN a n).length = n + 1 := by
    rw [co_locN]
    exact deg_unique ((locF_fin a n).mono (by rw [locN_length]; omega)) (locF_fin a n) (fun _ => by show locF a n n ≠ 0; rw [locF_top]; decide)
  refine co_ext (by unfold norm; rw [mk_length, hd, locN_length]) fun i _ => ?_
  rw [co_norm]
theorem evP_loc (ps : List UInt8) (x : UInt8) : evP (locL ps) x = PD (co ps) ps.length x := by
  unfold evP locL
  rw [locN_length, co_locN, ev_loc]
theorem root_div {f : Nat → UInt8} {n : Nat} (h : Fin0 f (n + 1)) (r : UInt8) (hr : ev (n + 1) f r = 0) : ∃ g, Fin0 g n ∧ f = conv (linF r) g := by
  refine ⟨fun i => S (n + 1) (fun k => if i < k then mu (f k) (pwr r (k - 1 - i)) else 0), fun i hi => S_zero fun k hk => if_neg (by omega), ?_⟩
  funext i
  cases i with
  | zero =>
    rw [lin_conv_zero, mu_S]
    have e : S (n + 1) (fun k => mu r (if 0 < k then mu (f k) (pwr r (k - 1 - 0)) else 0)) = S (n + 1) (fun k => mu (f k) (pwr r k) ^^^ (if k = 0 then f 0 else 0)) := S_congr fun k hk => by
      cases k with
      | zero => rw [if_neg (by omega), if_pos rfl, mu_zero]; show 0 = mu (f 0) 1 ^^^ f 0; rw [mu_one, x_self]
      | succ k => rw [if_pos (by omega), if_neg (by omega), x_zero, Nat.add_sub_cancel, Nat.sub_zero, pwr, mu_left, mu_comm r]
    rw [e, S_xor, S_one (k := 0) (by omega) (fun k _ hk => if_neg hk), if_pos rfl]
    have : S (n + 1) (fun k => mu (f k) (pwr r k)) = 0 := hr
    rw [this, zero_x]
  | succ i =>
    rw [lin_conv_succ, mu_S, ← S_xor]
    have e : S (n + 1) (fun k => mu r (if i + 1 < k then mu (f k) (pwr r (k - 1 - (i + 1))) else 0) ^^^ (if i < k then mu (f k) (pwr r (k - 1 - i)) else 0)) = S (n + 1) (fun k => if k = i + 1 then f (i + 1) else 0) := S_congr fun k hk => by
      by_cases h1 : i + 1 < k
      · rw [if_pos h1, if_pos (by omega), if_neg (by omega), show k - 1 - i = (k - 1 - (i + 1)) + 1 by omega, pwr, mu_left, mu_comm r, x_self]
      · rw [if_neg h1, mu_zero, zero_x]
        by_cases h2 : k = i + 1
        · subst h2; rw [if_pos (by omega), if_pos rfl, show i + 1 - 1 - i = 0 by omega]; exact mu_one _
        · rw [if_neg (by omega), if_neg h2]
    rw [e]
    by_cases hi : i + 1 < n + 1
    · rw [S_one (k := i + 1) hi (fun k _ hk => if_neg hk), if_pos rfl]
    · rw [h (i + 1) (by omega)]
      exact (S_zero fun k hk => if_neg (by omega)).symm
theorem roots_all {n : Nat} {f : Nat → UInt8} (h : Fin0 f n) (rs : Nat → UInt8) (hd : ∀ i j, i < n → j < n → i ≠ j → rs i ≠ rs j) (hr : ∀ i, i < n → ev n f (rs i) = 0) : ∀ i, f i = 0 := by
  induction n generalizing f with
  | zero => exact fun i => h i (Nat.zero_le _)
  | succ n ih =>
    obtain ⟨g, hg, e⟩ := root_div h (rs n) (hr n (by omega))
    have h0 := ih hg (fun i j hi hj => hd i j (by omega) (by omega)) (fun i hi => by
      have h1 := hr i (by omega)
      have h2 := ev_conv (rs i) (linF_fin (rs n)) hg
      rw [← e, ev_more (rs i) h (show n + 1 ≤ 2 + n by omega), h1, ev_lin] at h2
      rcases mu_eq_zero.1 h2.symm with h3 | h3
      · exact absurd (x_eq_zero.1 h3) (hd i n (by omega) (by omega) (by omega))
      · exact h3)
    intro i
    rw [e]; exact conv_zero h0 i
def peF (a : Nat → UInt8) (j : Nat) : Nat → Nat → UInt8
  | 0 => cst 1
  | n + 1 => if n = j then peF a j n else conv (peF a j n) (linF (a n))
theorem peF_fin (a : Nat → UInt8) (j n : Nat) : (n ≤ j → Fin0 (peF a j n) (n + 1)) ∧ (j < n → Fin0 (peF a j n) n) := by
  induction n with
  | zero => exact ⟨fun _ i hi => cst_ne (by omega), fun h => by omega⟩
  | succ n ih =>
    refine ⟨fun h => ?_, fun h => ?_⟩
    · rw [peF, if_neg (by omega)]; exact ((ih.1 (by omega)).conv (linF_fin (a n))).mono (by omega)
    · rw [peF]
      by_cases e : n = j
      · rw [if_pos e]; exact ih.1 (by omega)
      · rw [if_neg e]; exact ((ih.2 (by omega)).conv (linF_fin (a n))).mono (by omega)
theorem peF_far (a : Nat → UInt8) (j n : Nat) (h : n ≤ j) : peF a j n = locF a n := by
  induction n with
  | zero => rfl
  | succ n ih => rw [peF, if_neg (by omega), ih (by omega), locF]
theorem peF_mul (a : Nat → UInt8) {j n : Nat} (h : j < n) : locF a n = conv (peF a j n) (linF (a j)) := by
  induction n with
  | zero => omega
  | succ n ih =>
    by_cases e : n = j
    · subst e; rw [peF, if_pos rfl, peF_far a n n (Nat.le_refl _), locF]
    · rw [peF, if_neg e, locF, ih (by omega), conv_assoc, conv_assoc, conv_comm (linF (a j))]
theorem ev_pe (a : Nat → UInt8) (j n : Nat) (x : UInt8) : ev (n + 1) (peF a j n) x = PE a j n x := by
  induction n with
  | zero => exact ev_one x
  | succ n ih =>
    have hf : Fin0 (peF a j n) (n + 1) := by
      rcases Nat.lt_or_ge j n with h | h
      · exact ((peF_fin a j n).2 h).mono (by omega)
      · exact (peF_fin a j n).1 h
    rw [peF, PE]
    by_cases e : n = j
    · rw [if_pos e, if_pos e, ev_more x hf (by omega), ih]
    · rw [if_neg e, if_neg e]
      have := ev_conv x hf (linF_fin (a n))
      rw [ev_more x (f := conv (peF a j n) (linF (a n))) (n := n + 1 + 1) (m := n + 1 + 2) ((hf.conv (linF_fin (a n))).mono (by omega)) (by omega)] at this
      rw [this, ih, ev_lin, mu_comm]
theorem ev_pe' {a : Nat → UInt8} {j n : Nat} (h : j < n) (x : UInt8) : ev n (peF a j n) x = PE a j n x := by
  rw [← ev_pe]; exact (ev_more x ((peF_fin a j n).2 h) (by omega)).symm
theorem der_lin (x : UInt8) : der (linF x) = cst 1 := by
  funext i
  cases i with
  | zero => rfl
  | succ i =>
    unfold der
    rw [linF_fin x (i + 1 + 1) (by omega), cst_ne (by omega)]
    unfold od; split <;> rfl
/-- a locator's derivative at a point of its own -/
theorem ev_der {a : Nat → UInt8} {j n : Nat} (h : j < n) : ev (n + 2) (der (locF a n)) (a j) = PE a j n (a j) := by
  have hf := (peF_fin a j n).2 h
  rw [peF_mul a h, der_conv, der_lin, conv_comm (peF a j n) (cst 1), one_conv, ev_add]
  have e1 : ev (n + 2) (conv (der (peF a j n)) (linF (a j))) (a j) = 0 := by
    rw [ev_conv (a j) (hf.der.mono (by omega)) (linF_fin (a j)), ev_lin, x_self, mu_zero]
  have e2 : ev (n + 2) (fun i => mu 1 (peF a j n i)) (a j) = ev (n + 2) (peF a j n) (a j) := S_congr fun i _ => by show mu (mu 1 _) _ = _; rw [one_mu]
  rw [e1, e2, zero_x, ev_more (a j) hf (by omega), ev_pe' h]
def syP (a bv : Nat → UInt8) (N l : Nat) : UInt8 := S N (fun i => mu (bv i) (pwr (a i) l))
def geoF (x : UInt8) (m j : Nat) : UInt8 := if j < m then pwr x (m - 1 - j) else 0
theorem lin_geo (x : UInt8) (m j : Nat) : conv (linF x) (geoF x m) j = (if j = m then 1 else 0) ^^^ (if j = 0 then pwr x m else 0) := by
  cases j with
  | zero =>
    rw [lin_conv_zero, if_pos rfl]
    unfold geoF
    cases m with
    | zero => rw [if_neg (by omega), if_pos rfl, mu_zero]; exact (x_self 1).symm
    | succ m => rw [if_pos (by omega), if_neg (by omega), zero_x, Nat.add_sub_cancel, Nat.sub_zero, pwr, mu_comm]
  | succ j =>
    rw [lin_conv_succ, if_neg (show ¬ j + 1 = 0 by omega), x_zero]
    unfold geoF
    by_cases h1 : j + 1 < m
    · rw [if_pos h1, if_pos (by omega), if_neg (by omega), show m - 1 - j = (m - 1 - (j + 1)) + 1 by omega, pwr, mu_comm, x_self]
    · rw [if_neg h1, mu_zero, zero_x]
      by_cases h2 : j + 1 = m
      · rw [if_pos (by omega), if_pos h2, show m - 1 - j = 0 by omega]; rfl
      · rw [if_neg (by omega), if_neg h2]
theorem conv_Sum (f : Nat → UInt8) (n : Nat) (G : Nat → Nat → UInt8) (j : Nat) : conv f (fun i => S n (fun k => G k i)) j = S n (fun k => conv f (G k) j) := by
  unfold conv
  rw [← S_swap]
  exact S_congr fun i _ => mu_S _ _ _
/-- the turned one times all points' locator -/
theorem loc_turn {a bv : Nat → UInt8} {N m : Nat} (j : Nat) : conv (locF a N) (fun i => S N (fun k => mu (bv k) (geoF (a k) m i))) j = S N (fun k => mu (bv k) (shF m (peF a k N) j ^^^ mu (pwr (a k) m) (peF a k N j))) := by
  rw [conv_Sum]
  refine S_congr fun k hk => ?_
  rw [conv_smul]
  show mu (bv k) (conv (locF a N) (geoF (a k) m) j) = _
  congr 1
  have e : conv (linF (a k)) (geoF (a k) m) = addF (shF m (cst 1)) (cst (pwr (a k) m)) := by
    funext i
    rw [lin_geo, addF_at]
    congr 1
    by_cases h : m ≤ i
    · rw [shF_ge h]
      by_cases h2 : i = m
      · rw [if_pos h2, h2, Nat.sub_self, cst_zero]
      · rw [if_neg h2, cst_ne (by omega)]
    · rw [shF_low (by omega), if_neg (by omega)]
  rw [peF_mul a hk, conv_assoc, e, conv_add, addF_at, conv_shF, conv_comm _ (cst 1), one_conv, conv_comm _ (cst (pwr (a k) m)), one_conv]
  congr 1
  unfold shF
  split
  · exact one_mu _
  · rfl
end Go.Proofs.YtddnfhfangfgeaaGreat.Gf

namespace Go.Proofs.YtddnfhfangfgeaaGreat.Gf
set_option linter.unusedVariables false
set_option linter.unusedSimpArgs false
theorem ev_eq {f : Nat → UInt8} {n m : Nat} (x : UInt8) (h : Fin0 f n) (k : Fin0 f m) : ev n f x = ev m f x := by
  rw [← ev_more x h (show n ≤ n + m by omega), ← ev_more x k (show m ≤ n + m by omega)]
/-- what lies below m and what lies from m on -/
def lowF (m : Nat) (f : Nat → UInt8) (j : Nat) : UInt8 := if j < m then f j else 0
def higF (m : Nat) (f : Nat → UInt8) (j : Nat) : UInt8 := f (m + j)
theorem low_hig (m : Nat) (f : Nat → UInt8) : f = addF (lowF m f) (shF m (higF m f)) := by
  funext j
  rw [addF_at]
  by_cases h : j < m
  · rw [shF_low h, x_zero]; exact (if_pos h).symm
  · rw [shF_ge (by omega)]
    unfold lowF higF
    rw [if_neg h, zero_x, show m + (j - m) = j by omega]
theorem IsLoc.low {P : Nat → UInt8} {m e t : Nat} {L : Nat → UInt8} (h : IsLoc P m e t L) : Fin0 (lowF m (conv L P)) (e + t) := fun j hj => by
  unfold lowF
  by_cases h1 : j < m
  · rw [if_pos h1]; exact h.zero j hj h1
  · exact if_neg h1
/-- two locators and their evaluators -/
theorem loc_cross {P : Nat → UInt8} {m e t t' : Nat} {L L' : Nat → UInt8} (h : IsLoc P m e t L) (h' : IsLoc P m e t' L') (hm : t + t' + e ≤ m) : conv L (higF m (conv L' P)) = conv L' (higF m (conv L P)) := by
  have e0 : conv L (conv L' P) = conv L' (conv L P) := conv_left _ _ _
  rw [low_hig m (conv L' P), low_hig m (conv L P), conv_add, conv_add, conv_shF, conv_shF] at e0
  funext p
  have := congrFun e0 (p + m)
  rw [addF_at, addF_at, shF_high, shF_high, (h.fin.conv h'.low) _ (by omega), (h'.fin.conv h.low) _ (by omega), zero_x, zero_x] at this
  rw [low_hig m (conv L' P), low_hig m (conv L P)]
  have e1 : ∀ f : Nat → UInt8, higF m (addF (lowF m f) (shF m (higF m f))) = higF m f := fun f => by rw [← low_hig]
  rw [e1, e1]
  exact this
section
variable {a bv : Nat → UInt8} {t e m : Nat}
/-- the turned one of what points make -/
def tuF (a bv : Nat → UInt8) (N m : Nat) (i : Nat) : UInt8 := S N (fun k => mu (bv k) (geoF (a k) m i))
/-- the evaluator -/
def omF (a bv : Nat → UInt8) (N : Nat) (p : Nat) : UInt8 := S N (fun k => mu (bv k) (peF a k N p))
theorem om_fin (a bv : Nat → UInt8) (N : Nat) : Fin0 (omF a bv N) N := fun p hp => S_zero fun k hk => by rw [(peF_fin a k N).2 hk p hp, mu_zero]
theorem om_at {N j : Nat} (hj : j < N) : ev N (omF a bv N) (a j) = mu (bv j) (PE a j N (a j)) := by
  have e1 : ev N (omF a bv N) (a j) = S N (fun k => mu (bv k) (ev N (peF a k N) (a j))) := by
    unfold ev omF
    rw [S_congr (fun i _ => S_mu _ _ _), S_swap]
    refine S_congr fun k _ => ?_
    rw [mu_S]
    exact S_congr fun i _ => mu_assoc _ _ _
  rw [e1, S_one hj (fun k hk hne => by rw [ev_pe' hk, PE_other a hj (fun h => hne h.symm), mu_zero]), ev_pe' hj]
theorem tu_loc (hm : 2 * t + e ≤ m) (j : Nat) (h1 : t + e ≤ j) (h2 : j < m) : conv (locF a (t + e)) (tuF a bv (t + e) m) j = 0 := by
  have := loc_turn (a := a) (bv := bv) (N := t + e) (m := m) j
  unfold tuF
  rw [this]
  exact S_zero fun k hk => by rw [shF_low h2, (peF_fin a k (t + e)).2 hk j h1, mu_zero, zero_x, mu_zero]
theorem tu_om (hm : 2 * t + e ≤ m) : higF m (conv (locF a (t + e)) (tuF a bv (t + e) m)) = omF a bv (t + e) := by
  funext p
  have := loc_turn (a := a) (bv := bv) (N := t + e) (m := m) (m + p)
  unfold higF tuF
  rw [this]
  exact S_congr fun k hk => by rw [shF_ge (by omega), Nat.add_sub_cancel_left, (peF_fin a k (t + e)).2 hk (m + p) (by omega), mu_zero, x_zero]
/-- the least locator is that of the points -/
theorem find_least (hm : 2 * t + e ≤ m) (hd : ∀ i j, i < t + e → j < t + e → i ≠ j → a i ≠ a j) (hb : ∀ i, i < t → bv i ≠ 0) :
    LeastLoc (conv (locF (fun i => a (t + i)) e) (tuF a bv (t + e) m)) m e t (locF a t) := by
  have hW : conv (locF a t) (conv (locF (fun i => a (t + i)) e) (tuF a bv (t + e) m)) = conv (locF a (t + e)) (tuF a bv (t + e) m) := by rw [← conv_assoc, ← locF_append]
  have hL : IsLoc (conv (locF (fun i => a (t + i)) e) (tuF a bv (t + e) m)) m e t (locF a t) :=
    ⟨locF_fin a t, locF_top a t, fun j h1 h2 => by rw [hW]; exact tu_loc hm j (by omega) h2⟩
  -- each locator has the points as roots
  have root : ∀ t' L', t' ≤ t → IsLoc (conv (locF (fun i => a (t + i)) e) (tuF a bv (t + e) m)) m e t' L' → ∀ j, j < t → ev (t' + 1) L' (a j) = 0 := fun t' L' htt h' j hj => by
    have c := loc_cross hL h' (by omega)
    rw [hW, tu_om hm] at c
    obtain ⟨n, hn⟩ : ∃ n, Fin0 (higF m (conv L' (conv (locF (fun i => a (t + i)) e) (tuF a bv (t + e) m)))) n := by
      have hT : Fin0 (tuF a bv (t + e) m) m := fun i hi => S_zero fun k _ => by unfold geoF; rw [if_neg (by omega), mu_zero]
      exact ⟨t' + 1 + (e + 1 + m), fun i hi => (h'.fin.conv ((locF_fin (fun i => a (t + i)) e).conv hT)) (m + i) (by omega)⟩
    have e1 := ev_conv (a j) (locF_fin a t) hn
    have e2 := ev_conv (a j) h'.fin (om_fin a bv (t + e))
    rw [ev_loc, PD_zero.2 ⟨j, hj, rfl⟩, zero_mu] at e1
    rw [om_at (by omega)] at e2
    have e3 : ev (t + 1 + n) (conv (locF a t) (higF m (conv L' (conv (locF (fun i => a (t + i)) e) (tuF a bv (t + e) m))))) (a j) = ev (t' + 1 + (t + e)) (conv L' (omF a bv (t + e))) (a j) := by
      rw [← c]
      exact ev_eq (a j) (((locF_fin a t).conv hn).mono (by omega)) (by rw [c]; exact (h'.fin.conv (om_fin a bv (t + e))).mono (by omega))
    rw [e1, e2] at e3
    rcases mu_eq_zero.1 e3.symm with h0 | h0
    · exact h0
    · rcases mu_eq_zero.1 h0 with h0 | h0
      · exact absurd h0 (hb j hj)
      · exact absurd h0 (PE_own a j (t + e) fun l hl hne h => hd j l (by omega) hl (fun x => hne x.symm) (x_eq_zero.1 h))
  refine ⟨hL, hm, fun t' L' h1 h2 => ?_, fun L' h2 => ?_⟩
  · rcases Nat.lt_or_ge t' t with h | h
    · have := roots_all h2.fin a (fun i j hi hj => hd i j (by omega) (by omega)) (fun i hi => root t' L' (by omega) h2 i (by omega)) t'
      rw [h2.top] at this
      cases this
    · exact h
  · have hD : Fin0 (addF L' (locF a t)) t := fun i hi => by
      rw [addF_at]
      by_cases e0 : i = t
      · rw [e0, h2.top, locF_top, x_self]
      · rw [h2.fin i (by omega), locF_fin a t i (by omega), x_self]
    have := roots_all hD a (fun i j hi hj => hd i j (by omega) (by omega)) (fun i hi => by
      rw [← ev_more (a i) hD (show t ≤ t + 1 by omega), ev_add, root t L' (Nat.le_refl _) h2 i hi, ev_loc, PD_zero.2 ⟨i, hi, rfl⟩]; rfl)
    funext i
    exact x_eq_zero.1 (this i)
end
section
variable {s pts ks bs zs : List UInt8}
/-- s are the syndromes of all points -/
def SyOf (s pts ks bs zs : List UInt8) : Prop := ∀ l, l < s.length → co s l = syP (co (pts ++ ks)) (co (bs ++ zs)) (pts.length + ks.length) l
theorem find_keP (hs : SyOf s pts ks bs zs) : keP s (locL ks) = conv (locF (fun i => co (pts ++ ks) (pts.length + i)) ks.length) (tuF (co (pts ++ ks)) (co (bs ++ zs)) (pts.length + ks.length) s.length) := by
  unfold keP
  have e1 : co (locL ks) = locF (fun i => co (pts ++ ks) (pts.length + i)) ks.length := by
    unfold locL
    rw [co_locN]
    exact locF_congr fun i hi => by rw [co_append_ge (by omega), Nat.add_sub_cancel_left]
  have e2 : co s.reverse = tuF (co (pts ++ ks)) (co (bs ++ zs)) (pts.length + ks.length) s.length := by
    funext i
    unfold tuF
    by_cases h : i < s.length
    · rw [co_rev h, hs _ (by omega)]
      exact S_congr fun k _ => by unfold geoF; rw [if_pos h]
    · rw [co_ge (by rw [List.length_reverse]; omega)]
      exact (S_zero fun k _ => by unfold geoF; rw [if_neg h, mu_zero]).symm
  rw [e1, e2]
theorem find_norm (ks : List UInt8) : (norm (locL ks)).length = ks.length + 1 := by unfold locL; rw [norm_locN, locN_length]
theorem find_loc (pts ks : List UInt8) : upto (locF (co (pts ++ ks)) pts.length) (pts.length + 1) = locL pts := by
  unfold locL locN
  rw [locF_congr fun i hi => co_append_lt hi]
theorem find_ok (hs : SyOf s pts ks bs zs) (hm : 2 * pts.length + ks.length ≤ s.length) (hb : bs.length = pts.length)
    (hd : ∀ i j, i < pts.length + ks.length → j < pts.length + ks.length → i ≠ j → co (pts ++ ks) i ≠ co (pts ++ ks) j) (h0 : ∀ i, i < pts.length → co bs i ≠ 0) :
    KeyAns s (locL ks) 0 (locL pts) (evaL s (locL ks) pts.length (locF (co (pts ++ ks)) pts.length)) := by
  have hl := find_least (bv := co (bs ++ zs)) hm hd (fun i hi => by rw [co_append_lt (by omega)]; exact h0 i hi)
  have nb : ¬ BadK s (locL ks) := by unfold BadK; rw [find_norm]; omega
  have := KeyAns.of_loc (t := pts.length) (L := locF (co (pts ++ ks)) pts.length) nb (by rw [find_norm, Nat.add_sub_cancel, find_keP hs]; exact hl)
  rw [find_loc] at this
  exact this
/-- the derivative's value at a point -/
theorem find_der (pts ks : List UInt8) {j : Nat} (hj : j < pts.length + ks.length) :
    evP (derP (mulP (locL pts) (locL ks))) (co (pts ++ ks) j) = PE (co (pts ++ ks)) j (pts.length + ks.length) (co (pts ++ ks) j) := by
  have e1 : co (mulP (locL pts) (locL ks)) = locF (co (pts ++ ks)) (pts.length + ks.length) := by
    rw [co_mulP]
    unfold locL
    rw [co_locN, co_locN, locF_append]
    congr 1
    · exact locF_congr fun i hi => (co_append_lt hi).symm
    · exact locF_congr fun i hi => by rw [co_append_ge (by omega), Nat.add_sub_cancel_left]
  rw [← ev_der hj]
  unfold evP
  have e2 := co_derP (mulP (locL pts) (locL ks))
  rw [e1] at e2
  rw [e2]
  exact ev_eq _ (by rw [← e2]; exact co_fin _) ((locF_fin _ _).der.mono (by omega))
theorem find_ne (hd : ∀ i j, i < pts.length + ks.length → j < pts.length + ks.length → i ≠ j → co (pts ++ ks) i ≠ co (pts ++ ks) j) {j : Nat} (hj : j < pts.length + ks.length) :
    PE (co (pts ++ ks)) j (pts.length + ks.length) (co (pts ++ ks) j) ≠ 0 :=
  PE_own _ j _ fun l hl hne h => hd j l hj hl (fun x => hne x.symm) (x_eq_zero.1 h)
end
end Go.Proofs.YtddnfhfangfgeaaGreat.Gf

namespace Go.Proofs.YtddnfhfangfgeaaGreat.Gf
set_option linter.unusedVariables false
set_option linter.unusedSimpArgs false
open Go.RowKit
/-- the locator, the evaluator, the error -/
def MakesK (w : World) (s known : List UInt8) (e : Ending) (w' : World) : Prop :=
  ∃ X A O va vo, KeyAns s known X A O ∧ e = .returned (.tuple #[va, vo, .int .i64 X]) ∧ Rd w' va A ∧ Rd w' vo O ∧ Below w.heap.size w w'
theorem MakesK.mk {w w' : World} {s known A O : List UInt8} {X : Int} {va vo : Value} (h : KeyAns s known X A O) (h1 : Rd w' va A) (h2 : Rd w' vo O) (h3 : Below w.heap.size w w') : MakesK w s known (.returned (.tuple #[va, vo, .int .i64 X])) w' := ⟨X, A, O, va, vo, h, rfl, h1, h2, h3⟩
theorem rd9_nil (w : World) : Rd w (.slice none 0 0) [] := Or.inl ⟨none, 0, rfl, rfl, Nat.zero_le _, fun _ => rfl⟩
/-- What a call that answers bytes leaves. -/
def MakesV (w : World) (p : List UInt8) (e : Ending) (w' : World) : Prop := ∃ v, e = .returned v ∧ Rd w' v p ∧ Below w.heap.size w w'
/-- the first numbers, from the end on -/
def revF (s : List UInt8) (i : Nat) : UInt8 := co s (s.length - 1 - i)
theorem rev_upto (s : List UInt8) : upto (revF s) s.length = s.reverse := by
  refine co_ext (by rw [upto_length, List.length_reverse]) fun i hi => ?_
  rw [upto_length] at hi
  rw [upto, co_map_range _ hi, co_rev hi]; rfl
/-- turned number by number: the first i are laid, at the end -/
def tnF (s : List UInt8) (i j : Nat) : UInt8 := if s.length - i ≤ j then revF s j else 0
theorem tnF_zero (s : List UInt8) {j : Nat} (h : j < s.length) : tnF s 0 j = 0 := if_neg (by omega)
theorem tnF_step (s : List UInt8) {i : Nat} (h : i < s.length) (j : Nat) : tnF s (i + 1) j = if j = s.length - 1 - i then co s i else tnF s i j := by
  unfold tnF
  by_cases e : j = s.length - 1 - i
  · rw [if_pos e, if_pos (by omega)]
    unfold revF
    rw [e, show s.length - 1 - (s.length - 1 - i) = i by omega]
  · rw [if_neg e]
    by_cases h2 : s.length - i ≤ j
    · rw [if_pos h2, if_pos (by omega)]
    · rw [if_neg h2, if_neg (by omega)]
theorem tnF_all (s : List UInt8) : upto (tnF s s.length) s.length = s.reverse := by
  rw [← rev_upto]
  exact upto_congr fun j hj => if_pos (by omega)
/-- what lies behind the first m bytes -/
theorem Rd.behind {w : World} {b off n c m k : Nat} {p : List UInt8} (h : Rd w (.slice (some ⟨b, off, none⟩) n c) p) (hm : m < p.length) (hk : k = p.length - m) : Rd w (.slice (some ⟨b, off + m, none⟩) k (c - m)) (p.drop m) := by
  rcases h with ⟨a, c', e, _⟩ | ⟨b', off', c', h1, h2, h3, h4, h5, h6⟩
  · subst e; simp at hm
  · simp at h2
    obtain ⟨⟨rfl, rfl⟩, rfl, rfl⟩ := h2
    subst hk
    have hl : (p.drop m).length = p.length - m := List.length_drop
    refine Or.inr ⟨b, off + m, c - m, fun e => by rw [e] at hl; simp at hl; omega, by rw [hl], by rw [hl]; omega, by omega, h5, fun i hi => ?_⟩
    rw [hl] at hi
    have e1 : co (p.drop m) i = co p (m + i) := by unfold co; rw [List.getElem?_drop]
    rw [e1, Nat.add_assoc]
    exact h6 (m + i) (by omega)
theorem Rd.spot9 {w : World} {v : Value} {p : List UInt8} (h : Rd w v p) (h0 : 0 < p.length) : ∃ b off c, v = .slice (some ⟨b, off, none⟩) p.length c ∧ p.length ≤ c ∧ c ≤ maxLen := by
  rcases h with ⟨a, c', e, _⟩ | ⟨b', off', c', h1, h2, h3, h4, h5, h6⟩
  · subst e; simp at h0
  · exact ⟨b', off', c', h2, h3, h4⟩
end Go.Proofs.YtddnfhfangfgeaaGreat.Gf

namespace Go.Proofs.YtddnfhfangfgeaaGreat.Gf
set_option linter.unusedVariables false
set_option linter.unusedSimpArgs false
/-- where Euclid's steps stand, as lists; e is known's degree -/
structure EuL (s known : List UInt8) (e : Nat) (r0 r1 v0 v1 : List UInt8) : Prop where
  eu : ∃ a b, Eu (keP s known) s.length (co r0) (co r1) (co v0) (co v1) a b ∧ s.length + e ≤ 2 * b ∧ v1.length = a + 1 ∧ r0.length = b + 1
  n1 : norm r1 = r1
  m1 : norm v1 = v1
theorem norm_tops {p : List UInt8} (h : norm p = p) (h0 : p.length ≠ 0) : co p (p.length - 1) ≠ 0 := by
  have hl : p.length = deg (co p) p.length := by
    have := congrArg List.length h
    unfold norm at this
    rw [mk_length] at this
    exact this.symm
  have := deg_top (co p) p.length (by rw [← hl]; exact h0)
  rwa [← hl] at this
/-- the first numbers of a list, up to the top -/
theorem EuL.start {s known r1 x : List UInt8} {e : Nat} (he : e ≤ s.length) (hx : ∀ i, co x i = if i = s.length then 1 else 0) (hxl : x.length = s.length + 1) (hr : ∀ j, j < s.length → co r1 j = keP s known j) (hrl : r1.length ≤ s.length) (hn : norm r1 = r1) : EuL s known e x r1 [] [1] := by
  refine ⟨⟨0, s.length, ?_, by omega, rfl, hxl⟩, hn, by decide +kernel⟩
  have h := Eu.start (P := keP s known) (r1 := co r1) (m := s.length) (fun j hj => (hr j hj).symm) ((co_fin r1).mono hrl)
  have e1 : co x = fun i => if i = s.length then 1 else 0 := funext hx
  have e2 : co [] = fun _ => (0 : UInt8) := funext co_nil
  have e3 : co [1] = cst 1 := by
    funext j
    cases j with
    | zero => rfl
    | succ j => rw [cst_ne (by omega)]; rfl
  rw [e1, e2, e3]
  exact h
theorem EuL.step {s known r0 r1 v0 v1 q r : List UInt8} {e : Nat} (h : EuL s known e r0 r1 v0 v1) (hb : s.length + e + 2 ≤ 2 * r1.length) (hd : IsDiv r0 r1 q r) : EuL s known e r1 r v1 (addP v0 (mulP q v1)) := by
  obtain ⟨a, b, eu, h2, ha, hb0⟩ := h.eu
  have hne : r1.length ≠ 0 := by omega
  have ht := norm_tops h.n1 hne
  have hf : Fin0 (co r1) (r1.length - 1 + 1) := by rw [show r1.length - 1 + 1 = r1.length by omega]; exact co_fin r1
  have hdb : r1.length - 1 < b := by
    rcases Nat.lt_or_ge (r1.length - 1) b with h | h
    · exact h
    · exact absurd (eu.g1 _ h) ht
  have hless := hd.less
  rw [h.n1] at hless
  -- the quotient's length
  have hqf : Fin0 (co q) (b - (r1.length - 1) + 1) := by
    have hq := co_fin q
    by_cases hq0 : q.length = 0
    · exact hq.mono (by omega)
    · have hqt := norm_tops hd.ns hq0
      have htop := conv_top (f := co q) (g := co r1) (n := q.length - 1) (m := r1.length - 1) (by rw [show q.length - 1 + 1 = q.length by omega]; exact hq) hf
      rcases Nat.lt_or_ge b (q.length - 1 + (r1.length - 1)) with hlt | hge
      · have e1 := hd.eqn (q.length - 1 + (r1.length - 1))
        rw [eu.g0 _ (by omega), htop, co_ge (p := r) (by omega), x_zero] at e1
        exact absurd e1.symm (mu_ne hqt ht)
      · exact hq.mono (by omega)
  have st := eu.step hf ht hd.eqn hqf ((co_fin r).mono (by omega))
  have e1 : co (addP v0 (mulP q v1)) = addF (co v0) (conv (co q) (co v1)) := by rw [co_addP, co_mulP]
  have hl : (addP v0 (mulP q v1)).length = a + (b - (r1.length - 1)) + 1 := by
    unfold addP
    rw [mk_length]
    refine deg_unique (fin_add _ _) ?_ (fun _ => ?_)
    · rw [co_mulP]; exact st.f1
    · rw [co_mulP]; exact st.t1
  refine ⟨⟨a + (b - (r1.length - 1)), r1.length - 1, ?_, by omega, hl, by omega⟩, hd.nr, norm_mk (fin_add _ _)⟩
  rw [e1]
  exact st
/-- what is told at the end -/
theorem EuL.least {s known r0 r1 v0 v1 : List UInt8} {e : Nat} (h : EuL s known e r0 r1 v0 v1) (h1 : 2 * r1.length ≤ s.length + e + 1) (hr : r1.length ≤ e + (v1.length - 1)) :
    v1.length ≠ 0 ∧ co v1 (v1.length - 1) ≠ 0 ∧ LeastLoc (keP s known) s.length e (v1.length - 1) (fun j => mu (iv (co v1 (v1.length - 1))) (co v1 j)) := by
  obtain ⟨a, b, eu, h2, ha, hb0⟩ := h.eu
  have ea : v1.length - 1 = a := by omega
  rw [ea] at hr ⊢
  exact ⟨by omega, eu.t1, eu.least h2 (co_fin r1) h1 ((co_fin r1).mono hr)⟩
theorem EuL.none {s known r0 r1 v0 v1 : List UInt8} {e : Nat} (h : EuL s known e r0 r1 v0 v1) (h1 : 2 * r1.length ≤ s.length + e + 1) (hr : e + (v1.length - 1) < r1.length) : ∀ t L, 2 * t + e ≤ s.length → ¬ IsLoc (keP s known) s.length e t L := by
  obtain ⟨a, b, eu, h2, ha, hb0⟩ := h.eu
  refine eu.none h2 (co_fin r1) h1 fun hf => ?_
  have ea : v1.length - 1 = a := by omega
  rw [ea] at hr
  exact norm_tops h.n1 (by omega) (hf _ (by omega))
theorem EuL.fac {s known r0 r1 v0 v1 : List UInt8} {e : Nat} (h : EuL s known e r0 r1 v0 v1) : 1 ≤ v1.length ∧ v1.length ≤ s.length + 1 ∧ r0.length ≤ s.length + 1 ∧ r1.length < r0.length ∧ 2 * v1.length + e ≤ s.length + 2 := by
  obtain ⟨a, b, eu, h2, ha, hb0⟩ := h.eu
  have := eu.sum
  refine ⟨by omega, by omega, by omega, ?_, by omega⟩
  rcases Nat.lt_or_ge r1.length r0.length with h9 | h9
  · exact h9
  · exact absurd (eu.g1 _ (by omega)) (norm_tops h.n1 (by omega))
/-- a list times the inverse of its top -/
theorem mul_top {v : List UInt8} (h : v.length ≠ 0) (ht : co v (v.length - 1) ≠ 0) : mulP v [iv (co v (v.length - 1))] = upto (fun j => mu (iv (co v (v.length - 1))) (co v j)) (v.length - 1 + 1) := by
  obtain ⟨c, hc⟩ : ∃ c, c = iv (co v (v.length - 1)) := ⟨_, rfl⟩
  have hc0 : c ≠ 0 := fun e => by
    have := mu_iv ht
    rw [← hc, e, mu_zero] at this
    cases this
  rw [← hc]
  have e3 : co [c] = cst c := by
    funext j
    cases j with
    | zero => rfl
    | succ j => rw [cst_ne (by omega)]; rfl
  have e4 : conv (co v) (co [c]) = fun j => mu c (co v j) := by rw [e3, conv_comm, one_conv]
  have hf : Fin0 (fun j => mu c (co v j)) v.length := fun i hi => by show mu c (co v i) = 0; rw [co_ge hi, mu_zero]
  have hl : (mulP v [c]).length = v.length := by
    unfold mulP
    rw [mk_length, e4]
    exact deg_unique (hf.mono (by omega)) hf (fun _ => mu_ne hc0 ht)
  refine co_ext (by rw [hl, upto_length]; omega) fun i hi => ?_
  rw [hl] at hi
  rw [co_mulP, e4, upto, co_map_range _ (by omega)]
end Go.Proofs.YtddnfhfangfgeaaGreat.Gf
