/- TEXTS JOINED: ErRefA, WdRefA, WdRefB, ErGn, CaRefC, GfPowMath, GfRefMath, GfRefMul, GfRefInv, CaRefA, CaRefP, CaRefG, MxRCheck, MxRPick, MxWi, MxRmu, GfRefDiv, MxRInvA, MxRInvB, MxRInvC, FarL, BkRefA, BkCop, BkRefE, ErRefD, ErRefE, WdRefC, KeMath, KeAns, KeLoc, KeFind, WdBack, WdKey, WdAns. -/
import Derived.Test.YtddnfhfangfgeaaGreatTome3
import Derived.WalkMore
import Derived.BigQuiet
import Derived.Deep.QuietTactic
import Derived.Test.YtddnfhfangfgeaaGreatTome2
import Derived.Test.YtddnfhfangfgeaaGreatTome1
import Derived.WalkKit
import Derived.WalkSpells
import Derived.Deep.RegionLaw
import Derived.Deep.RegionHeld3
import Derived.Deep.RegionWith
import Derived.Deep.OwnRows
import Derived.Deep.CutRange
namespace Go.Proofs.YtddnfhfangfgeaaGreat.Gf
set_option linter.unusedVariables false
set_option linter.unusedSimpArgs false
open Go.RowKit
theorem OwnI.drewN {w : World} {base e : Nat} {v : Value} {zs : List Nat} (h : OwnI w base e v zs) (n : Nat) : OwnI (w.drewN n) base e v zs := h
end Go.Proofs.YtddnfhfangfgeaaGreat.Gf









namespace Go.Proofs.YtddnfhfangfgeaaGreat.Gf
set_option linter.unusedVariables false
/-- n, less multiples of 255. -/
def tn (n : Int) : Nat := (n % 255).toNat
theorem tn_lt (n : Int) : tn n < 255 := by unfold tn; omega
theorem tn_cast (n : Int) : ((tn n : Nat) : Int) = n % 255 := by unfold tn; omega
def powV (a : Nat) (n : Int) : Nat := if n = 0 then 1 else if a = 0 then 0 else pw ((lg a * tn n) % 255)
def powE (a : Nat) (n : Int) : Nat := if n < 0 ∧ a = 0 then 10 else 0
theorem tn_neg : tn (-1) = 254 := by kernel_rfl
theorem powV_inv {a : Nat} (h : a ≠ 0) : powV a (-1) = invS a := by
  unfold powV invS; rw [if_neg (by omega), if_neg h, if_neg h, tn_neg]
theorem powE_inv {a : Nat} (h : a ≠ 0) : powE a (-1) = 0 := by simp [powE, h]
theorem powV_m1 (a : Nat) : powV a (-1) = invS a := by
  by_cases h : a = 0
  · subst h; rfl
  · exact powV_inv h
theorem powE_m1 (a : Nat) : powE a (-1) = zE a := by
  by_cases h : a = 0
  · subst h; rfl
  · rw [powE_inv h, zE_pos h]
end Go.Proofs.YtddnfhfangfgeaaGreat.Gf

namespace Go.Proofs.YtddnfhfangfgeaaGreat.Gf
set_option linter.unusedVariables false
open Go.RowKit
def tm : Nat → Nat → Nat → Nat
  | 0, _, _ => 1
  | k + 1, a, n => if n.testBit k then mulS (tm k a n) (sq k a) else tm k a n
end Go.Proofs.YtddnfhfangfgeaaGreat.Gf



























namespace Go.Proofs.YtddnfhfangfgeaaGreat.Gf
set_option linter.unusedVariables false
set_option linter.unusedSimpArgs false
open Go.RowKit
def FarL (w : World) (base : Nat) (v : Value) (L : List (List UInt8)) : Prop := ∃ T u, Os w base T u v L
section
variable {w w' : World} {base base' : Nat} {v : Value} {L : List (List UInt8)}
theorem FarL.rs (h : FarL w base v L) : Rs w v L := by
  obtain ⟨T, u, h⟩ := h
  exact h.rs
theorem FarL.form (h : FarL w base v L) : ∃ a c, v = .slice a L.length c := h.rs.form
theorem FarL.later (h : FarL w base v L) (hb : Below w.heap.size w w') : FarL w' base v L := by
  obtain ⟨T, u, h⟩ := h
  exact ⟨T, u, h.later hb⟩
theorem FarL.rebase (h : FarL w base v L) (hb : base' ≤ base) : FarL w base' v L := by
  obtain ⟨T, u, h⟩ := h
  exact ⟨T, u, h.base hb⟩
theorem FarL.nil (w : World) (base : Nat) : FarL w base (.slice none 0 0) [] := ⟨0, 0, Os.nil _ _ _ _⟩
end
/-- rows in new memory, and an error -/
def MakesFar (w : World) (x : Int) (L : List (List UInt8)) (e : Ending) (w' : World) : Prop := ∃ v, e = .returned (.tuple #[v, .int .i64 x]) ∧ FarL w' w.heap.size v L ∧ Below w.heap.size w w'
theorem MakesFar.rs {w w' : World} {x : Int} {L : List (List UInt8)} {e : Ending} (h : MakesFar w x L e w') : MakesRs w x L e w' := by
  obtain ⟨v, h1, h2, h3⟩ := h
  exact ⟨v, h1, h2.rs, h3⟩
end Go.Proofs.YtddnfhfangfgeaaGreat.Gf







namespace Go.Proofs.YtddnfhfangfgeaaGreat.Gf
set_option linter.unusedVariables false
set_option linter.unusedSimpArgs false
open Go.RowKit
theorem OwnI.cap {w : World} {base e : Nat} {a : Option Addr} {n c : Nat} {zs : List Nat} (h : OwnI w base e (.slice a n c) zs) : zs.length ≤ c ∧ c ≤ maxLen := by
  obtain ⟨_, ⟨e, hn⟩ | ⟨g, cap, cur, e, hg, hh, hc, hm, hs, ht⟩⟩ := h
  · simp at e; omega
  · simp at e
    obtain ⟨_, _, rfl⟩ := e
    exact ⟨hc, hm⟩
theorem RdI.first {w : World} {b off n c k : Nat} {zs : List Nat} (h : RdI w (.slice (some ⟨b, off, none⟩) n c) (toI zs)) (hk : k ≤ zs.length) (h0 : 0 < k) : RdI w (.slice (some ⟨b, off, none⟩) k c) (toI (zs.take k)) := by
  have hl : (toI (zs.take k)).length = k := by rw [toI_length, List.length_take]; omega
  rcases h with ⟨_, _, e, _⟩ | ⟨b', off', cap, h1, e, h2, h3, h4⟩
  · have := congrArg List.length e
    rw [toI_length, List.length_nil] at this
    omega
  · simp at e
    obtain ⟨⟨rfl, rfl⟩, rfl, rfl⟩ := e
    refine Or.inr ⟨b, off, c, fun q => by rw [q] at hl; simp at hl; omega, by rw [hl], by rw [hl]; rw [toI_length] at h2; omega, h3, fun i hi => ?_⟩
    rw [hl] at hi
    rw [h4 i (by rw [toI_length]; omega), toI_getD, toI_getD]
    simp [List.getD, List.getElem?_take_of_lt hi]
end Go.Proofs.YtddnfhfangfgeaaGreat.Gf





namespace Go.Proofs.YtddnfhfangfgeaaGreat.Gf
set_option linter.unusedVariables false
set_option linter.unusedSimpArgs false
theorem conv_low {L A B : Nat → UInt8} {m j : Nat} (h : ∀ i, i < m → A i = B i) (hj : j < m) : conv L A j = conv L B j :=
  S_congr fun i hi => by rw [h (j - i) (by omega)]
theorem conv_left (a b c : Nat → UInt8) : conv a (conv b c) = conv b (conv a c) := by rw [← conv_assoc, conv_comm a b, conv_assoc]
theorem addF_at (a b : Nat → UInt8) (j : Nat) : addF a b j = a j ^^^ b j := rfl
theorem smul_conv (c : UInt8) (a b : Nat → UInt8) : conv (fun i => mu c (a i)) b = fun j => mu c (conv a b j) := by
  funext j
  unfold conv
  rw [mu_S]
  exact S_congr fun i _ => mu_assoc _ _ _
theorem conv_smul (c : UInt8) (a b : Nat → UInt8) : conv a (fun i => mu c (b i)) = fun j => mu c (conv a b j) := by rw [conv_comm, smul_conv, conv_comm]
/-- m places higher -/
def shF (m : Nat) (f : Nat → UInt8) (j : Nat) : UInt8 := if m ≤ j then f (j - m) else 0
theorem shF_low {m : Nat} {f : Nat → UInt8} {j : Nat} (h : j < m) : shF m f j = 0 := if_neg (by omega)
theorem shF_ge {m : Nat} {f : Nat → UInt8} {j : Nat} (h : m ≤ j) : shF m f j = f (j - m) := if_pos h
theorem shF_high (m : Nat) (f : Nat → UInt8) (j : Nat) : shF m f (j + m) = f j := by unfold shF; rw [if_pos (by omega), Nat.add_sub_cancel]
theorem conv_shF (m : Nat) (f g : Nat → UInt8) : conv f (shF m g) = shF m (conv f g) := by
  funext j
  by_cases h : m ≤ j
  · rw [shF_ge h]
    unfold conv
    rw [S_more (n := j - m + 1) (m := j + 1) (by omega) (fun i h1 h2 => by rw [shF_low (by omega), mu_zero])]
    exact S_congr fun i hi => by rw [shF_ge (by omega), show j - i - m = j - m - i by omega]
  · unfold conv
    rw [shF_low (by omega)]
    exact S_zero fun i hi => by rw [shF_low (by omega), mu_zero]
theorem shF_inj {m : Nat} {f g : Nat → UInt8} (h : shF m f = shF m g) : f = g := by
  funext j
  have := congrFun h (j + m)
  rwa [shF_high, shF_high] at this
theorem shF_of {m : Nat} {f : Nat → UInt8} (h : ∀ j, j < m → f j = 0) : f = shF m (fun j => f (j + m)) := by
  funext j
  by_cases e : m ≤ j
  · rw [shF_ge e]; show f j = f (j - m + m); rw [Nat.sub_add_cancel e]
  · rw [shF_low (by omega)]; exact h j (by omega)
/-- L is a locator of degree t: m syndromes, known of degree e, P known times the turned one -/
structure IsLoc (P : Nat → UInt8) (m e t : Nat) (L : Nat → UInt8) : Prop where
  fin : Fin0 L (t + 1)
  top : L t = 1
  zero : ∀ j, e + t ≤ j → j < m → conv L P j = 0
/-- .. and the least one -/
structure LeastLoc (P : Nat → UInt8) (m e t : Nat) (L : Nat → UInt8) : Prop where
  loc : IsLoc P m e t L
  few : 2 * t + e ≤ m
  least : ∀ t' L', 2 * t' + e ≤ m → IsLoc P m e t' L' → t ≤ t'
  one : ∀ L', IsLoc P m e t L' → L' = L
theorem LeastLoc.unique {P : Nat → UInt8} {m e t t' : Nat} {L L' : Nat → UInt8} (h : LeastLoc P m e t L) (h' : LeastLoc P m e t' L') : t' = t ∧ L' = L := by
  have e1 := h.least _ _ h'.few h'.loc
  have e2 := h'.least _ _ h.few h.loc
  obtain rfl : t = t' := by omega
  exact ⟨rfl, h.one _ h'.loc⟩
/-- a number alone -/
def cst (c : UInt8) (i : Nat) : UInt8 := if i = 0 then c else 0
theorem cst_zero (c : UInt8) : cst c 0 = c := if_pos rfl
theorem cst_ne {c : UInt8} {i : Nat} (h : i ≠ 0) : cst c i = 0 := if_neg h
/-- where Euclid's steps stand: both rests and both factors -/
structure Eu (P : Nat → UInt8) (m : Nat) (r0 r1 v0 v1 : Nat → UInt8) (a b : Nat) : Prop where
  c0 : ∀ j, j < m → conv v0 P j = r0 j
  c1 : ∀ j, j < m → conv v1 P j = r1 j
  det : ∃ c : UInt8, c ≠ 0 ∧ addF (conv v1 r0) (conv v0 r1) = shF m (cst c)
  sum : a + b = m
  f1 : Fin0 v1 (a + 1)
  t1 : v1 a ≠ 0
  g0 : Fin0 r0 (b + 1)
  s0 : r0 b ≠ 0
  f0 : Fin0 v0 a
  g1 : Fin0 r1 b
theorem one_conv (f : Nat → UInt8) (c : UInt8) : conv (cst c) f = fun j => mu c (f j) := by
  funext j
  unfold conv
  rw [S_one (k := 0) (by omega) (fun i _ hi => by rw [cst_ne hi, zero_mu]), cst_zero, Nat.sub_zero]
/-- where they begin -/
theorem Eu.start {P r1 : Nat → UInt8} {m : Nat} (h : ∀ j, j < m → P j = r1 j) (hr : Fin0 r1 m) : Eu P m (fun i => if i = m then 1 else 0) r1 (fun _ => 0) (cst 1) 0 m := by
  have z : ∀ f : Nat → UInt8, conv (fun _ => 0) f = fun _ => 0 := fun f => by
    funext j; rw [conv_comm]; exact conv_zero (fun _ => rfl) j
  refine ⟨fun j hj => ?_, fun j hj => ?_, ⟨1, by decide, ?_⟩, by omega, fun i hi => cst_ne (by omega), ?_, fun i hi => if_neg (by omega), ?_, fun i _ => rfl, hr⟩
  · rw [z]; exact (if_neg (by omega)).symm
  · rw [one_conv]; show mu 1 (P j) = _; rw [one_mu]; exact h j hj
  · rw [one_conv, z]
    funext j
    show mu 1 (if j = m then 1 else 0) ^^^ 0 = shF m (cst 1) j
    rw [one_mu, x_zero]
    by_cases e : m ≤ j
    · rw [shF_ge e]
      by_cases e2 : j = m
      · rw [if_pos e2, e2, Nat.sub_self, cst_zero]
      · rw [if_neg e2, cst_ne (by omega)]
    · rw [shF_low (by omega), if_neg (by omega)]
  · rw [cst_zero]; decide
  · rw [if_pos rfl]; decide
/-- a step: r1 is there, of degree d; q its quotient -/
theorem Eu.step {P r0 r1 v0 v1 q r2 : Nat → UInt8} {m a b d : Nat} (h : Eu P m r0 r1 v0 v1 a b) (hd : Fin0 r1 (d + 1)) (hn : r1 d ≠ 0) (hq : ∀ i, r0 i = conv q r1 i ^^^ r2 i) (hf : Fin0 q (b - d + 1)) (hr : Fin0 r2 d) :
    Eu P m r1 r2 v1 (addF v0 (conv q v1)) (a + (b - d)) d := by
  have hdb : d < b := by
    rcases Nat.lt_or_ge d b with e | e
    · exact e
    · exact absurd (h.g1 d e) hn
  have er : r0 = addF (conv q r1) r2 := funext hq
  have hqt : q (b - d) ≠ 0 := fun e => h.s0 (by
    have := conv_top hf hd
    rw [show b - d + d = b by omega, e, zero_mu] at this
    rw [er, addF_at, this, hr b (by omega)]; rfl)
  obtain ⟨c, hc, hdet⟩ := h.det
  refine ⟨h.c1, fun j hj => ?_, ⟨c, hc, ?_⟩, by have := h.sum; omega, ?_, ?_, hd, hn, h.f1.mono (by omega), hr⟩
  · rw [add_conv, addF_at, h.c0 j hj, conv_assoc, conv_low h.c1 hj, er, addF_at, x_comm (conv q r1 j), x_assoc, x_self, x_zero]
  · rw [← hdet, er, add_conv, conv_add]
    funext j
    show (conv v0 r1 j ^^^ conv (conv q v1) r1 j) ^^^ conv v1 r2 j = (conv v1 (conv q r1) j ^^^ conv v1 r2 j) ^^^ conv v0 r1 j
    rw [conv_assoc, conv_left q v1, x_comm _ (conv v0 r1 j), x_assoc]
  · have e := (hf.conv h.f1).mono (show b - d + 1 + (a + 1) - 1 ≤ a + (b - d) + 1 by omega)
    exact (h.f0.mono (by omega)).add e
  · rw [addF_at, h.f0 _ (by omega), zero_x, show a + (b - d) = (b - d) + a by omega, conv_top hf h.f1]
    exact mu_ne hqt h.t1
/-- each locator is a multiple of the factor at which Euclid's steps end -/
theorem Eu.all {P r0 r1 v0 v1 : Nat → UInt8} {m a b n1 e t : Nat} {L : Nat → UInt8} (h : Eu P m r0 r1 v0 v1 a b) (hb : m + e ≤ 2 * b) (hn : Fin0 r1 n1) (h1 : 2 * n1 ≤ m + e + 1) (ht : 2 * t + e ≤ m) (hL : IsLoc P m e t L) :
    a ≤ t ∧ Fin0 r1 (e + a) ∧ (t = a → L = fun j => mu (iv (v1 a)) (v1 j)) := by
  have hs := h.sum
  have ha : 2 * a + e ≤ m := by omega
  obtain ⟨c, hc, hdet⟩ := h.det
  obtain ⟨R, hR⟩ : ∃ R : Nat → UInt8, R = fun j => if j < e + t then conv L P j else 0 := ⟨_, rfl⟩
  have hRf : Fin0 R (e + t) := fun i hi => by rw [hR]; exact if_neg (by omega)
  have hRl : ∀ j, j < m → conv L P j = R j := fun j hj => by
    rw [hR]
    by_cases e1 : j < e + t
    · exact (if_pos e1).symm
    · show _ = if j < e + t then _ else _
      rw [if_neg e1]; exact hL.zero j (by omega) hj
  have hA : conv L r1 = conv R v1 := by
    funext j
    by_cases hj : j < m
    · rw [← conv_low h.c1 hj, conv_left, conv_low hRl hj, conv_comm]
    · rw [(hL.fin.conv hn) j (by omega), (hRf.conv h.f1) j (by omega)]
  obtain ⟨B, hB⟩ : ∃ B, B = addF (conv L r0) (conv R v0) := ⟨_, rfl⟩
  have hB0 : ∀ j, j < m → B j = 0 := fun j hj => by
    rw [hB, addF_at, ← conv_low h.c0 hj, conv_left, conv_low hRl hj, conv_comm v0, x_self]
  obtain ⟨y, hy⟩ : ∃ y : Nat → UInt8, y = fun j => B (j + m) := ⟨_, rfl⟩
  have hBy : B = shF m y := by rw [hy]; exact shF_of hB0
  have k1 : conv v1 y = fun j => mu c (L j) := by
    refine shF_inj (m := m) ?_
    rw [← conv_shF, ← hBy, hB, conv_add, conv_left v1 L, conv_left v1 R]
    have e1 : conv v1 r0 = addF (shF m (cst c)) (conv v0 r1) := by
      rw [← hdet]; funext j; rw [addF_at, addF_at, x_assoc, x_self, x_zero]
    rw [e1, conv_add, conv_shF, conv_comm L (cst c), one_conv]
    funext j
    show (shF m (fun j => mu c (L j)) j ^^^ conv L (conv v0 r1) j) ^^^ conv R (conv v1 v0) j = _
    rw [conv_left L v0, hA, conv_comm v1 v0, conv_left R v0, conv_comm R v1, x_assoc, x_self, x_zero]
  have k2 : conv r1 y = fun j => mu c (R j) := by
    refine shF_inj (m := m) ?_
    rw [← conv_shF, ← hBy, hB, conv_add, conv_left r1 L, conv_comm r1 r0, conv_left L r0, hA, conv_left r1 R, conv_comm r1 v0]
    have e1 : conv v0 r1 = addF (shF m (cst c)) (conv v1 r0) := by
      rw [← hdet]; funext j; rw [addF_at, addF_at, x_comm (conv v1 r0 j), x_assoc, x_self, x_zero]
    rw [e1, conv_add, conv_shF, conv_comm R (cst c), one_conv]
    funext j
    show conv r0 (conv R v1) j ^^^ (shF m (fun j => mu c (R j)) j ^^^ conv R (conv v1 r0) j) = _
    rw [conv_comm v1 r0, conv_left R r0, x_left, x_self, x_zero]
  -- the degrees
  obtain ⟨N, hN⟩ : ∃ N, Fin0 y N := ⟨(t + 1 + (b + 1) - 1) + (e + t + a - 1), fun i hi => by
    rw [hy]
    show B (i + m) = 0
    rw [hB, addF_at, (hL.fin.conv h.g0) _ (by omega), (hRf.conv h.f0) _ (by omega)]; rfl⟩
  have hcL : Fin0 (fun j => mu c (L j)) (t + 1) := fun i hi => by show mu c (L i) = 0; rw [hL.fin i hi, mu_zero]
  have dL : deg (fun j => mu c (L j)) (t + 1) = t + 1 := deg_unique hcL hcL (fun _ => by show mu c (L (t + 1 - 1)) ≠ 0; rw [Nat.add_sub_cancel, hL.top, mu_one]; exact hc)
  have dv : deg v1 (a + 1) = a + 1 := deg_unique h.f1 h.f1 (fun _ => by rw [Nat.add_sub_cancel]; exact h.t1)
  have dc := deg_conv h.f1 hN (k := t + 1) (by rw [k1]; exact hcL)
  rw [k1, dL, dv] at dc
  have hy0 : deg y N ≠ 0 := fun e => by rw [if_pos (Or.inr e)] at dc; omega
  rw [if_neg (by omega)] at dc
  refine ⟨by omega, ?_, fun et => ?_⟩
  · have hcR : Fin0 (fun j => mu c (R j)) (e + t) := fun i hi => by show mu c (R i) = 0; rw [hRf i hi, mu_zero]
    have dr := deg_conv hn hN (k := e + t) (by rw [k2]; exact hcR)
    rw [k2] at dr
    have hle := deg_le (fun j => mu c (R j)) (e + t)
    by_cases e0 : deg r1 n1 = 0
    · exact (deg_fin hn).mono (by omega)
    · rw [if_neg (by omega)] at dr
      exact (deg_fin hn).mono (by omega)
  · subst et
    have hy1 : Fin0 y 1 := (deg_fin hN).mono (by omega)
    have ey : y = cst (y 0) := by
      funext i
      by_cases e0 : i = 0
      · rw [e0, cst_zero]
      · rw [cst_ne e0]; exact hy1 i (by omega)
    rw [conv_comm, ey, one_conv] at k1
    have key : ∀ j, L j = mu (iv c) (mu (y 0) (v1 j)) := fun j => by
      have := congrFun k1 j
      show L j = _
      have e2 : mu (y 0) (v1 j) = mu c (L j) := this
      rw [e2, ← mu_assoc, mu_comm (iv c), mu_iv hc, one_mu]
    have k0 := key t
    rw [hL.top] at k0
    funext j
    rw [key j]
    -- iv c · y0 is the inverse of v1's top
    have e3 : mu (mu (iv c) (y 0)) (v1 t) = 1 := by rw [mu_assoc]; exact k0.symm
    have e4 : mu (iv c) (y 0) = iv (v1 t) := by
      have : mu (mu (mu (iv c) (y 0)) (v1 t)) (iv (v1 t)) = mu 1 (iv (v1 t)) := by rw [e3]
      rw [mu_assoc, mu_iv h.t1, mu_one, one_mu] at this
      exact this
    rw [← mu_assoc, e4]
/-- what is told at the end of Euclid's steps -/
theorem Eu.least {P r0 r1 v0 v1 : Nat → UInt8} {m a b n1 e : Nat} (h : Eu P m r0 r1 v0 v1 a b) (hb : m + e ≤ 2 * b) (hn : Fin0 r1 n1) (h1 : 2 * n1 ≤ m + e + 1) (hr : Fin0 r1 (e + a)) : LeastLoc P m e a (fun j => mu (iv (v1 a)) (v1 j)) := by
  have hs := h.sum
  refine ⟨⟨fun i hi => ?_, ?_, fun j h2 h3 => ?_⟩, by omega, fun t' L' h2 h3 => (h.all hb hn h1 h2 h3).1, fun L' h3 => (h.all hb hn h1 (by omega) h3).2.2 rfl⟩
  · show mu _ (v1 i) = 0; rw [h.f1 i hi, mu_zero]
  · show mu _ (v1 a) = 1; rw [mu_comm, mu_iv h.t1]
  · rw [smul_conv]; show mu _ (conv v1 P j) = 0; rw [h.c1 j h3, hr j h2, mu_zero]
theorem Eu.none {P r0 r1 v0 v1 : Nat → UInt8} {m a b n1 e : Nat} (h : Eu P m r0 r1 v0 v1 a b) (hb : m + e ≤ 2 * b) (hn : Fin0 r1 n1) (h1 : 2 * n1 ≤ m + e + 1) (hr : ¬ Fin0 r1 (e + a)) : ∀ t L, 2 * t + e ≤ m → ¬ IsLoc P m e t L :=
  fun t L h2 h3 => hr (h.all hb hn h1 h2 h3).2.1
end Go.Proofs.YtddnfhfangfgeaaGreat.Gf

namespace Go.Proofs.YtddnfhfangfgeaaGreat.Gf
set_option linter.unusedVariables false
set_option linter.unusedSimpArgs false
theorem co_rev {s : List UInt8} {i : Nat} (h : i < s.length) : co s.reverse i = co s (s.length - 1 - i) := by
  rw [co_lt (by simpa using h), co_lt (by omega), List.getElem_reverse]
/-- known times the turned one -/
def keP (s known : List UInt8) : Nat → UInt8 := conv (co known) (co s.reverse)
theorem keP_fin (s known : List UInt8) : Fin0 (keP s known) (known.length + s.length) := by
  have := (co_fin known).conv (co_fin s.reverse)
  rw [List.length_reverse] at this
  exact this.mono (by omega)
/-- known has no top, or a degree above the syndromes' number -/
def BadK (s known : List UInt8) : Prop := (norm known).length = 0 ∨ s.length + 1 < (norm known).length
/-- the evaluator -/
def evaL (s known : List UInt8) (t : Nat) (L : Nat → UInt8) : List UInt8 := mk (fun i => conv L (keP s known) (s.length + i)) (t + 1 + (known.length + s.length))
theorem eva_fin {s known : List UInt8} {t : Nat} {L : Nat → UInt8} (h : Fin0 L (t + 1)) : Fin0 (fun i => conv L (keP s known) (s.length + i)) (t + 1 + (known.length + s.length)) := fun i hi =>
  (h.conv (keP_fin s known)) _ (by omega)
/-- what is told: the error, the locator, the evaluator -/
def KeyAns (s known : List UInt8) (X : Int) (A O : List UInt8) : Prop :=
  (BadK s known ∧ X = 1 ∧ A = [] ∧ O = []) ∨
  (¬ BadK s known ∧ ∃ t L, LeastLoc (keP s known) s.length ((norm known).length - 1) t L ∧ X = 0 ∧ A = upto L (t + 1) ∧ O = evaL s known t L) ∨
  (¬ BadK s known ∧ (∀ t L, 2 * t + ((norm known).length - 1) ≤ s.length → ¬ IsLoc (keP s known) s.length ((norm known).length - 1) t L) ∧ X = 100 ∧ A = [] ∧ O = [])
theorem KeyAns.unique {s known : List UInt8} {X X' : Int} {A A' O O' : List UInt8} (h : KeyAns s known X A O) (h' : KeyAns s known X' A' O') : X' = X ∧ A' = A ∧ O' = O := by
  rcases h with ⟨b, rfl, rfl, rfl⟩ | ⟨b, t, L, hl, rfl, rfl, rfl⟩ | ⟨b, hn, rfl, rfl, rfl⟩
  · rcases h' with ⟨b', rfl, rfl, rfl⟩ | ⟨b', _⟩ | ⟨b', _⟩
    · exact ⟨rfl, rfl, rfl⟩
    · exact absurd b b'
    · exact absurd b b'
  · rcases h' with ⟨b', _⟩ | ⟨b', t', L', hl', rfl, rfl, rfl⟩ | ⟨b', hn', _⟩
    · exact absurd b' b
    · obtain ⟨rfl, rfl⟩ := hl.unique hl'
      exact ⟨rfl, rfl, rfl⟩
    · exact absurd hl.loc (hn' t L hl.few)
  · rcases h' with ⟨b', _⟩ | ⟨b', t', L', hl', _⟩ | ⟨b', _, rfl, rfl, rfl⟩
    · exact absurd b' b
    · exact absurd hl'.loc (hn t' L' hl'.few)
    · exact ⟨rfl, rfl, rfl⟩
/-- some answer there is -/
theorem KeyAns.of_loc {s known : List UInt8} {t : Nat} {L : Nat → UInt8} (b : ¬ BadK s known) (h : LeastLoc (keP s known) s.length ((norm known).length - 1) t L) : KeyAns s known 0 (upto L (t + 1)) (evaL s known t L) := Or.inr (Or.inl ⟨b, t, L, h, rfl, rfl, rfl⟩)
theorem drop_mk {f : Nat → UInt8} {n n' m : Nat} (hf : Fin0 f n) (hn : Fin0 (fun i => f (m + i)) n') : (mk f n).drop m = mk (fun i => f (m + i)) n' := by
  have hd : deg (fun i => f (m + i)) n' = deg f n - m := by
    refine deg_unique hn (fun i hi => deg_fin hf _ (by omega)) (fun h => ?_)
    show f (m + (deg f n - m - 1)) ≠ 0
    rw [show m + (deg f n - m - 1) = deg f n - 1 by omega]
    exact deg_top f n (by omega)
  refine co_ext (by rw [List.length_drop, mk_length, mk_length, hd]) fun i hi => ?_
  rw [List.length_drop, mk_length] at hi
  have e1 : co ((mk f n).drop m) i = co (mk f n) (m + i) := by unfold co; rw [List.getElem?_drop]
  rw [e1, co_mk hf, co_mk hn]
/-- syndromes times a number -/
def scP (s : List UInt8) (c : UInt8) : List UInt8 := upto (fun i => mu (co s i) c) s.length
theorem scP_length (s : List UInt8) (c : UInt8) : (scP s c).length = s.length := upto_length _ _
theorem co_scP (s : List UInt8) (c : UInt8) (i : Nat) : co (scP s c) i = mu (co s i) c := co_upto (fun i hi => by rw [co_ge hi, zero_mu]) i
theorem keP_sc (s known : List UInt8) (c : UInt8) : keP (scP s c) known = fun j => mu c (keP s known j) := by
  have e : co (scP s c).reverse = fun i => mu c (co s.reverse i) := by
    funext i
    by_cases h : i < s.length
    · rw [co_rev (by rw [scP_length]; exact h), co_rev h, scP_length, co_scP, mu_comm]
    · rw [co_ge (by rw [List.length_reverse, scP_length]; omega), co_ge (by rw [List.length_reverse]; omega), mu_zero]
  unfold keP
  rw [e, conv_smul]
theorem BadK_sc {s known : List UInt8} {c : UInt8} : BadK (scP s c) known ↔ BadK s known := by unfold BadK; rw [scP_length]
theorem IsLoc.sc {P : Nat → UInt8} {m e t : Nat} {L : Nat → UInt8} {c : UInt8} (h : IsLoc P m e t L) : IsLoc (fun j => mu c (P j)) m e t L :=
  ⟨h.fin, h.top, fun j h1 h2 => by rw [conv_smul]; show mu c (conv L P j) = 0; rw [h.zero j h1 h2, mu_zero]⟩
theorem IsLoc.unsc {P : Nat → UInt8} {m e t : Nat} {L : Nat → UInt8} {c : UInt8} (hc : c ≠ 0) (h : IsLoc (fun j => mu c (P j)) m e t L) : IsLoc P m e t L :=
  ⟨h.fin, h.top, fun j h1 h2 => by
    have := h.zero j h1 h2
    rw [conv_smul] at this
    rcases mu_eq_zero.1 this with e | e
    · exact absurd e hc
    · exact e⟩
theorem LeastLoc.sc {P : Nat → UInt8} {m e t : Nat} {L : Nat → UInt8} {c : UInt8} (hc : c ≠ 0) (h : LeastLoc P m e t L) : LeastLoc (fun j => mu c (P j)) m e t L :=
  ⟨h.loc.sc, h.few, fun t' L' h1 h2 => h.least t' L' h1 (h2.unsc hc), fun L' h1 => h.one L' (h1.unsc hc)⟩
theorem eva_sc {s known : List UInt8} {t : Nat} {L : Nat → UInt8} {c : UInt8} (h : Fin0 L (t + 1)) : evaL (scP s c) known t L = mulP (evaL s known t L) [c] := by
  unfold evaL mulP
  refine mk_same (fun i hi => ?_) ((co_fin _).conv (co_fin _) |>.mono (by omega)) fun i => ?_
  · exact (h.conv (keP_fin (scP s c) known)) _ (by rw [scP_length] at *; omega)
  · have e1 : co [c] = cst c := by
      funext j
      cases j with
      | zero => rfl
      | succ j => rw [cst_ne (by omega)]; rfl
    rw [e1, conv_comm (co _) (cst c), one_conv, co_mk (eva_fin h), keP_sc, conv_smul, scP_length]
/-- what 'KeyeqScales' asks -/
theorem KeyAns.sc {s known : List UInt8} {X : Int} {A O : List UInt8} {c : UInt8} (hc : c ≠ 0) (h : KeyAns s known X A O) : KeyAns (scP s c) known X A (mulP O [c]) := by
  have z : mulP [] [c] = [] := by
    unfold mulP
    have := mk_same (f := conv (co []) (co [c])) (g := co []) (n := [].length + [c].length) (m := 0) (fin_conv _ _) (co_fin []) (fun i => by rw [conv_comm, conv_zero co_nil, co_nil])
    rw [this]; rfl
  rcases h with ⟨b, rfl, rfl, rfl⟩ | ⟨b, t, L, hl, rfl, rfl, rfl⟩ | ⟨b, hn, rfl, rfl, rfl⟩
  · rw [z]; exact Or.inl ⟨BadK_sc.2 b, rfl, rfl, rfl⟩
  · rw [← eva_sc hl.loc.fin]
    refine Or.inr (Or.inl ⟨fun e => b (BadK_sc.1 e), t, L, ?_, rfl, rfl, rfl⟩)
    rw [keP_sc, scP_length]; exact hl.sc hc
  · rw [z]
    refine Or.inr (Or.inr ⟨fun e => b (BadK_sc.1 e), fun t L h1 h2 => ?_, rfl, rfl, rfl⟩)
    rw [scP_length] at h1
    rw [keP_sc, scP_length] at h2
    exact hn t L h1 (h2.unsc hc)
/-- noughts tell 1 and nothing -/
theorem KeyAns.nought {s known : List UInt8} (b : ¬ BadK s known) : KeyAns (scP s 0) known 0 [1] [] := by
  have eP : keP (scP s 0) known = fun _ => 0 := by rw [keP_sc]; funext j; exact zero_mu _
  have hz : ∀ L : Nat → UInt8, ∀ j, conv L (fun _ => 0) j = 0 := fun L j => conv_zero (fun _ => rfl) j
  have b' : ¬ BadK (scP s 0) known := fun e => b (BadK_sc.1 e)
  have hl : LeastLoc (keP (scP s 0) known) (scP s 0).length ((norm known).length - 1) 0 (cst 1) := by
    rw [eP]
    refine ⟨⟨fun i hi => cst_ne (by omega), cst_zero 1, fun j _ _ => hz _ j⟩, ?_, fun t' L' _ _ => Nat.zero_le _, fun L' h => ?_⟩
    · unfold BadK at b'; omega
    · funext j
      cases j with
      | zero => rw [h.top, cst_zero]
      | succ j => rw [h.fin _ (by omega), cst_ne (by omega)]
  have h := KeyAns.of_loc b' hl
  have e1 : upto (cst 1) (0 + 1) = [1] := by rfl
  have e2 : evaL (scP s 0) known 0 (cst 1) = [] := by
    unfold evaL
    rw [eP]
    have := mk_same (f := fun i => conv (cst 1) (fun _ => (0 : UInt8)) ((scP s 0).length + i)) (g := co []) (n := 0 + 1 + (known.length + (scP s 0).length)) (m := 0) (fun i _ => hz _ _) (co_fin []) (fun i => by rw [hz, co_nil])
    rw [this]; rfl
  rw [e1, e2] at h
  exact h
end Go.Proofs.YtddnfhfangfgeaaGreat.Gf

namespace Go.Proofs.YtddnfhfangfgeaaGreat.Gf
set_option linter.unusedVariables false
set_option linter.unusedSimpArgs false
/-- x and a number -/
def linF (x : UInt8) (i : Nat) : UInt8 := if i = 0 then x else if i = 1 then 1 else 0
theorem co_lin (x : UInt8) : co [x, 1] = linF x := by
  funext i
  rcases i with _ | _ | i
  · rfl
  · rfl
  · rw [co_ge (by simp)]; unfold linF; rw [if_neg (by omega), if_neg (by omega)]
theorem linF_fin (x : UInt8) : Fin0 (linF x) 2 := fun i hi => by unfold linF; rw [if_neg (by omega), if_neg (by omega)]
theorem lin_conv_zero (x : UInt8) (g : Nat → UInt8) : conv (linF x) g 0 = mu x (g 0) := by
  show S 1 _ = _
  rw [S, S, zero_x]; rfl
theorem lin_conv_succ (x : UInt8) (g : Nat → UInt8) (j : Nat) : conv (linF x) g (j + 1) = mu x (g (j + 1)) ^^^ g j := by
  unfold conv
  rw [S_head]
  congr 1
  rw [S_one (k := 0) (by omega) (fun i _ hi => by unfold linF; rw [if_neg (by omega), if_neg (by omega), zero_mu])]
  show mu 1 (g (j + 1 - (0 + 1))) = g j
  rw [one_mu]; rfl
theorem ev_lin (y x : UInt8) : ev 2 (linF y) x = x ^^^ y := by
  unfold ev
  rw [S, S, S, zero_x]
  show mu y (pwr x 0) ^^^ mu 1 (pwr x 1) = _
  show mu y 1 ^^^ mu 1 (mu 1 x) = _
  rw [mu_one, one_mu, one_mu, x_comm]
theorem ev_one (x : UInt8) : ev 1 (cst 1) x = 1 := by
  unfold ev
  rw [S, S, zero_x]
  show mu 1 1 = 1
  rw [one_mu]
/-- the product of x and each of the first n points -/
def locF (a : Nat → UInt8) : Nat → Nat → UInt8
  | 0 => cst 1
  | n + 1 => conv (locF a n) (linF (a n))
theorem locF_fin (a : Nat → UInt8) (n : Nat) : Fin0 (locF a n) (n + 1) := by
  induction n with
  | zero => exact fun i hi => cst_ne (by omega)
  | succ n ih => exact (ih.conv (linF_fin (a n))).mono (by omega)
theorem locF_top (a : Nat → UInt8) (n : Nat) : locF a n n = 1 := by
  induction n with
  | zero => rfl
  | succ n ih => rw [locF, conv_top (locF_fin a n) (linF_fin (a n)), ih, one_mu]; rfl
theorem locF_congr {a b : Nat → UInt8} {n : Nat} (h : ∀ i, i < n → a i = b i) : locF a n = locF b n := by
  induction n with
  | zero => rfl
  | succ n ih => rw [locF, locF, ih (fun i hi => h i (by omega)), h n (by omega)]
theorem locF_append (a : Nat → UInt8) (t n : Nat) : locF a (t + n) = conv (locF a t) (locF (fun i => a (t + i)) n) := by
  induction n with
  | zero => rw [Nat.add_zero, locF, conv_comm, one_conv]; funext j; rw [one_mu]
  | succ n ih => rw [← Nat.add_assoc, locF, ih, locF, conv_assoc]
theorem ev_loc (a : Nat → UInt8) (n : Nat) (x : UInt8) : ev (n + 1) (locF a n) x = PD a n x := by
  induction n with
  | zero => exact ev_one x
  | succ n ih =>
    have := ev_conv x (locF_fin a n) (linF_fin (a n))
    rw [ev_more x (f := conv (locF a n) (linF (a n))) (n := n + 1 + 1) (m := n + 1 + 2) ((locF_fin a n).conv (linF_fin (a n)) |>.mono (by omega)) (by omega)] at this
    rw [locF, this, ih, ev_lin, mu_comm, PD]
theorem PD_zero {a : Nat → UInt8} {n : Nat} {x : UInt8} : PD a n x = 0 ↔ ∃ i, i < n ∧ a i = x := by
  induction n with
  | zero => exact ⟨fun h => absurd (show (1 : UInt8) = 0 from h) (by decide), fun ⟨i, h, _⟩ => by omega⟩
  | succ n ih =>
    rw [PD, mu_eq_zero, ih]
    constructor
    · rintro (h | ⟨i, h1, h2⟩)
      · exact ⟨n, by omega, (x_eq_zero.1 h).symm⟩
      · exact ⟨i, by omega, h2⟩
    · rintro ⟨i, h1, h2⟩
      by_cases e : i = n
      · subst e; exact Or.inl (x_eq_zero.2 h2.symm)
      · exact Or.inr ⟨i, by omega, h2⟩
/-- the locator as a list -/
def locN (a : Nat → UInt8) (n : Nat) : List UInt8 := upto (locF a n) (n + 1)
def locL (ps : List UInt8) : List UInt8 := locN (co ps) ps.length
theorem co_locN (a : Nat → UInt8) (n : Nat) : co (locN a n) = locF a n := funext fun i => co_upto (locF_fin a n) i
theorem locN_length (a : Nat → UInt8) (n : Nat) : (locN a n).length = n + 1 := upto_length _ _
theorem locN_succ (a : Nat → UInt8) (n : Nat) : mulP (locN a n) [a n, 1] = locN a (n + 1) := by
  have e : conv (co (locN a n)) (co [a n, 1]) = locF a (n + 1) := by rw [co_locN, co_lin]; rfl
  have hl : (mulP (locN a n) [a n, 1]).length = n + 2 := by
    unfold mulP
    rw [mk_length, e]
    exact deg_unique ((locF_fin a (n + 1)).mono (by rw [locN_length]; simp)) (locF_fin a (n + 1)) (fun _ => by show locF a (n + 1) (n + 1) ≠ 0; rw [locF_top]; decide)
  refine co_ext (by rw [hl, locN_length]) fun i _ => ?_
  rw [co_mulP, e, co_locN]
theorem norm_locN (a : Nat → UInt8) (n : Nat) : norm (locN a n) = locN a n := by
  have hd : deg (co (locN a n)) (locN a n).length = n + 1 := by
    rw [co_locN]
    exact deg_unique ((locF_fin a n).mono (by rw [locN_length]; omega)) (locF_fin a n) (fun _ => by show locF a n n ≠ 0; rw [locF_top]; decide)
  refine co_ext (by unfold norm; rw [mk_length, hd, locN_length]) fun i _ => ?_
  rw [co_norm]
theorem evP_loc (ps : List UInt8) (x : UInt8) : evP (locL ps) x = PD (co ps) ps.length x := by
  unfold evP locL
  rw [locN_length, co_locN, ev_loc]
theorem root_div {f : Nat → UInt8} {n : Nat} (h : Fin0 f (n + 1)) (r : UInt8) (hr : ev (n + 1) f r = 0) : ∃ g, Fin0 g n ∧ f = conv (linF r) g := by
  refine ⟨fun i => S (n + 1) (fun k => if i < k then mu (f k) (pwr r (k - 1 - i)) else 0), fun i hi => S_zero fun k hk => if_neg (by omega), ?_⟩
  funext i
  cases i with
  | zero =>
    rw [lin_conv_zero, mu_S]
    have e : S (n + 1) (fun k => mu r (if 0 < k then mu (f k) (pwr r (k - 1 - 0)) else 0)) = S (n + 1) (fun k => mu (f k) (pwr r k) ^^^ (if k = 0 then f 0 else 0)) := S_congr fun k hk => by
      cases k with
      | zero => rw [if_neg (by omega), if_pos rfl, mu_zero]; show 0 = mu (f 0) 1 ^^^ f 0; rw [mu_one, x_self]
      | succ k => rw [if_pos (by omega), if_neg (by omega), x_zero, Nat.add_sub_cancel, Nat.sub_zero, pwr, mu_left, mu_comm r]
    rw [e, S_xor, S_one (k := 0) (by omega) (fun k _ hk => if_neg hk), if_pos rfl]
    have : S (n + 1) (fun k => mu (f k) (pwr r k)) = 0 := hr
    rw [this, zero_x]
  | succ i =>
    rw [lin_conv_succ, mu_S, ← S_xor]
    have e : S (n + 1) (fun k => mu r (if i + 1 < k then mu (f k) (pwr r (k - 1 - (i + 1))) else 0) ^^^ (if i < k then mu (f k) (pwr r (k - 1 - i)) else 0)) = S (n + 1) (fun k => if k = i + 1 then f (i + 1) else 0) := S_congr fun k hk => by
      by_cases h1 : i + 1 < k
      · rw [if_pos h1, if_pos (by omega), if_neg (by omega), show k - 1 - i = (k - 1 - (i + 1)) + 1 by omega, pwr, mu_left, mu_comm r, x_self]
      · rw [if_neg h1, mu_zero, zero_x]
        by_cases h2 : k = i + 1
        · subst h2; rw [if_pos (by omega), if_pos rfl, show i + 1 - 1 - i = 0 by omega]; exact mu_one _
        · rw [if_neg (by omega), if_neg h2]
    rw [e]
    by_cases hi : i + 1 < n + 1
    · rw [S_one (k := i + 1) hi (fun k _ hk => if_neg hk), if_pos rfl]
    · rw [h (i + 1) (by omega)]
      exact (S_zero fun k hk => if_neg (by omega)).symm
theorem roots_all {n : Nat} {f : Nat → UInt8} (h : Fin0 f n) (rs : Nat → UInt8) (hd : ∀ i j, i < n → j < n → i ≠ j → rs i ≠ rs j) (hr : ∀ i, i < n → ev n f (rs i) = 0) : ∀ i, f i = 0 := by
  induction n generalizing f with
  | zero => exact fun i => h i (Nat.zero_le _)
  | succ n ih =>
    obtain ⟨g, hg, e⟩ := root_div h (rs n) (hr n (by omega))
    have h0 := ih hg (fun i j hi hj => hd i j (by omega) (by omega)) (fun i hi => by
      have h1 := hr i (by omega)
      have h2 := ev_conv (rs i) (linF_fin (rs n)) hg
      rw [← e, ev_more (rs i) h (show n + 1 ≤ 2 + n by omega), h1, ev_lin] at h2
      rcases mu_eq_zero.1 h2.symm with h3 | h3
      · exact absurd (x_eq_zero.1 h3) (hd i n (by omega) (by omega) (by omega))
      · exact h3)
    intro i
    rw [e]; exact conv_zero h0 i
def peF (a : Nat → UInt8) (j : Nat) : Nat → Nat → UInt8
  | 0 => cst 1
  | n + 1 => if n = j then peF a j n else conv (peF a j n) (linF (a n))
theorem peF_fin (a : Nat → UInt8) (j n : Nat) : (n ≤ j → Fin0 (peF a j n) (n + 1)) ∧ (j < n → Fin0 (peF a j n) n) := by
  induction n with
  | zero => exact ⟨fun _ i hi => cst_ne (by omega), fun h => by omega⟩
  | succ n ih =>
    refine ⟨fun h => ?_, fun h => ?_⟩
    · rw [peF, if_neg (by omega)]; exact ((ih.1 (by omega)).conv (linF_fin (a n))).mono (by omega)
    · rw [peF]
      by_cases e : n = j
      · rw [if_pos e]; exact ih.1 (by omega)
      · rw [if_neg e]; exact ((ih.2 (by omega)).conv (linF_fin (a n))).mono (by omega)
theorem peF_far (a : Nat → UInt8) (j n : Nat) (h : n ≤ j) : peF a j n = locF a n := by
  induction n with
  | zero => rfl
  | succ n ih => rw [peF, if_neg (by omega), ih (by omega), locF]
theorem peF_mul (a : Nat → UInt8) {j n : Nat} (h : j < n) : locF a n = conv (peF a j n) (linF (a j)) := by
  induction n with
  | zero => omega
  | succ n ih =>
    by_cases e : n = j
    · subst e; rw [peF, if_pos rfl, peF_far a n n (Nat.le_refl _), locF]
    · rw [peF, if_neg e, locF, ih (by omega), conv_assoc, conv_assoc, conv_comm (linF (a j))]
theorem ev_pe (a : Nat → UInt8) (j n : Nat) (x : UInt8) : ev (n + 1) (peF a j n) x = PE a j n x := by
  induction n with
  | zero => exact ev_one x
  | succ n ih =>
    have hf : Fin0 (peF a j n) (n + 1) := by
      rcases Nat.lt_or_ge j n with h | h
      · exact ((peF_fin a j n).2 h).mono (by omega)
      · exact (peF_fin a j n).1 h
    rw [peF, PE]
    by_cases e : n = j
    · rw [if_pos e, if_pos e, ev_more x hf (by omega), ih]
    · rw [if_neg e, if_neg e]
      have := ev_conv x hf (linF_fin (a n))
      rw [ev_more x (f := conv (peF a j n) (linF (a n))) (n := n + 1 + 1) (m := n + 1 + 2) ((hf.conv (linF_fin (a n))).mono (by omega)) (by omega)] at this
      rw [this, ih, ev_lin, mu_comm]
theorem ev_pe' {a : Nat → UInt8} {j n : Nat} (h : j < n) (x : UInt8) : ev n (peF a j n) x = PE a j n x := by
  rw [← ev_pe]; exact (ev_more x ((peF_fin a j n).2 h) (by omega)).symm
theorem der_lin (x : UInt8) : der (linF x) = cst 1 := by
  funext i
  cases i with
  | zero => rfl
  | succ i =>
    unfold der
    rw [linF_fin x (i + 1 + 1) (by omega), cst_ne (by omega)]
    unfold od; split <;> rfl
/-- a locator's derivative at a point of its own -/
theorem ev_der {a : Nat → UInt8} {j n : Nat} (h : j < n) : ev (n + 2) (der (locF a n)) (a j) = PE a j n (a j) := by
  have hf := (peF_fin a j n).2 h
  rw [peF_mul a h, der_conv, der_lin, conv_comm (peF a j n) (cst 1), one_conv, ev_add]
  have e1 : ev (n + 2) (conv (der (peF a j n)) (linF (a j))) (a j) = 0 := by
    rw [ev_conv (a j) (hf.der.mono (by omega)) (linF_fin (a j)), ev_lin, x_self, mu_zero]
  have e2 : ev (n + 2) (fun i => mu 1 (peF a j n i)) (a j) = ev (n + 2) (peF a j n) (a j) := S_congr fun i _ => by show mu (mu 1 _) _ = _; rw [one_mu]
  rw [e1, e2, zero_x, ev_more (a j) hf (by omega), ev_pe' h]
def syP (a bv : Nat → UInt8) (N l : Nat) : UInt8 := S N (fun i => mu (bv i) (pwr (a i) l))
def geoF (x : UInt8) (m j : Nat) : UInt8 := if j < m then pwr x (m - 1 - j) else 0
theorem lin_geo (x : UInt8) (m j : Nat) : conv (linF x) (geoF x m) j = (if j = m then 1 else 0) ^^^ (if j = 0 then pwr x m else 0) := by
  cases j with
  | zero =>
    rw [lin_conv_zero, if_pos rfl]
    unfold geoF
    cases m with
    | zero => rw [if_neg (by omega), if_pos rfl, mu_zero]; exact (x_self 1).symm
    | succ m => rw [if_pos (by omega), if_neg (by omega), zero_x, Nat.add_sub_cancel, Nat.sub_zero, pwr, mu_comm]
  | succ j =>
    rw [lin_conv_succ, if_neg (show ¬ j + 1 = 0 by omega), x_zero]
    unfold geoF
    by_cases h1 : j + 1 < m
    · rw [if_pos h1, if_pos (by omega), if_neg (by omega), show m - 1 - j = (m - 1 - (j + 1)) + 1 by omega, pwr, mu_comm, x_self]
    · rw [if_neg h1, mu_zero, zero_x]
      by_cases h2 : j + 1 = m
      · rw [if_pos (by omega), if_pos h2, show m - 1 - j = 0 by omega]; rfl
      · rw [if_neg (by omega), if_neg h2]
theorem conv_Sum (f : Nat → UInt8) (n : Nat) (G : Nat → Nat → UInt8) (j : Nat) : conv f (fun i => S n (fun k => G k i)) j = S n (fun k => conv f (G k) j) := by
  unfold conv
  rw [← S_swap]
  exact S_congr fun i _ => mu_S _ _ _
/-- the turned one times all points' locator -/
theorem loc_turn {a bv : Nat → UInt8} {N m : Nat} (j : Nat) : conv (locF a N) (fun i => S N (fun k => mu (bv k) (geoF (a k) m i))) j = S N (fun k => mu (bv k) (shF m (peF a k N) j ^^^ mu (pwr (a k) m) (peF a k N j))) := by
  rw [conv_Sum]
  refine S_congr fun k hk => ?_
  rw [conv_smul]
  show mu (bv k) (conv (locF a N) (geoF (a k) m) j) = _
  congr 1
  have e : conv (linF (a k)) (geoF (a k) m) = addF (shF m (cst 1)) (cst (pwr (a k) m)) := by
    funext i
    rw [lin_geo, addF_at]
    congr 1
    by_cases h : m ≤ i
    · rw [shF_ge h]
      by_cases h2 : i = m
      · rw [if_pos h2, h2, Nat.sub_self, cst_zero]
      · rw [if_neg h2, cst_ne (by omega)]
    · rw [shF_low (by omega), if_neg (by omega)]
  rw [peF_mul a hk, conv_assoc, e, conv_add, addF_at, conv_shF, conv_comm _ (cst 1), one_conv, conv_comm _ (cst (pwr (a k) m)), one_conv]
  congr 1
  unfold shF
  split
  · exact one_mu _
  · rfl
end Go.Proofs.YtddnfhfangfgeaaGreat.Gf

namespace Go.Proofs.YtddnfhfangfgeaaGreat.Gf
set_option linter.unusedVariables false
set_option linter.unusedSimpArgs false
theorem ev_eq {f : Nat → UInt8} {n m : Nat} (x : UInt8) (h : Fin0 f n) (k : Fin0 f m) : ev n f x = ev m f x := by
  rw [← ev_more x h (show n ≤ n + m by omega), ← ev_more x k (show m ≤ n + m by omega)]
/-- what lies below m and what lies from m on -/
def lowF (m : Nat) (f : Nat → UInt8) (j : Nat) : UInt8 := if j < m then f j else 0
def higF (m : Nat) (f : Nat → UInt8) (j : Nat) : UInt8 := f (m + j)
theorem low_hig (m : Nat) (f : Nat → UInt8) : f = addF (lowF m f) (shF m (higF m f)) := by
  funext j
  rw [addF_at]
  by_cases h : j < m
  · rw [shF_low h, x_zero]; exact (if_pos h).symm
  · rw [shF_ge (by omega)]
    unfold lowF higF
    rw [if_neg h, zero_x, show m + (j - m) = j by omega]
theorem IsLoc.low {P : Nat → UInt8} {m e t : Nat} {L : Nat → UInt8} (h : IsLoc P m e t L) : Fin0 (lowF m (conv L P)) (e + t) := fun j hj => by
  unfold lowF
  by_cases h1 : j < m
  · rw [if_pos h1]; exact h.zero j hj h1
  · exact if_neg h1
/-- two locators and their evaluators -/
theorem loc_cross {P : Nat → UInt8} {m e t t' : Nat} {L L' : Nat → UInt8} (h : IsLoc P m e t L) (h' : IsLoc P m e t' L') (hm : t + t' + e ≤ m) : conv L (higF m (conv L' P)) = conv L' (higF m (conv L P)) := by
  have e0 : conv L (conv L' P) = conv L' (conv L P) := conv_left _ _ _
  rw [low_hig m (conv L' P), low_hig m (conv L P), conv_add, conv_add, conv_shF, conv_shF] at e0
  funext p
  have := congrFun e0 (p + m)
  rw [addF_at, addF_at, shF_high, shF_high, (h.fin.conv h'.low) _ (by omega), (h'.fin.conv h.low) _ (by omega), zero_x, zero_x] at this
  rw [low_hig m (conv L' P), low_hig m (conv L P)]
  have e1 : ∀ f : Nat → UInt8, higF m (addF (lowF m f) (shF m (higF m f))) = higF m f := fun f => by rw [← low_hig]
  rw [e1, e1]
  exact this
section
variable {a bv : Nat → UInt8} {t e m : Nat}
/-- the turned one of what points make -/
def tuF (a bv : Nat → UInt8) (N m : Nat) (i : Nat) : UInt8 := S N (fun k => mu (bv k) (geoF (a k) m i))
/-- the evaluator -/
def omF (a bv : Nat → UInt8) (N : Nat) (p : Nat) : UInt8 := S N (fun k => mu (bv k) (peF a k N p))
theorem om_fin (a bv : Nat → UInt8) (N : Nat) : Fin0 (omF a bv N) N := fun p hp => S_zero fun k hk => by rw [(peF_fin a k N).2 hk p hp, mu_zero]
theorem om_at {N j : Nat} (hj : j < N) : ev N (omF a bv N) (a j) = mu (bv j) (PE a j N (a j)) := by
  have e1 : ev N (omF a bv N) (a j) = S N (fun k => mu (bv k) (ev N (peF a k N) (a j))) := by
    unfold ev omF
    rw [S_congr (fun i _ => S_mu _ _ _), S_swap]
    refine S_congr fun k _ => ?_
    rw [mu_S]
    exact S_congr fun i _ => mu_assoc _ _ _
  rw [e1, S_one hj (fun k hk hne => by rw [ev_pe' hk, PE_other a hj (fun h => hne h.symm), mu_zero]), ev_pe' hj]
theorem tu_loc (hm : 2 * t + e ≤ m) (j : Nat) (h1 : t + e ≤ j) (h2 : j < m) : conv (locF a (t + e)) (tuF a bv (t + e) m) j = 0 := by
  have := loc_turn (a := a) (bv := bv) (N := t + e) (m := m) j
  unfold tuF
  rw [this]
  exact S_zero fun k hk => by rw [shF_low h2, (peF_fin a k (t + e)).2 hk j h1, mu_zero, zero_x, mu_zero]
theorem tu_om (hm : 2 * t + e ≤ m) : higF m (conv (locF a (t + e)) (tuF a bv (t + e) m)) = omF a bv (t + e) := by
  funext p
  have := loc_turn (a := a) (bv := bv) (N := t + e) (m := m) (m + p)
  unfold higF tuF
  rw [this]
  exact S_congr fun k hk => by rw [shF_ge (by omega), Nat.add_sub_cancel_left, (peF_fin a k (t + e)).2 hk (m + p) (by omega), mu_zero, x_zero]
/-- the least locator is that of the points -/
theorem find_least (hm : 2 * t + e ≤ m) (hd : ∀ i j, i < t + e → j < t + e → i ≠ j → a i ≠ a j) (hb : ∀ i, i < t → bv i ≠ 0) :
    LeastLoc (conv (locF (fun i => a (t + i)) e) (tuF a bv (t + e) m)) m e t (locF a t) := by
  have hW : conv (locF a t) (conv (locF (fun i => a (t + i)) e) (tuF a bv (t + e) m)) = conv (locF a (t + e)) (tuF a bv (t + e) m) := by rw [← conv_assoc, ← locF_append]
  have hL : IsLoc (conv (locF (fun i => a (t + i)) e) (tuF a bv (t + e) m)) m e t (locF a t) :=
    ⟨locF_fin a t, locF_top a t, fun j h1 h2 => by rw [hW]; exact tu_loc hm j (by omega) h2⟩
  -- each locator has the points as roots
  have root : ∀ t' L', t' ≤ t → IsLoc (conv (locF (fun i => a (t + i)) e) (tuF a bv (t + e) m)) m e t' L' → ∀ j, j < t → ev (t' + 1) L' (a j) = 0 := fun t' L' htt h' j hj => by
    have c := loc_cross hL h' (by omega)
    rw [hW, tu_om hm] at c
    obtain ⟨n, hn⟩ : ∃ n, Fin0 (higF m (conv L' (conv (locF (fun i => a (t + i)) e) (tuF a bv (t + e) m)))) n := by
      have hT : Fin0 (tuF a bv (t + e) m) m := fun i hi => S_zero fun k _ => by unfold geoF; rw [if_neg (by omega), mu_zero]
      exact ⟨t' + 1 + (e + 1 + m), fun i hi => (h'.fin.conv ((locF_fin (fun i => a (t + i)) e).conv hT)) (m + i) (by omega)⟩
    have e1 := ev_conv (a j) (locF_fin a t) hn
    have e2 := ev_conv (a j) h'.fin (om_fin a bv (t + e))
    rw [ev_loc, PD_zero.2 ⟨j, hj, rfl⟩, zero_mu] at e1
    rw [om_at (by omega)] at e2
    have e3 : ev (t + 1 + n) (conv (locF a t) (higF m (conv L' (conv (locF (fun i => a (t + i)) e) (tuF a bv (t + e) m))))) (a j) = ev (t' + 1 + (t + e)) (conv L' (omF a bv (t + e))) (a j) := by
      rw [← c]
      exact ev_eq (a j) (((locF_fin a t).conv hn).mono (by omega)) (by rw [c]; exact (h'.fin.conv (om_fin a bv (t + e))).mono (by omega))
    rw [e1, e2] at e3
    rcases mu_eq_zero.1 e3.symm with h0 | h0
    · exact h0
    · rcases mu_eq_zero.1 h0 with h0 | h0
      · exact absurd h0 (hb j hj)
      · exact absurd h0 (PE_own a j (t + e) fun l hl hne h => hd j l (by omega) hl (fun x => hne x.symm) (x_eq_zero.1 h))
  refine ⟨hL, hm, fun t' L' h1 h2 => ?_, fun L' h2 => ?_⟩
  · rcases Nat.lt_or_ge t' t with h | h
    · have := roots_all h2.fin a (fun i j hi hj => hd i j (by omega) (by omega)) (fun i hi => root t' L' (by omega) h2 i (by omega)) t'
      rw [h2.top] at this
      cases this
    · exact h
  · have hD : Fin0 (addF L' (locF a t)) t := fun i hi => by
      rw [addF_at]
      by_cases e0 : i = t
      · rw [e0, h2.top, locF_top, x_self]
      · rw [h2.fin i (by omega), locF_fin a t i (by omega), x_self]
    have := roots_all hD a (fun i j hi hj => hd i j (by omega) (by omega)) (fun i hi => by
      rw [← ev_more (a i) hD (show t ≤ t + 1 by omega), ev_add, root t L' (Nat.le_refl _) h2 i hi, ev_loc, PD_zero.2 ⟨i, hi, rfl⟩]; rfl)
    funext i
    exact x_eq_zero.1 (this i)
end
section
variable {s pts ks bs zs : List UInt8}
/-- s are the syndromes of all points -/
def SyOf (s pts ks bs zs : List UInt8) : Prop := ∀ l, l < s.length → co s l = syP (co (pts ++ ks)) (co (bs ++ zs)) (pts.length + ks.length) l
theorem find_keP (hs : SyOf s pts ks bs zs) : keP s (locL ks) = conv (locF (fun i => co (pts ++ ks) (pts.length + i)) ks.length) (tuF (co (pts ++ ks)) (co (bs ++ zs)) (pts.length + ks.length) s.length) := by
  unfold keP
  have e1 : co (locL ks) = locF (fun i => co (pts ++ ks) (pts.length + i)) ks.length := by
    unfold locL
    rw [co_locN]
    exact locF_congr fun i hi => by rw [co_append_ge (by omega), Nat.add_sub_cancel_left]
  have e2 : co s.reverse = tuF (co (pts ++ ks)) (co (bs ++ zs)) (pts.length + ks.length) s.length := by
    funext i
    unfold tuF
    by_cases h : i < s.length
    · rw [co_rev h, hs _ (by omega)]
      exact S_congr fun k _ => by unfold geoF; rw [if_pos h]
    · rw [co_ge (by rw [List.length_reverse]; omega)]
      exact (S_zero fun k _ => by unfold geoF; rw [if_neg h, mu_zero]).symm
  rw [e1, e2]
theorem find_norm (ks : List UInt8) : (norm (locL ks)).length = ks.length + 1 := by unfold locL; rw [norm_locN, locN_length]
theorem find_loc (pts ks : List UInt8) : upto (locF (co (pts ++ ks)) pts.length) (pts.length + 1) = locL pts := by
  unfold locL locN
  rw [locF_congr fun i hi => co_append_lt hi]
theorem find_ok (hs : SyOf s pts ks bs zs) (hm : 2 * pts.length + ks.length ≤ s.length) (hb : bs.length = pts.length)
    (hd : ∀ i j, i < pts.length + ks.length → j < pts.length + ks.length → i ≠ j → co (pts ++ ks) i ≠ co (pts ++ ks) j) (h0 : ∀ i, i < pts.length → co bs i ≠ 0) :
    KeyAns s (locL ks) 0 (locL pts) (evaL s (locL ks) pts.length (locF (co (pts ++ ks)) pts.length)) := by
  have hl := find_least (bv := co (bs ++ zs)) hm hd (fun i hi => by rw [co_append_lt (by omega)]; exact h0 i hi)
  have nb : ¬ BadK s (locL ks) := by unfold BadK; rw [find_norm]; omega
  have := KeyAns.of_loc (t := pts.length) (L := locF (co (pts ++ ks)) pts.length) nb (by rw [find_norm, Nat.add_sub_cancel, find_keP hs]; exact hl)
  rw [find_loc] at this
  exact this
/-- the derivative's value at a point -/
theorem find_der (pts ks : List UInt8) {j : Nat} (hj : j < pts.length + ks.length) :
    evP (derP (mulP (locL pts) (locL ks))) (co (pts ++ ks) j) = PE (co (pts ++ ks)) j (pts.length + ks.length) (co (pts ++ ks) j) := by
  have e1 : co (mulP (locL pts) (locL ks)) = locF (co (pts ++ ks)) (pts.length + ks.length) := by
    rw [co_mulP]
    unfold locL
    rw [co_locN, co_locN, locF_append]
    congr 1
    · exact locF_congr fun i hi => (co_append_lt hi).symm
    · exact locF_congr fun i hi => by rw [co_append_ge (by omega), Nat.add_sub_cancel_left]
  rw [← ev_der hj]
  unfold evP
  have e2 := co_derP (mulP (locL pts) (locL ks))
  rw [e1] at e2
  rw [e2]
  exact ev_eq _ (by rw [← e2]; exact co_fin _) ((locF_fin _ _).der.mono (by omega))
theorem find_ne (hd : ∀ i j, i < pts.length + ks.length → j < pts.length + ks.length → i ≠ j → co (pts ++ ks) i ≠ co (pts ++ ks) j) {j : Nat} (hj : j < pts.length + ks.length) :
    PE (co (pts ++ ks)) j (pts.length + ks.length) (co (pts ++ ks) j) ≠ 0 :=
  PE_own _ j _ fun l hl hne h => hd j l hj hl (fun x => hne x.symm) (x_eq_zero.1 h)
end
end Go.Proofs.YtddnfhfangfgeaaGreat.Gf

namespace Go.Proofs.YtddnfhfangfgeaaGreat.Gf
set_option linter.unusedVariables false
set_option linter.unusedSimpArgs false
theorem conv_zero_top {f g : Nat → UInt8} {n m : Nat} (hf : Fin0 f (n + 1)) (h1 : f n = 1) (hg : Fin0 g m) (h : ∀ j, n ≤ j → conv f g j = 0) : ∀ i, g i = 0 := by
  induction m with
  | zero => exact fun i => hg i (Nat.zero_le _)
  | succ m ih =>
    have e := conv_top hf hg
    rw [h _ (by omega), h1, one_mu] at e
    refine ih fun i hi => ?_
    by_cases q : i = m
    · rw [q]; exact e.symm
    · exact hg i (by omega)
theorem tuF_fin (a bv : Nat → UInt8) (N m : Nat) : Fin0 (tuF a bv N m) m := fun i hi => S_zero fun k _ => by unfold geoF; rw [if_neg (by omega), mu_zero]
/-- the turned one is what the points make, by the numbers that the evaluator tells -/
theorem loc_back {a bv T : Nat → UInt8} {N m : Nat} (hN : N ≤ m) (hd : ∀ i j, i < N → j < N → i ≠ j → a i ≠ a j) (hT : Fin0 T m) (h : ∀ j, N ≤ j → j < m → conv (locF a N) T j = 0)
    (hb : ∀ j, j < N → mu (bv j) (PE a j N (a j)) = ev N (higF m (conv (locF a N) T)) (a j)) : T = tuF a bv N m := by
  have hH : Fin0 (higF m (conv (locF a N) T)) N := fun i hi => ((locF_fin a N).conv hT) (m + i) (by omega)
  have hz := roots_all (hH.add (om_fin a bv N)) a hd fun i hi => by rw [ev_add, om_at hi, hb i hi, x_self]
  have tl := tu_loc (a := a) (bv := bv) (t := 0) (e := N) (m := m) (by omega)
  have tO := tu_om (a := a) (bv := bv) (t := 0) (e := N) (m := m) (by omega)
  rw [Nat.zero_add] at tl tO
  have z := conv_zero_top (locF_fin a N) (locF_top a N) (hT.add (tuF_fin a bv N m)) fun j hj => by
    rw [conv_add, addF_at]
    by_cases hlt : j < m
    · rw [h j hj hlt, tl j hj hlt, x_self]
    · obtain ⟨i, rfl⟩ : ∃ i, j = m + i := ⟨j - m, by omega⟩
      have e1 : conv (locF a N) (tuF a bv N m) (m + i) = omF a bv N i := congrFun tO i
      rw [e1]
      exact hz i
  funext i
  exact x_eq_zero.1 (z i)
/-- .. as lists -/
theorem find_made {s pts ks bs zs : List UInt8} (hm : pts.length + ks.length ≤ s.length)
    (hd : ∀ i j, i < pts.length + ks.length → j < pts.length + ks.length → i ≠ j → co (pts ++ ks) i ≠ co (pts ++ ks) j)
    (hl : ∀ j, pts.length + ks.length ≤ j → j < s.length → conv (locF (co pts) pts.length) (keP s (locL ks)) j = 0)
    (hv : ∀ j, j < pts.length + ks.length → mu (co (bs ++ zs) j) (PE (co (pts ++ ks)) j (pts.length + ks.length) (co (pts ++ ks) j)) = evP (evaL s (locL ks) pts.length (locF (co pts) pts.length)) (co (pts ++ ks) j)) : SyOf s pts ks bs zs := by
  have hT : Fin0 (co s.reverse) s.length := fun i hi => co_ge (by rw [List.length_reverse]; exact hi)
  have e0 : locF (co (pts ++ ks)) (pts.length + ks.length) = conv (locF (co pts) pts.length) (co (locL ks)) := by
    rw [locF_append]
    unfold locL
    rw [co_locN]
    congr 1
    · exact locF_congr fun i hi => co_append_lt hi
    · exact locF_congr fun i hi => by rw [co_append_ge (by omega), Nat.add_sub_cancel_left]
  have e1 : conv (locF (co (pts ++ ks)) (pts.length + ks.length)) (co s.reverse) = conv (locF (co pts) pts.length) (keP s (locL ks)) := by
    unfold keP
    rw [e0, conv_assoc]
  have hH : Fin0 (higF s.length (conv (locF (co (pts ++ ks)) (pts.length + ks.length)) (co s.reverse))) (pts.length + ks.length) := fun i hi => ((locF_fin _ _).conv hT) (s.length + i) (by omega)
  have e2 : co (evaL s (locL ks) pts.length (locF (co pts) pts.length)) = higF s.length (conv (locF (co (pts ++ ks)) (pts.length + ks.length)) (co s.reverse)) := by
    unfold evaL
    rw [co_mk (eva_fin (locF_fin _ _)), e1]; rfl
  have key := loc_back (a := co (pts ++ ks)) (bv := co (bs ++ zs)) hm hd hT (fun j h1 h2 => by rw [e1]; exact hl j h1 h2) (fun j hj => by
    rw [hv j hj]
    unfold evP
    rw [e2]
    exact ev_eq _ (by rw [← e2]; exact co_fin _) hH)
  intro l hll
  have e3 : co s l = co s.reverse (s.length - 1 - l) := by rw [co_rev (by omega)]; congr 1; omega
  rw [e3, key]
  unfold tuF syP
  refine S_congr fun k _ => ?_
  unfold geoF
  rw [if_pos (by omega), show s.length - 1 - (s.length - 1 - l) = l by omega]
end Go.Proofs.YtddnfhfangfgeaaGreat.Gf

namespace Go.Proofs.YtddnfhfangfgeaaGreat.Gf
set_option linter.unusedVariables false
set_option linter.unusedSimpArgs false
theorem nmF_one_pwr (x : UInt8) (l : Nat) : nmF 1 x l = pwr x l := by
  induction l with
  | zero => rfl
  | succ l ih => rw [nmF, pwr, ih]
/-- a sum over some places -/
theorem S_plc (p : Nat → Bool) (f : Nat → UInt8) (n : Nat) : S (cnt p n) (fun j => f ((plc p n).getD j 0)) = S n (fun i => if p i then f i else 0) := by
  induction n with
  | zero => rfl
  | succ n ih =>
    have hc : S (cnt p n) (fun j => f ((plc p (n + 1)).getD j 0)) = S (cnt p n) (fun j => f ((plc p n).getD j 0)) := S_congr fun j hj => by
      rw [plc_succ, ← plc_length] at *
      rw [show (plc p n ++ if p n then [n] else []).getD j 0 = (plc p n).getD j 0 by simp [List.getD, List.getElem?_append_left hj]]
    show _ = S n (fun i => if p i then f i else 0) ^^^ (if p n then f n else 0)
    rw [← ih, ← hc]
    cases e : p n
    · have : cnt p (n + 1) = cnt p n := by rw [cnt, e]; rfl
      rw [this]
      simp
    · have h1 : cnt p (n + 1) = cnt p n + 1 := by rw [cnt, e]; rfl
      rw [h1]
      show S (cnt p n) (fun j => f ((plc p (n + 1)).getD j 0)) ^^^ f ((plc p (n + 1)).getD (cnt p n) 0) = _
      have h2 : (plc p (n + 1)).getD (cnt p n) 0 = n := by
        rw [plc_succ, e, ← plc_length]
        simp [List.getD]
      rw [h2]; rfl
theorem co_map {L : List Nat} {f : Nat → UInt8} {j : Nat} (hj : j < L.length) : co (L.map f) j = f (L.getD j 0) := by
  rw [co_lt (by rw [List.length_map]; exact hj)]
  simp [List.getD, hj]
/-- what points of places make -/
theorem syP_plc {p q : Nat → Bool} (hd : ∀ i, p i = true → q i = false) (v : Nat → UInt8) (n l : Nat) :
    syP (co ((plc p n).map pt ++ (plc q n).map pt)) (co ((plc p n).map v ++ (plc q n).map v)) (((plc p n).map pt).length + ((plc q n).map pt).length) l = S n (fun i => if p i || q i then mu (v i) (pwr (pt i) l) else 0) := by
  unfold syP
  rw [S_split, List.length_map, List.length_map]
  have e1 : S (plc p n).length (fun i => mu (co ((plc p n).map v ++ (plc q n).map v) i) (pwr (co ((plc p n).map pt ++ (plc q n).map pt) i) l)) = S n (fun i => if p i then mu (v i) (pwr (pt i) l) else 0) := by
    rw [← S_plc p (fun i => mu (v i) (pwr (pt i) l)), plc_length]
    exact S_congr fun i hi => by
      rw [← plc_length] at hi
      rw [co_append_lt (by rw [List.length_map]; exact hi), co_append_lt (by rw [List.length_map]; exact hi), co_map hi, co_map hi]
  have e2 : S (plc q n).length (fun i => mu (co ((plc p n).map v ++ (plc q n).map v) ((plc p n).length + i)) (pwr (co ((plc p n).map pt ++ (plc q n).map pt) ((plc p n).length + i)) l)) = S n (fun i => if q i then mu (v i) (pwr (pt i) l) else 0) := by
    rw [← S_plc q (fun i => mu (v i) (pwr (pt i) l)), plc_length q]
    exact S_congr fun i hi => by
      rw [← plc_length] at hi
      rw [co_append_ge (by rw [List.length_map]; omega), co_append_ge (by rw [List.length_map]; omega), List.length_map, List.length_map, Nat.add_sub_cancel_left, co_map hi, co_map hi]
  rw [e1, e2, ← S_xor]
  refine S_congr fun i hi => ?_
  cases a : p i
  · cases b : q i <;> simp
  · rw [hd i a]; simp
/-- points of unlike places are unlike -/
theorem pts_apart {p q : Nat → Bool} {n : Nat} (hn : n ≤ 256) (hd : ∀ i, p i = true → q i = false) : ∀ i j, i < ((plc p n).map pt).length + ((plc q n).map pt).length → j < ((plc p n).map pt).length + ((plc q n).map pt).length → i ≠ j →
    co ((plc p n).map pt ++ (plc q n).map pt) i ≠ co ((plc p n).map pt ++ (plc q n).map pt) j := by
  intro i j hi hj hne e
  rw [← List.map_append] at e
  rw [← List.length_append, ← List.map_append, List.length_map] at hi hj
  rw [co_map hi, co_map hj] at e
  have hnd : (plc p n ++ plc q n).Nodup := by
    rw [List.nodup_append]
    exact ⟨plc_nodup p n, plc_nodup q n, fun a ha b hb hab => by
      subst hab
      have := hd a (plc_mem.1 ha).2
      rw [(plc_mem.1 hb).2] at this
      cases this⟩
  have hlt : ∀ i, i < (plc p n ++ plc q n).length → (plc p n ++ plc q n).getD i 0 < 256 := fun i hi => by
    have hm := List.getElem_mem hi
    have : (plc p n ++ plc q n)[i] < n := by
      rcases List.mem_append.1 hm with h | h
      · exact (plc_mem.1 h).1
      · exact (plc_mem.1 h).1
    simp only [List.getD, List.getElem?_eq_getElem hi, Option.getD_some]
    omega
  have e2 := pt_inj (hlt i hi) (hlt j hj) e
  simp only [List.getD, List.getElem?_eq_getElem hi, List.getElem?_eq_getElem hj, Option.getD_some] at e2
  have hpw := List.pairwise_iff_getElem.1 hnd
  rcases Nat.lt_or_gt_of_ne hne with h | h
  · exact hpw i j hi hj h e2
  · exact hpw j i hj hi h e2.symm
/-- by what a place is wrong, times its weight -/
def byF (k m : Nat) (z c : Nat → UInt8) (i : Nat) : UInt8 := mu (z i ^^^ c i) (wtF k m i)
/-- a word near one of the code: its syndromes -/
theorem near_sy {k m : Nat} {z c : Nat → UInt8} {ms : Nat → Bool} (hc : CodeW k m c) : SyOf (upto (synF k m z) m) ((plc (wrg z c ms) (k + m)).map pt) ((plc ms (k + m)).map pt) ((plc (wrg z c ms) (k + m)).map (byF k m z c)) ((plc ms (k + m)).map (byF k m z c)) := by
  intro l hl
  rw [upto_length] at hl
  rw [co_upto_in hl, syP_plc (fun i h => by unfold wrg at h; simp at h; exact h.1)]
  have e : synF k m z l = synF k m (fun i => z i ^^^ c i) l := by
    have := synF_add (k := k) (m := m) (l := l) (z := z) (y := c) (x := fun i => z i ^^^ c i) (fun i _ => rfl)
    rw [this, hc l hl, x_zero]
  rw [e]
  unfold synF
  refine S_congr fun i hi => ?_
  rw [nmF_one_pwr]
  by_cases h : wrg z c ms i || ms i
  · rw [if_pos h]; rfl
  · rw [if_neg h]
    have h0 : c i = z i := by
      refine Classical.byContradiction fun q => h ?_
      cases em : ms i <;> simp [wrg, em, q]
    show mu (mu (z i ^^^ c i) (wtF k m i)) (pwr (pt i) l) = 0
    rw [h0, x_self, zero_mu, zero_mu]
/-- what the equation tells of a word near one of the code: its locator is that of the places that are wrong -/
theorem near_key {k m : Nat} {z c : Nat → UInt8} {ms : Nat → Bool} (h2 : k + m ≤ 256) (hc : Near k m z ms c) :
    KeyAns (upto (synF k m z) m) (locL ((plc ms (k + m)).map pt)) 0 (locL ((plc (wrg z c ms) (k + m)).map pt))
      (evaL (upto (synF k m z) m) (locL ((plc ms (k + m)).map pt)) ((plc (wrg z c ms) (k + m)).map pt).length (locF (co ((plc (wrg z c ms) (k + m)).map pt ++ (plc ms (k + m)).map pt)) ((plc (wrg z c ms) (k + m)).map pt).length)) := by
  have hf := hc.few
  refine find_ok (near_sy hc.code) (by rw [upto_length, List.length_map, List.length_map, plc_length, plc_length]; exact hf) (by rw [List.length_map, List.length_map]) (pts_apart h2 (fun i h => by unfold wrg at h; simp at h; exact h.1)) fun i hi => ?_
  rw [List.length_map] at hi
  rw [co_map hi]
  have hm : (plc (wrg z c ms) (k + m)).getD i 0 ∈ plc (wrg z c ms) (k + m) := by
    simp only [List.getD, List.getElem?_eq_getElem hi, Option.getD_some]
    exact List.getElem_mem hi
  obtain ⟨g1, g2⟩ := plc_mem.1 hm
  generalize (plc (wrg z c ms) (k + m)).getD i 0 = r at *
  unfold wrg at g2
  simp at g2
  unfold byF
  exact mu_ne (fun q => g2.2 (x_eq_zero.1 q).symm) (wtF_ne h2 (by omega))
/-- a word whose syndromes are made by the points of some places, taken off there, is one of the code -/
theorem sy_code {k m : Nat} {z v : Nat → UInt8} {p q : Nat → Bool} (h2 : k + m ≤ 256) (hd : ∀ i, p i = true → q i = false)
    (hs : SyOf (upto (synF k m z) m) ((plc p (k + m)).map pt) ((plc q (k + m)).map pt) ((plc p (k + m)).map v) ((plc q (k + m)).map v)) :
    CodeW k m (fun i => z i ^^^ (if p i || q i then mu (v i) (iv (wtF k m i)) else 0)) := by
  intro l hl
  have e := hs l (by rw [upto_length]; exact hl)
  rw [co_upto_in hl, syP_plc hd] at e
  rw [synF_add (z := z) (y := fun i => if p i || q i then mu (v i) (iv (wtF k m i)) else 0) (fun i _ => rfl), e]
  unfold synF
  rw [← S_xor]
  refine S_zero fun i hi => ?_
  show (if p i || q i then mu (v i) (pwr (pt i) l) else 0) ^^^ mu (mu (if p i || q i then mu (v i) (iv (wtF k m i)) else 0) (wtF k m i)) (nmF 1 (pt i) l) = 0
  by_cases h : (p i || q i) = true
  · rw [if_pos h, if_pos h, mu_assoc (v i), mu_comm (iv _), mu_iv (wtF_ne h2 (by omega)), mu_one, nmF_one_pwr, x_self]
  · rw [if_neg h, if_neg h, zero_mu, zero_mu, x_self]
end Go.Proofs.YtddnfhfangfgeaaGreat.Gf

namespace Go.Proofs.YtddnfhfangfgeaaGreat.Gf
set_option linter.unusedVariables false
set_option linter.unusedSimpArgs false
/-- there is a word of the code near -/
def IsNear (k m : Nat) (z : List UInt8) (ms : List Bool) : Prop := ∃ c, Near k m (co z) (hb ms) c
/-- the word, and its places are as many as they must be -/
def OkW (k m : Int) (z : List UInt8) (ms : List Bool) : Prop := (z.length : Int) = k + m ∧ (ms.length : Int) = k + m
noncomputable def nearF (k m : Nat) (z : List UInt8) (ms : List Bool) : Nat → UInt8 := by
  classical
  exact if h : IsNear k m z ms then h.choose else fun _ => 0
theorem nearF_is {k m : Nat} {z : List UInt8} {ms : List Bool} (h : IsNear k m z ms) : Near k m (co z) (hb ms) (nearF k m z ms) := by
  unfold nearF
  rw [dif_pos h]
  exact h.choose_spec
open Classical in
noncomputable def wdX (k m : Int) (z : List UInt8) (ms : List Bool) : Int := if OkC k m then (if OkW k m z ms then (if IsNear k.toNat m.toNat z ms then 0 else 100) else 60) else 50
open Classical in
noncomputable def wdR (k m : Int) (z : List UInt8) (ms : List Bool) : List UInt8 := if OkC k m ∧ OkW k m z ms ∧ IsNear k.toNat m.toNat z ms then upto (nearF k.toNat m.toNat z ms) (k.toNat + m.toNat) else []
open Classical in
noncomputable def wdP (k m : Int) (z : List UInt8) (ms : List Bool) : List Nat := if OkC k m ∧ OkW k m z ms ∧ IsNear k.toNat m.toNat z ms then plc (wrg (co z) (nearF k.toNat m.toNat z ms) (hb ms)) (k.toNat + m.toNat) else []
theorem wd_many {k m : Nat} {z : List UInt8} {ms : List Bool} (c : OkC k m) (d : OkW k m z ms) (e : ¬ IsNear k m z ms) : wdX k m z ms = 100 ∧ wdR k m z ms = [] ∧ wdP k m z ms = [] :=
  ⟨by unfold wdX; rw [if_pos c, if_pos d]; exact if_neg e, by unfold wdR; rw [if_neg fun q => e q.2.2], by unfold wdP; rw [if_neg fun q => e q.2.2]⟩
/-- whichever near one is found is the one that is told -/
theorem wd_ok {k m : Nat} {z : List UInt8} {ms : List Bool} {c : Nat → UInt8} (o : OkC k m) (d : OkW k m z ms) (h : Near k m (co z) (hb ms) c) : wdX k m z ms = 0 ∧ wdR k m z ms = upto c (k + m) ∧ wdP k m z ms = plc (wrg (co z) c (hb ms)) (k + m) := by
  have hI : IsNear k m z ms := ⟨c, h⟩
  have h2 : k + m ≤ 256 := by have := o.2.2; omega
  have hu := (nearF_is hI).unique h2 h
  refine ⟨by unfold wdX; rw [if_pos o, if_pos d]; exact if_pos hI, ?_, ?_⟩
  · unfold wdR
    rw [if_pos ⟨o, d, hI⟩]
    exact upto_congr fun i hi => hu i hi
  · unfold wdP
    rw [if_pos ⟨o, d, hI⟩]
    show plc (wrg (co z) (nearF k m z ms) (hb ms)) (k + m) = _
    unfold plc
    refine List.filter_congr fun i hi => ?_
    unfold wrg
    rw [hu i (List.mem_range.1 hi)]
end Go.Proofs.YtddnfhfangfgeaaGreat.Gf

