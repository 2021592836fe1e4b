/- TEXTS JOINED: SyCB, KeMath, KeAns. -/
import Derived.Test.YtddnfhfangfgeaaGreatChecked
import GoSem.Claim
import GoSem.ClaimJoined
import GoSem.ClaimMapViews
import Derived.JoinedTies
import Derived.KernelRfl
import Derived.WalkKit
import Derived.Deep.QuietTactic
import Derived.BigQuiet
import Derived.WalkLawsBesides
import Derived.WalkSpells
import Derived.OpenShut
import Derived.Deep.AppendLies
import Derived.Laws.CopyOwn
import Derived.Laws.AppendOwnNone
import Derived.Deep.RegionHeld3
import Derived.Test.YtddnfhfangfgeaaGreatRows
import Derived.Test.YtddnfhfangfgeaaGreatTome2
import Derived.Test.YtddnfhfangfgeaaGreatTome3
import Derived.Test.YtddnfhfangfgeaaGreatTome1
import Derived.Test.YtddnfhfangfgeaaGreatTome10
import Derived.Test.YtddnfhfangfgeaaGreatTome9
import Derived.Test.YtddnfhfangfgeaaGreatTome11
import Derived.Test.YtddnfhfangfgeaaGreatTome13
namespace Go.Proofs.YtddnfhfangfgeaaGreat.Gf
set_option linter.unusedVariables false
set_option linter.unusedSimpArgs false
open Go.RowKit
/-- What a call that answers bytes and an error leaves. -/
def MakesP (w : World) (x : Int) (p : List UInt8) (e : Ending) (w' : World) : Prop := ∃ v, e = .returned (.tuple #[v, .int .i64 x]) ∧ Rd w' v p ∧ Below w.heap.size w w'
theorem rd_nil (w : World) : Rd w (.slice none 0 0) [] := Or.inl ⟨none, 0, rfl, rfl, Nat.zero_le _, fun _ => rfl⟩
set_option maxRecDepth 100000 in
set_option maxHeartbeats 1000000 in
theorem wts_bad {b : Nat} {k m : Int} (w : World) (h : ¬ OkC k m) : Calls Tryz.prog 133 #[.pointer (some ⟨b, 0, none⟩), .int .i64 k, .int .i64 m] w (MakesP w 50 []) := by
  go_enter Tryz.func133, Tryz.ntmps133
  go_wp2_with fail
  refine (ccheck_same_bad _ h).mono ?_
  rintro e w2 ⟨rfl, rfl⟩
  clear h
  go_wp2
  exact bodyPost_ret (v := .tuple #[.slice none 0 0, .int .i64 50]) (by simp [results, Tryz.results133, go_sem]) rfl ⟨_, rfl, rd_nil _, Below.refl _ _⟩
/-- the first n numbers of f -/
def upF (f : Nat → UInt8) (n t : Nat) : UInt8 := if t < n then f t else 0
theorem upF_zero (f : Nat → UInt8) (t : Nat) : upF f 0 t = 0 := if_neg (Nat.not_lt_zero _)
theorem upF_step (f : Nat → UInt8) (n t : Nat) : upF f (n + 1) t = if t = n then f n else upF f n t := by
  unfold upF
  by_cases e : t = n
  · subst e; rw [if_pos (by omega), if_pos rfl]
  · rw [if_neg e]
    by_cases h : t < n
    · rw [if_pos h, if_pos (by omega)]
    · rw [if_neg h, if_neg (by omega)]
set_option maxRecDepth 100000 in
set_option maxHeartbeats 2000000 in
theorem wts_ok {b k m : Nat} {w : World} (hF : FieldAt w b) (h1 : 1 ≤ k) (h2 : k + m ≤ 256) {x y : Int} (hx : x = (k : Int)) (hy : y = (m : Int)) : Calls Tryz.prog 133 #[.pointer (some ⟨b, 0, none⟩), .int .i64 x, .int .i64 y] w (MakesP w 0 (upto (wtF k m) (k + m))) := by
  subst hx hy
  obtain ⟨i0, hi, hz0, hz1, hz2⟩ := info_parts info_u8
  obtain ⟨s, hs⟩ : ∃ s, Hid (s = k + m) := ⟨_, rfl⟩
  have g0 : (k : Int) + (m : Int) = (s : Int) := by have := hs.out; omega
  have hs2 : s ≤ 256 := by have := hs.out; omega
  have gw : IntKind.i64.wrap (s : Int) = (s : Int) := by rw [IntKind.wrap_i64]; omega
  rw [← hs.out]
  have hok := okC_mk h1 h2
  have h2' : Hid _ := h2
  clear h2
  go_enter Tryz.func133, Tryz.ntmps133
  go_wp2_with fail
  refine (ccheck_same_ok _ hok).mono ?_
  rintro e w2 ⟨rfl, rfl⟩
  clear hok
  go_wp2_with fail
  refine (wg_any _).mono ?_
  rintro e w3 ⟨fb, kb, mb, rfl, hW, b3⟩
  have hF3 := hF.below b3
  clear hF
  go_wp2_with (at_make; go_loud (refine wpList_make_full _ rfl (.tmp 26) (.tmp 26) 36 rfl w3.heap.size 5 i0 (.int .u8 0) 1 Tryz.underlying36 hi hz0 hz1 _ _ _ _ s rfl rfl (by omega) (by omega) (by rw [hz2]; omega) (by unfold maxLen; omega) (Nat.le_refl _) ?_); intro w4 hown4 hgrow4)
  have R4 : Hid (RowF w4 w3.heap.size 5 w3.heap.size s s (fun _ => 0)) := RowF.made hown4
  have B4 : Hid (Below w3.heap.size w3 w4) := (Below.refl _ _).grown hgrow4 (Nat.le_refl _) (fun q hq => by cases hq)
  clear hown4 hgrow4
  obtain ⟨g, hg⟩ : ∃ g, Hid (g = w3.heap.size) := ⟨_, rfl⟩
  rw [← hg.out] at R4 B4 ⊢
  go_loopw [30] (fun v wr => ∃ i : Nat, i ≤ s ∧ v = .int .i64 i ∧ Below g w3 wr ∧ RowF wr g 5 g s s (upF (wtF k m) i)) (fun v _ => s - (intOf v).toNat)
  case atStart => exact ⟨0, by omega, rfl, B4.out, R4.out.congr fun t _ => (upF_zero _ t).symm⟩
  case round =>
    obtain ⟨i, hi, rfl, hB, hR⟩ := hrel
    clear R4 B4
    by_cases hlt : i < s
    · have hlt' : (i : Int) < (s : Int) := by omega
      have HB : Hid (Below g w3 wr) := hB
      rw [hg.out] at hB
      have hFr := hF3.below hB
      have hWr := hW.below hB
      have c1 := fun nd : Nat => hR.cell hlt
      have f1 := hR.unfrozen i
      have HR : Hid (RowF wr g 5 g s s (upF (wtF k m) i)) := hR
      clear hB hR hF3 hW
      go_wp2_with fail
      refine (wg1_any (i := i) hFr hWr h2'.out (by omega) rfl).mono ?_
      rintro e w5 ⟨rfl, nd, hw5⟩
      have R5 : RowF w5 g 5 g s s (upF (wtF k m) i) := by rw [hw5]; exact HR.out.drewN nd
      have B5 : Below g w3 w5 := by rw [hw5]; exact HB.out.trans ⟨rfl, rfl, rfl, Nat.le_refl _, fun _ _ => rfl⟩
      clear hw5 HB HR c1 f1 hFr hWr
      have c1 := R5.cell hlt
      have f1 := R5.unfrozen i
      have HN : Hid (RowF (w5.setCell ⟨g, i, none⟩ (.int .u8 ((wtF k m i).toNat : Nat))) g 5 g s s (upF (wtF k m) (i + 1))) := R5.store hlt _ fun t => upF_step _ _ _
      have HB : Hid (Below g w3 (w5.setCell ⟨g, i, none⟩ (.int .u8 ((wtF k m i).toNat : Nat)))) := B5.setCell (p := ⟨g, i, none⟩) (Nat.le_refl _) _
      clear R5 B5
      go_wp2
      go_roundw
      case rel => exact ⟨i + 1, by omega, by go_num, HB.out, HN.out⟩
      case measure => simp [intOf]; omega
    · have e : i = s := by omega
      subst e
      have hge : ¬ (i : Int) < (i : Int) := by omega
      have HP : Rd wr (.slice (some ⟨g, 0, none⟩) i i) (upto (wtF k m) i) := (hR.congr (f' := wtF k m) fun t ht => if_pos ht).rd
      rw [hg.out] at hB
      have HB : Hid (Below w2.heap.size w2 wr) := Below.next b3 hB
      clear hB hR hF3 hW
      go_wp2
      exact bodyPost_ret (v := .tuple #[.slice (some ⟨g, 0, none⟩) i i, .int .i64 0]) (by simp [results, Tryz.results133, go_sem]) rfl ⟨_, rfl, HP, HB.out⟩
/-- the sums of the first i bytes -/
def syK (k m : Nat) (z : Nat → UInt8) (i l : Nat) : UInt8 := S i (fun x => mu (mu (z x) (wtF k m x)) (nmF 1 (pt x) l))
theorem syK_next (k m : Nat) (z : Nat → UInt8) (i l : Nat) : syK k m z (i + 1) l = syK k m z i l ^^^ nmF (mu (z i) (wtF k m i)) (pt i) l := by
  show syK k m z i l ^^^ mu (mu (z i) (wtF k m i)) (nmF 1 (pt i) l) = _
  rw [← nmF_pwr]
set_option maxRecDepth 100000 in
set_option maxHeartbeats 2000000 in
theorem sof_ok {b k m : Nat} {v : Value} {z : List UInt8} {w : World} (hF : FieldAt w b) (h1 : 1 ≤ k) (h2 : k + m ≤ 256) (hz : Rd w v z) (hl : z.length = k + m) {x y : Int} (hx : x = (k : Int)) (hy : y = (m : Int)) : Calls Tryz.prog 168 #[.pointer (some ⟨b, 0, none⟩), .int .i64 x, .int .i64 y, v] w (MakesP w 0 (upto (synF k m (co z)) m)) := by
  subst hx hy
  obtain ⟨i0, hi, hz0, hz1, hz2⟩ := info_parts info_u8
  obtain ⟨za, zc, rfl⟩ := hz.form
  obtain ⟨s, hs⟩ : ∃ s, Hid (s = k + m) := ⟨_, rfl⟩
  have g0 : (k : Int) + (m : Int) = (s : Int) := by have := hs.out; omega
  have hs2 : s ≤ 256 := by have := hs.out; omega
  have hm2 : m ≤ 256 := by have := hs.out; omega
  have gw : IntKind.i64.wrap (s : Int) = (s : Int) := by rw [IntKind.wrap_i64]; omega
  have HL : Hid (z.length = s) := by show _ = _; rw [hs.out]; exact hl
  rw [hl, ← hs.out] at hz ⊢
  have hn : ((s : Int) != (s : Int)) = false := by simp
  have HC := wts_ok hF h1 h2 rfl rfl
  rw [← hs.out] at HC
  have HS : Hid (upto (synF k m (co z)) m = upto (syK k m (co z) s) m) := by show _ = _; rw [hs.out]; rfl
  rw [HS.out]
  clear h2 hl
  go_enter Tryz.func168, Tryz.ntmps168
  go_wp2_with fail
  refine HC.mono ?_
  rintro e w2 ⟨v, rfl, hV, b2⟩
  obtain ⟨va, vc, rfl⟩ := hV.form
  rw [upto_length] at hV ⊢
  have hF2 := hF.below b2
  have hz2' := hz.below b2
  clear HC hF hz
  go_wp2_with (at_make; go_loud (refine wpList_make_full _ rfl (.tmp 31) (.tmp 31) 36 rfl w2.heap.size 5 i0 (.int .u8 0) 1 Tryz.underlying36 hi hz0 hz1 _ _ _ _ m rfl rfl (by omega) (by omega) (by rw [hz2]; omega) (by unfold maxLen; omega) (Nat.le_refl _) ?_); intro w4 hown4 hgrow4)
  have R4 : Hid (RowF w4 w2.heap.size 5 w2.heap.size m m (fun _ => 0)) := RowF.made hown4
  have B4 : Hid (Below w2.heap.size w2 w4) := (Below.refl _ _).grown hgrow4 (Nat.le_refl _) (fun q hq => by cases hq)
  clear hown4 hgrow4
  have HA : Hid (Apart w2.heap.size (.slice za s zc)) := hz2'.apart (Nat.le_refl _)
  have HAV : Hid (Apart w2.heap.size (.slice va s vc)) := hV.apart (Nat.le_refl _)
  have hF4 := hF2.below B4.out
  have hz4 := hz2'.below B4.out
  have hV4 := hV.below B4.out
  have hbg : b ≠ w2.heap.size := by have := hF2.lt; omega
  have HB4 : Hid (Below w.heap.size w w4) := Below.next b2 B4.out
  have hsz : Hid (w.heap.size ≤ w2.heap.size) := b2.size
  obtain ⟨g, hg⟩ : ∃ g, Hid (g = w2.heap.size) := ⟨_, rfl⟩
  rw [← hg.out] at R4 HA HAV hbg ⊢
  clear hF2 hz2' hV B4
  go_loopw [35] (fun v wr => ∃ i : Nat, i ≤ s ∧ v = .int .i64 i ∧ Only g w4 wr ∧ RowF wr g 5 g m m (syK k m (co z) i)) (fun v _ => s - (intOf v).toNat)
  case atStart => exact ⟨0, by omega, rfl, Only.refl _ _, R4.out.congr fun t _ => rfl⟩
  case round =>
    obtain ⟨i, hi, rfl, hO, hR⟩ := hrel
    clear R4
    by_cases hlt : i < s
    · have hlt' : (i : Int) < (s : Int) := by omega
      have hFr := hF4.only hbg hO
      have hzr := hz4.only HA.out hO
      have hVr := hV4.only HAV.out hO
      obtain ⟨zb, zo, rfl, _, cz⟩ := hzr.byte (i := i) (by rw [HL.out]; exact hlt)
      obtain ⟨vb', vo, rfl, _, cv⟩ := hVr.byte (i := i) (by rw [upto_length]; exact hlt)
      rw [co_upto_in hlt] at cv
      have m1 : (i : Int) % 256 = (i : Int) := by omega
      have hpt : Hid ((i : Int) = (((pt i).toNat : Nat) : Int)) := by show _ = _; rw [pt_toNat (by omega)]
      have HO : Hid (Only g w4 wr) := hO
      have HR : Hid (RowF wr g 5 g m m (syK k m (co z) i)) := hR
      have HX : Hid (∀ t, syK k m (co z) (i + 1) t = syK k m (co z) i t ^^^ nmF (mu (co z i) (wtF k m i)) (pt i) t) := fun t => syK_next _ _ _ _ _
      clear hO hR hzr hVr hz4 hV4 hF4
      go_wp2_with fail
      refine (fmu_quiet hFr (co z i) (wtF k m i) rfl rfl).mono ?_
      rintro e w5 ⟨rfl, nd, hw5⟩
      have R5 : RowF w5 g 5 g m m (syK k m (co z) i) := by rw [hw5]; exact HR.out.drewN nd
      have O5 : Only g w4 w5 := by rw [hw5]; exact HO.out.drewN nd
      have F5 : FieldAt w5 b := by rw [hw5]; exact hFr.drewN nd
      clear hw5 HO HR hFr cz cv
      have HC := apw_any (mu (co z i) (wtF k m i)) (pt i) F5 hbg R5 (by omega) rfl hpt.out
      clear R5 F5
      go_wp2_with fail
      refine HC.mono ?_
      rintro e w6 ⟨rfl, O6, R6⟩
      have HN : Hid (RowF w6 g 5 g m m (syK k m (co z) (i + 1))) := R6.congr fun t ht => by rw [HX.out]; exact if_pos ht
      have HO : Hid (Only g w4 w6) := O5.trans O6
      clear R6 O6 O5 HC
      go_wp2
      go_roundw
      case rel => exact ⟨i + 1, by omega, by go_num, HO.out, HN.out⟩
      case measure => simp [intOf]; omega
    · have e : i = s := by omega
      subst e
      have hge : ¬ (i : Int) < (i : Int) := by omega
      have HP : Rd wr (.slice (some ⟨g, 0, none⟩) m m) (upto (syK k m (co z) i) m) := hR.rd
      have HB : Hid (Below w.heap.size w wr) := HB4.out.trans (hO.below (by rw [hg.out]; exact hsz.out))
      clear hO hR hF4 hz4 hV4
      go_wp2
      exact bodyPost_ret (v := .tuple #[.slice (some ⟨g, 0, none⟩) m m, .int .i64 0]) (by simp [results, Tryz.results168, go_sem]) rfl ⟨_, rfl, HP, HB.out⟩
end Go.Proofs.YtddnfhfangfgeaaGreat.Gf

namespace Go.Proofs.YtddnfhfangfgeaaGreat.Gf
set_option linter.unusedVariables false
set_option linter.unusedSimpArgs false
theorem conv_low {L A B : Nat → UInt8} {m j : Nat} (h : ∀ i, i < m → A i = B i) (hj : j < m) : conv L A j = conv L B j :=
  S_congr fun i hi => by rw [h (j - i) (by omega)]
theorem conv_left (a b c : Nat → UInt8) : conv a (conv b c) = conv b (conv a c) := by rw [← conv_assoc, conv_comm a b, conv_assoc]
theorem addF_at (a b : Nat → UInt8) (j : Nat) : addF a b j = a j ^^^ b j := rfl
theorem smul_conv (c : UInt8) (a b : Nat → UInt8) : conv (fun i => mu c (a i)) b = fun j => mu c (conv a b j) := by
  funext j
  unfold conv
  rw [mu_S]
  exact S_congr fun i _ => mu_assoc _ _ _
theorem conv_smul (c : UInt8) (a b : Nat → UInt8) : conv a (fun i => mu c (b i)) = fun j => mu c (conv a b j) := by rw [conv_comm, smul_conv, conv_comm]
/-- m places higher -/
def shF (m : Nat) (f : Nat → UInt8) (j : Nat) : UInt8 := if m ≤ j then f (j - m) else 0
theorem shF_low {m : Nat} {f : Nat → UInt8} {j : Nat} (h : j < m) : shF m f j = 0 := if_neg (by omega)
theorem shF_ge {m : Nat} {f : Nat → UInt8} {j : Nat} (h : m ≤ j) : shF m f j = f (j - m) := if_pos h
theorem shF_high (m : Nat) (f : Nat → UInt8) (j : Nat) : shF m f (j + m) = f j := by unfold shF; rw [if_pos (by omega), Nat.add_sub_cancel]
theorem conv_shF (m : Nat) (f g : Nat → UInt8) : conv f (shF m g) = shF m (conv f g) := by
  funext j
  by_cases h : m ≤ j
  · rw [shF_ge h]
    unfold conv
    rw [S_more (n := j - m + 1) (m := j + 1) (by omega) (fun i h1 h2 => by rw [shF_low (by omega), mu_zero])]
    exact S_congr fun i hi => by rw [shF_ge (by omega), show j - i - m = j - m - i by omega]
  · unfold conv
    rw [shF_low (by omega)]
    exact S_zero fun i hi => by rw [shF_low (by omega), mu_zero]
theorem shF_inj {m : Nat} {f g : Nat → UInt8} (h : shF m f = shF m g) : f = g := by
  funext j
  have := congrFun h (j + m)
  rwa [shF_high, shF_high] at this
theorem shF_of {m : Nat} {f : Nat → UInt8} (h : ∀ j, j < m → f j = 0) : f = shF m (fun j => f (j + m)) := by
  funext j
  by_cases e : m ≤ j
  · rw [shF_ge e]; show f j = f (j - m + m); rw [Nat.sub_add_cancel e]
  · rw [shF_low (by omega)]; exact h j (by omega)
/-- L is a locator of degree t: m syndromes, known of degree e, P known times the turned one -/
structure IsLoc (P : Nat → UInt8) (m e t : Nat) (L : Nat → UInt8) : Prop where
  fin : Fin0 L (t + 1)
  top : L t = 1
  zero : ∀ j, e + t ≤ j → j < m → conv L P j = 0
/-- .. and the least one -/
structure LeastLoc (P : Nat → UInt8) (m e t : Nat) (L : Nat → UInt8) : Prop where
  loc : IsLoc P m e t L
  few : 2 * t + e ≤ m
  least : ∀ t' L', 2 * t' + e ≤ m → IsLoc P m e t' L' → t ≤ t'
  one : ∀ L', IsLoc P m e t L' → L' = L
theorem LeastLoc.unique {P : Nat → UInt8} {m e t t' : Nat} {L L' : Nat → UInt8} (h : LeastLoc P m e t L) (h' : LeastLoc P m e t' L') : t' = t ∧ L' = L := by
  have e1 := h.least _ _ h'.few h'.loc
  have e2 := h'.least _ _ h.few h.loc
  obtain rfl : t = t' := by omega
  exact ⟨rfl, h.one _ h'.loc⟩
/-- a number alone -/
def cst (c : UInt8) (i : Nat) : UInt8 := if i = 0 then c else 0
theorem cst_zero (c : UInt8) : cst c 0 = c := if_pos rfl
theorem cst_ne {c : UInt8} {i : Nat} (h : i ≠ 0) : cst c i = 0 := if_neg h
/-- where Euclid's steps stand: both rests and both factors -/
structure Eu (P : Nat → UInt8) (m : Nat) (r0 r1 v0 v1 : Nat → UInt8) (a b : Nat) : Prop where
  c0 : ∀ j, j < m → conv v0 P j = r0 j
  c1 : ∀ j, j < m → conv v1 P j = r1 j
  det : ∃ c : UInt8, c ≠ 0 ∧ addF (conv v1 r0) (conv v0 r1) = shF m (cst c)
  sum : a + b = m
  f1 : Fin0 v1 (a + 1)
  t1 : v1 a ≠ 0
  g0 : Fin0 r0 (b + 1)
  s0 : r0 b ≠ 0
  f0 : Fin0 v0 a
  g1 : Fin0 r1 b
theorem one_conv (f : Nat → UInt8) (c : UInt8) : conv (cst c) f = fun j => mu c (f j) := by
  funext j
  unfold conv
  rw [S_one (k := 0) (by omega) (fun i _ hi => by rw [cst_ne hi, zero_mu]), cst_zero, Nat.sub_zero]
/-- where they begin -/
theorem Eu.start {P r1 : Nat → UInt8} {m : Nat} (h : ∀ j, j < m → P j = r1 j) (hr : Fin0 r1 m) : Eu P m (fun i => if i = m then 1 else 0) r1 (fun _ => 0) (cst 1) 0 m := by
  have z : ∀ f : Nat → UInt8, conv (fun _ => 0) f = fun _ => 0 := fun f => by
    funext j; rw [conv_comm]; exact conv_zero (fun _ => rfl) j
  refine ⟨fun j hj => ?_, fun j hj => ?_, ⟨1, by decide, ?_⟩, by omega, fun i hi => cst_ne (by omega), ?_, fun i hi => if_neg (by omega), ?_, fun i _ => rfl, hr⟩
  · rw [z]; exact (if_neg (by omega)).symm
  · rw [one_conv]; show mu 1 (P j) = _; rw [one_mu]; exact h j hj
  · rw [one_conv, z]
    funext j
    show mu 1 (if j = m then 1 else 0) ^^^ 0 = shF m (cst 1) j
    rw [one_mu, x_zero]
    by_cases e : m ≤ j
    · rw [shF_ge e]
      by_cases e2 : j = m
      · rw [if_pos e2, e2, Nat.sub_self, cst_zero]
      · rw [if_neg e2, cst_ne (by omega)]
    · rw [shF_low (by omega), if_neg (by omega)]
  · rw [cst_zero]; decide
  · rw [if_pos rfl]; decide
/-- a step: r1 is there, of degree d; q its quotient -/
theorem Eu.step {P r0 r1 v0 v1 q r2 : Nat → UInt8} {m a b d : Nat} (h : Eu P m r0 r1 v0 v1 a b) (hd : Fin0 r1 (d + 1)) (hn : r1 d ≠ 0) (hq : ∀ i, r0 i = conv q r1 i ^^^ r2 i) (hf : Fin0 q (b - d + 1)) (hr : Fin0 r2 d) :
    Eu P m r1 r2 v1 (addF v0 (conv q v1)) (a + (b - d)) d := by
  have hdb : d < b := by
    rcases Nat.lt_or_ge d b with e | e
    · exact e
    · exact absurd (h.g1 d e) hn
  have er : r0 = addF (conv q r1) r2 := funext hq
  have hqt : q (b - d) ≠ 0 := fun e => h.s0 (by
    have := conv_top hf hd
    rw [show b - d + d = b by omega, e, zero_mu] at this
    rw [er, addF_at, this, hr b (by omega)]; rfl)
  obtain ⟨c, hc, hdet⟩ := h.det
  refine ⟨h.c1, fun j hj => ?_, ⟨c, hc, ?_⟩, by have := h.sum; omega, ?_, ?_, hd, hn, h.f1.mono (by omega), hr⟩
  · rw [add_conv, addF_at, h.c0 j hj, conv_assoc, conv_low h.c1 hj, er, addF_at, x_comm (conv q r1 j), x_assoc, x_self, x_zero]
  · rw [← hdet, er, add_conv, conv_add]
    funext j
    show (conv v0 r1 j ^^^ conv (conv q v1) r1 j) ^^^ conv v1 r2 j = (conv v1 (conv q r1) j ^^^ conv v1 r2 j) ^^^ conv v0 r1 j
    rw [conv_assoc, conv_left q v1, x_comm _ (conv v0 r1 j), x_assoc]
  · have e := (hf.conv h.f1).mono (show b - d + 1 + (a + 1) - 1 ≤ a + (b - d) + 1 by omega)
    exact (h.f0.mono (by omega)).add e
  · rw [addF_at, h.f0 _ (by omega), zero_x, show a + (b - d) = (b - d) + a by omega, conv_top hf h.f1]
    exact mu_ne hqt h.t1
/-- each locator is a multiple of the factor at which Euclid's steps end -/
theorem Eu.all {P r0 r1 v0 v1 : Nat → UInt8} {m a b n1 e t : Nat} {L : Nat → UInt8} (h : Eu P m r0 r1 v0 v1 a b) (hb : m + e ≤ 2 * b) (hn : Fin0 r1 n1) (h1 : 2 * n1 ≤ m + e + 1) (ht : 2 * t + e ≤ m) (hL : IsLoc P m e t L) :
    a ≤ t ∧ Fin0 r1 (e + a) ∧ (t = a → L = fun j => mu (iv (v1 a)) (v1 j)) := by
  have hs := h.sum
  have ha : 2 * a + e ≤ m := by omega
  obtain ⟨c, hc, hdet⟩ := h.det
  obtain ⟨R, hR⟩ : ∃ R : Nat → UInt8, R = fun j => if j < e + t then conv L P j else 0 := ⟨_, rfl⟩
  have hRf : Fin0 R (e + t) := fun i hi => by rw [hR]; exact if_neg (by omega)
  have hRl : ∀ j, j < m → conv L P j = R j := fun j hj => by
    rw [hR]
    by_cases e1 : j < e + t
    · exact (if_pos e1).symm
    · show _ = if j < e + t then _ else _
      rw [if_neg e1]; exact hL.zero j (by omega) hj
  have hA : conv L r1 = conv R v1 := by
    funext j
    by_cases hj : j < m
    · rw [← conv_low h.c1 hj, conv_left, conv_low hRl hj, conv_comm]
    · rw [(hL.fin.conv hn) j (by omega), (hRf.conv h.f1) j (by omega)]
  obtain ⟨B, hB⟩ : ∃ B, B = addF (conv L r0) (conv R v0) := ⟨_, rfl⟩
  have hB0 : ∀ j, j < m → B j = 0 := fun j hj => by
    rw [hB, addF_at, ← conv_low h.c0 hj, conv_left, conv_low hRl hj, conv_comm v0, x_self]
  obtain ⟨y, hy⟩ : ∃ y : Nat → UInt8, y = fun j => B (j + m) := ⟨_, rfl⟩
  have hBy : B = shF m y := by rw [hy]; exact shF_of hB0
  have k1 : conv v1 y = fun j => mu c (L j) := by
    refine shF_inj (m := m) ?_
    rw [← conv_shF, ← hBy, hB, conv_add, conv_left v1 L, conv_left v1 R]
    have e1 : conv v1 r0 = addF (shF m (cst c)) (conv v0 r1) := by
      rw [← hdet]; funext j; rw [addF_at, addF_at, x_assoc, x_self, x_zero]
    rw [e1, conv_add, conv_shF, conv_comm L (cst c), one_conv]
    funext j
    show (shF m (fun j => mu c (L j)) j ^^^ conv L (conv v0 r1) j) ^^^ conv R (conv v1 v0) j = _
    rw [conv_left L v0, hA, conv_comm v1 v0, conv_left R v0, conv_comm R v1, x_assoc, x_self, x_zero]
  have k2 : conv r1 y = fun j => mu c (R j) := by
    refine shF_inj (m := m) ?_
    rw [← conv_shF, ← hBy, hB, conv_add, conv_left r1 L, conv_comm r1 r0, conv_left L r0, hA, conv_left r1 R, conv_comm r1 v0]
    have e1 : conv v0 r1 = addF (shF m (cst c)) (conv v1 r0) := by
      rw [← hdet]; funext j; rw [addF_at, addF_at, x_comm (conv v1 r0 j), x_assoc, x_self, x_zero]
    rw [e1, conv_add, conv_shF, conv_comm R (cst c), one_conv]
    funext j
    show conv r0 (conv R v1) j ^^^ (shF m (fun j => mu c (R j)) j ^^^ conv R (conv v1 r0) j) = _
    rw [conv_comm v1 r0, conv_left R r0, x_left, x_self, x_zero]
  -- the degrees
  obtain ⟨N, hN⟩ : ∃ N, Fin0 y N := ⟨(t + 1 + (b + 1) - 1) + (e + t + a - 1), fun i hi => by
    rw [hy]
    show B (i + m) = 0
    rw [hB, addF_at, (hL.fin.conv h.g0) _ (by omega), (hRf.conv h.f0) _ (by omega)]; rfl⟩
  have hcL : Fin0 (fun j => mu c (L j)) (t + 1) := fun i hi => by show mu c (L i) = 0; rw [hL.fin i hi, mu_zero]
  have dL : deg (fun j => mu c (L j)) (t + 1) = t + 1 := deg_unique hcL hcL (fun _ => by show mu c (L (t + 1 - 1)) ≠ 0; rw [Nat.add_sub_cancel, hL.top, mu_one]; exact hc)
  have dv : deg v1 (a + 1) = a + 1 := deg_unique h.f1 h.f1 (fun _ => by rw [Nat.add_sub_cancel]; exact h.t1)
  have dc := deg_conv h.f1 hN (k := t + 1) (by rw [k1]; exact hcL)
  rw [k1, dL, dv] at dc
  have hy0 : deg y N ≠ 0 := fun e => by rw [if_pos (Or.inr e)] at dc; omega
  rw [if_neg (by omega)] at dc
  refine ⟨by omega, ?_, fun et => ?_⟩
  · have hcR : Fin0 (fun j => mu c (R j)) (e + t) := fun i hi => by show mu c (R i) = 0; rw [hRf i hi, mu_zero]
    have dr := deg_conv hn hN (k := e + t) (by rw [k2]; exact hcR)
    rw [k2] at dr
    have hle := deg_le (fun j => mu c (R j)) (e + t)
    by_cases e0 : deg r1 n1 = 0
    · exact (deg_fin hn).mono (by omega)
    · rw [if_neg (by omega)] at dr
      exact (deg_fin hn).mono (by omega)
  · subst et
    have hy1 : Fin0 y 1 := (deg_fin hN).mono (by omega)
    have ey : y = cst (y 0) := by
      funext i
      by_cases e0 : i = 0
      · rw [e0, cst_zero]
      · rw [cst_ne e0]; exact hy1 i (by omega)
    rw [conv_comm, ey, one_conv] at k1
    have key : ∀ j, L j = mu (iv c) (mu (y 0) (v1 j)) := fun j => by
      have := congrFun k1 j
      show L j = _
      have e2 : mu (y 0) (v1 j) = mu c (L j) := this
      rw [e2, ← mu_assoc, mu_comm (iv c), mu_iv hc, one_mu]
    have k0 := key t
    rw [hL.top] at k0
    funext j
    rw [key j]
    -- iv c · y0 is the inverse of v1's top
    have e3 : mu (mu (iv c) (y 0)) (v1 t) = 1 := by rw [mu_assoc]; exact k0.symm
    have e4 : mu (iv c) (y 0) = iv (v1 t) := by
      have : mu (mu (mu (iv c) (y 0)) (v1 t)) (iv (v1 t)) = mu 1 (iv (v1 t)) := by rw [e3]
      rw [mu_assoc, mu_iv h.t1, mu_one, one_mu] at this
      exact this
    rw [← mu_assoc, e4]
/-- what is told at the end of Euclid's steps -/
theorem Eu.least {P r0 r1 v0 v1 : Nat → UInt8} {m a b n1 e : Nat} (h : Eu P m r0 r1 v0 v1 a b) (hb : m + e ≤ 2 * b) (hn : Fin0 r1 n1) (h1 : 2 * n1 ≤ m + e + 1) (hr : Fin0 r1 (e + a)) : LeastLoc P m e a (fun j => mu (iv (v1 a)) (v1 j)) := by
  have hs := h.sum
  refine ⟨⟨fun i hi => ?_, ?_, fun j h2 h3 => ?_⟩, by omega, fun t' L' h2 h3 => (h.all hb hn h1 h2 h3).1, fun L' h3 => (h.all hb hn h1 (by omega) h3).2.2 rfl⟩
  · show mu _ (v1 i) = 0; rw [h.f1 i hi, mu_zero]
  · show mu _ (v1 a) = 1; rw [mu_comm, mu_iv h.t1]
  · rw [smul_conv]; show mu _ (conv v1 P j) = 0; rw [h.c1 j h3, hr j h2, mu_zero]
theorem Eu.none {P r0 r1 v0 v1 : Nat → UInt8} {m a b n1 e : Nat} (h : Eu P m r0 r1 v0 v1 a b) (hb : m + e ≤ 2 * b) (hn : Fin0 r1 n1) (h1 : 2 * n1 ≤ m + e + 1) (hr : ¬ Fin0 r1 (e + a)) : ∀ t L, 2 * t + e ≤ m → ¬ IsLoc P m e t L :=
  fun t L h2 h3 => hr (h.all hb hn h1 h2 h3).2.1
end Go.Proofs.YtddnfhfangfgeaaGreat.Gf

namespace Go.Proofs.YtddnfhfangfgeaaGreat.Gf
set_option linter.unusedVariables false
set_option linter.unusedSimpArgs false
theorem co_rev {s : List UInt8} {i : Nat} (h : i < s.length) : co s.reverse i = co s (s.length - 1 - i) := by
  rw [co_lt (by simpa using h), co_lt (by omega), List.getElem_reverse]
/-- known times the turned one -/
def keP (s known : List UInt8) : Nat → UInt8 := conv (co known) (co s.reverse)
theorem keP_fin (s known : List UInt8) : Fin0 (keP s known) (known.length + s.length) := by
  have := (co_fin known).conv (co_fin s.reverse)
  rw [List.length_reverse] at this
  exact this.mono (by omega)
/-- known has no top, or a degree above the syndromes' number -/
def BadK (s known : List UInt8) : Prop := (norm known).length = 0 ∨ s.length + 1 < (norm known).length
/-- the evaluator -/
def evaL (s known : List UInt8) (t : Nat) (L : Nat → UInt8) : List UInt8 := mk (fun i => conv L (keP s known) (s.length + i)) (t + 1 + (known.length + s.length))
theorem eva_fin {s known : List UInt8} {t : Nat} {L : Nat → UInt8} (h : Fin0 L (t + 1)) : Fin0 (fun i => conv L (keP s known) (s.length + i)) (t + 1 + (known.length + s.length)) := fun i hi =>
  (h.conv (keP_fin s known)) _ (by omega)
/-- what is told: the error, the locator, the evaluator -/
def KeyAns (s known : List UInt8) (X : Int) (A O : List UInt8) : Prop :=
  (BadK s known ∧ X = 1 ∧ A = [] ∧ O = []) ∨
  (¬ BadK s known ∧ ∃ t L, LeastLoc (keP s known) s.length ((norm known).length - 1) t L ∧ X = 0 ∧ A = upto L (t + 1) ∧ O = evaL s known t L) ∨
  (¬ BadK s known ∧ (∀ t L, 2 * t + ((norm known).length - 1) ≤ s.length → ¬ IsLoc (keP s known) s.length ((norm known).length - 1) t L) ∧ X = 100 ∧ A = [] ∧ O = [])
theorem KeyAns.unique {s known : List UInt8} {X X' : Int} {A A' O O' : List UInt8} (h : KeyAns s known X A O) (h' : KeyAns s known X' A' O') : X' = X ∧ A' = A ∧ O' = O := by
  rcases h with ⟨b, rfl, rfl, rfl⟩ | ⟨b, t, L, hl, rfl, rfl, rfl⟩ | ⟨b, hn, rfl, rfl, rfl⟩
  · rcases h' with ⟨b', rfl, rfl, rfl⟩ | ⟨b', _⟩ | ⟨b', _⟩
    · exact ⟨rfl, rfl, rfl⟩
    · exact absurd b b'
    · exact absurd b b'
  · rcases h' with ⟨b', _⟩ | ⟨b', t', L', hl', rfl, rfl, rfl⟩ | ⟨b', hn', _⟩
    · exact absurd b' b
    · obtain ⟨rfl, rfl⟩ := hl.unique hl'
      exact ⟨rfl, rfl, rfl⟩
    · exact absurd hl.loc (hn' t L hl.few)
  · rcases h' with ⟨b', _⟩ | ⟨b', t', L', hl', _⟩ | ⟨b', _, rfl, rfl, rfl⟩
    · exact absurd b' b
    · exact absurd hl'.loc (hn t' L' hl'.few)
    · exact ⟨rfl, rfl, rfl⟩
/-- some answer there is -/
theorem KeyAns.of_loc {s known : List UInt8} {t : Nat} {L : Nat → UInt8} (b : ¬ BadK s known) (h : LeastLoc (keP s known) s.length ((norm known).length - 1) t L) : KeyAns s known 0 (upto L (t + 1)) (evaL s known t L) := Or.inr (Or.inl ⟨b, t, L, h, rfl, rfl, rfl⟩)
theorem drop_mk {f : Nat → UInt8} {n n' m : Nat} (hf : Fin0 f n) (hn : Fin0 (fun i => f (m + i)) n') : (mk f n).drop m = mk (fun i => f (m + i)) n' := by
  have hd : deg (fun i => f (m + i)) n' = deg f n - m := by
    refine deg_unique hn (fun i hi => deg_fin hf _ (by omega)) (fun h => ?_)
    show f (m + (deg f n - m - 1)) ≠ 0
    rw [show m + (deg f n - m - 1) = deg f n - 1 by omega]
    exact deg_top f n (by omega)
  refine co_ext (by rw [List.length_drop, mk_length, mk_length, hd]) fun i hi => ?_
  rw [List.length_drop, mk_length] at hi
  have e1 : co ((mk f n).drop m) i = co (mk f n) (m + i) := by unfold co; rw [List.getElem?_drop]
  rw [e1, co_mk hf, co_mk hn]
end Go.Proofs.YtddnfhfangfgeaaGreat.Gf
