/- TEXTS JOINED: ErRefA, GfRefMath, GfRefMul, GfRefInv, CaRefA, CaRefP, CaRefG, MxRCheck. -/
import Derived.Test.YtkjolopdpihigaaTome5
import Derived.BigQuiet
import Derived.Deep.QuietTactic
import Derived.WalkKit
import Derived.Test.YtkjolopdpihigaaTome1
import Derived.WalkSpells
import Derived.Test.YtkjolopdpihigaaTome3
import Derived.Deep.RegionLaw
import Derived.Test.YtkjolopdpihigaaTome2
/-
  THE DOCUMENT's ANSWER FOR LAYER 7 (package aumbryref07) BY CONTRACT: 'there'.
-/


namespace Go.Proofs.Ytkjolopdpihigaa.Gf
set_option linter.unusedVariables false
set_option linter.unusedSimpArgs false
open Go.RowKit

theorem OwnI.drewN {w : World} {base e : Nat} {v : Value} {zs : List Nat} (h : OwnI w base e v zs) (n : Nat) : OwnI (w.drewN n) base e v zs := h
/-- of the first r those that are there are of one length -/
def EvenR (h : List Bool) (L : List (List UInt8)) (r : Nat) : Prop := ∀ i j, i < r → j < r → hb h i = true → hb h j = true → (ro L i).length = (ro L j).length
theorem EvenR.all {h : List Bool} {L : List (List UInt8)} (e : EvenR h L h.length) : EvenH h L := fun i j hi hj => e i j (pl7_at hi).1 (pl7_at hj).1 hi hj
theorem EvenR.no {h : List Bool} {L : List (List UInt8)} {r : Nat} (e : EvenR h L r) (hr : hb h r = false) : EvenR h L (r + 1) := fun i j hi hj h1 h2 => by
  refine e i j ?_ ?_ h1 h2
  · rcases Nat.lt_or_ge i r with q | q
    · exact q
    · rw [show i = r by omega, hr] at h1; cases h1
  · rcases Nat.lt_or_ge j r with q | q
    · exact q
    · rw [show j = r by omega, hr] at h2; cases h2
theorem thr_first {h : List Bool} {r : Nat} (h0 : 0 < (thr h r).length) : (thr h r).getD 0 0 < r ∧ hb h ((thr h r).getD 0 0) = true := by
  have : (thr h r).getD 0 0 = (thr h r)[0] := by simp [List.getD, h0]
  rw [this]; exact thr_mem (List.getElem_mem _)
theorem EvenR.yes {h : List Bool} {L : List (List UInt8)} {r : Nat} (e : EvenR h L r) (h0 : 0 < (thr h r).length) (hl : (ro L ((thr h r).getD 0 0)).length = (ro L r).length) : EvenR h L (r + 1) := by
  have key : ∀ i, i < r + 1 → hb h i = true → (ro L i).length = (ro L r).length := fun i hi h1 => by
    rcases Nat.lt_or_ge i r with q | q
    · rw [← hl]; exact e i _ q (thr_first h0).1 h1 (thr_first h0).2
    · rw [show i = r by omega]
  exact fun i j hi hj h1 h2 => (key i hi h1).trans (key j hj h2).symm
theorem EvenR.one {h : List Bool} {L : List (List UInt8)} {r : Nat} (h0 : (thr h r).length = 0) : EvenR h L (r + 1) := by
  have key : ∀ i, i < r + 1 → hb h i = true → i = r := fun i hi h1 => by
    rcases Nat.lt_or_ge i r with q | q
    · have h2 := thr_mono (h := h) (show i + 1 ≤ r by omega)
      rw [thr_yes h1, List.length_append] at h2
      simp at h2
      omega
    · omega
  exact fun i j hi hj h1 h2 => by rw [key i hi h1, key j hj h2]

set_option maxRecDepth 100000 in
set_option maxHeartbeats 2000000 in
theorem rthere_any {va vb : Value} {h : List Bool} {L : List (List UInt8)} {w : World} (hH : RdB w va h) (hL : Rs w vb L) (hlen : h.length = L.length) (hl3 : h.length ≤ 300) :
    Calls Try.prog 28 #[va, vb] w fun e w' => (EvenH h L ∧ ∃ v, e = .returned (.tuple #[v, .bool true]) ∧ OwnI w' w.heap.size 3 v (thr h h.length) ∧ Below w.heap.size w w') ∨ (¬ EvenH h L ∧ e = .returned (.tuple #[.slice none 0 0, .bool false]) ∧ Below w.heap.size w w') := by
  obtain ⟨i0, hi, hz0, hz1, hz2⟩ := info_parts info_int
  obtain ⟨a, c, rfl⟩ := hH.form
  obtain ⟨a', c', rfl⟩ := hL.form
  have hlen' : Hid (h.length = L.length) := hlen
  clear hlen
  go_enter Try.func28, Try.ntmps28
  go_wp2
  go_loopw [6, 7] (fun o i wr => ∃ r : Nat, r ≤ h.length ∧ i = .int .i64 (r : Int) ∧ OwnI wr w.heap.size 3 o (thr h r) ∧ Hid (EvenR h L r) ∧ Below w.heap.size w wr) (fun _ i _ => h.length - (intOf i).toNat)
  case atStart => exact ⟨0, by omega, rfl, OwnI.nil _ _ _, fun i j hi => by omega, Below.refl _ _⟩
  case round =>
    obtain ⟨r, hr, rfl, hO, hE, hB⟩ := hrel
    have hsz := hB.size
    have hq := thr_len h r
    by_cases hlt : r < h.length
    · have hltL : r < L.length := by have := hlen'.out; omega
      obtain ⟨b, off, rfl, _, c1⟩ := (hH.below hB).at hlt
      obtain ⟨b', off', xa, xc, rfl, _, c2, _⟩ := (hL.below hB).at hltL
      have hlt' : (r : Int) < (h.length : Int) := by omega
      have hltL' : (r : Int) < (L.length : Int) := by omega
      obtain ⟨av, cv, rfl⟩ := hO.form
      cases e : hb h r with
      | false =>
        rw [e] at c1
        have E : Hid (thr h (r + 1) = thr h r) := thr_no e
        have E2 : Hid (EvenR h L (r + 1)) := hE.out.no e
        clear hH hL e hE
        go_wp2
        go_roundw
        case rel => exact ⟨r + 1, by omega, by go_num, by rw [E.out]; exact hO, E2, hB⟩
        case measure => simp [intOf]; omega
      | true =>
        rw [e] at c1
        have E : Hid (thr h (r + 1) = thr h r ++ [r]) := thr_yes e
        by_cases h0 : (thr h r).length = 0
        · have E2 : Hid (EvenR h L (r + 1)) := EvenR.one h0
          have hz : Hid (thr h r = []) := List.length_eq_zero_iff.1 h0
          rw [hz.out] at hO ⊢
          clear hH hL e hE h0 hq
          go_wp2_with fail
          go_quiet (fail)
          go_wp2_with (at_builtin; go_loud (refine wpList_append_int rfl (.tmp 36) (.tmp 38) 56 rfl w.heap.size 3 i0 Try.underlying56 hi hz0 hz1 hz2 (.slice av 0 cv) [] rfl (hO.drewN _) r _ 1 rfl (by simp) hsz ?_); intro v' w2 hv2 hb2)
          have HO : Hid (OwnI w2 w.heap.size 3 v' (thr h (r + 1))) := by show OwnI _ _ _ _ _; rw [E.out, hz.out]; exact hv2
          have HB : Hid (Below w.heap.size w w2) := (hB.drewN _).trans hb2
          clear hO hv2 hb2 hB c1
          go_wp2
          go_roundw
          case rel => exact ⟨r + 1, by omega, by go_num, HO.out, E2, HB.out⟩
          case measure => simp [intOf]; omega
        · have hpos : 0 < (thr h r).length := by omega
          have hpos' : (((thr h r).length : Nat) : Int) > 0 := by omega
          have hpos2 : (0 : Int) < (((thr h r).length : Nat) : Int) := by omega
          obtain ⟨g, rfl, hg, _, cg⟩ := hO.cell hpos
          have ht := thr_first hpos
          obtain ⟨t0, ht0⟩ : ∃ t0, Hid (t0 = (thr h r).getD 0 0) := ⟨_, rfl⟩
          have hY := hE.out.yes hpos
          rw [← ht0.out] at cg ht hY
          have htL : t0 < L.length := by omega
          have htL' : (t0 : Int) < (L.length : Int) := by omega
          obtain ⟨ya, yc, c3, _⟩ := (hL.below hB).get htL
          by_cases hl : (ro L t0).length = (ro L r).length
          · have hn : (((ro L t0).length : Int) != ((ro L r).length : Int)) = false := by simp [hl]
            have E2 : Hid (EvenR h L (r + 1)) := hY hl
            clear hH hL e hE h0 hl hY
            go_wp2_with fail
            go_quiet (fail)
            go_wp2_with (at_builtin; go_loud (refine wpList_append_int rfl (.tmp 36) (.tmp 38) 56 rfl w.heap.size 3 i0 Try.underlying56 hi hz0 hz1 hz2 (.slice (some ⟨g, 0, none⟩) (thr h r).length cv) (thr h r) rfl (hO.drewN _) r _ 1 rfl (by omega) hsz ?_); intro v' w2 hv2 hb2)
            have HO : Hid (OwnI w2 w.heap.size 3 v' (thr h (r + 1))) := by show OwnI _ _ _ _ _; rw [E.out]; exact hv2
            have HB : Hid (Below w.heap.size w w2) := (hB.drewN _).trans hb2
            clear hO hv2 hb2 hB c1 c2 c3 cg hn
            go_wp2
            go_roundw
            case rel => exact ⟨r + 1, by omega, by go_num, HO.out, E2, HB.out⟩
            case measure => simp [intOf]; omega
          · have hn : (((ro L t0).length : Int) != ((ro L r).length : Int)) = true := by simp; omega
            have E2 : Hid (¬ EvenH h L) := fun q => hl (q t0 r ht.2 e)
            clear hH hL e hE h0 hl hY
            go_wp2_with fail
            go_quiet (fail)
            go_wp2
            exact bodyPost_ret (v := .tuple #[.slice none 0 0, .bool false]) (by simp [results, Try.results28, go_sem]) rfl (Or.inr ⟨E2.out, rfl, hB.drewN _⟩)
    · have e : r = h.length := by omega
      subst e
      have hge : ¬ (h.length : Int) < (h.length : Int) := by omega
      have E2 : Hid (EvenH h L) := hE.out.all
      obtain ⟨av, cv, rfl⟩ := hO.form
      clear hH hL hE
      go_wp2
      exact bodyPost_ret (v := .tuple #[.slice av (thr h h.length).length cv, .bool true]) (by simp [results, Try.results28, go_sem]) rfl (Or.inl ⟨E2.out, _, rfl, hO, hB⟩)

end Go.Proofs.Ytkjolopdpihigaa.Gf

/-
  PLAIN MATHEMATICS, MORE: bits of ints that are not negative; a power by the bits of its exponent; an inverse that is sought; a logarithm that is sought. No program is named here.
-/

namespace Go.Proofs.Ytkjolopdpihigaa.Gf
set_option linter.unusedVariables false
open Go.RowKit

theorem val_int {k : IntKind} {a b : Int} (h : a = b) : Value.int k a = .int k b := by rw [h]
theorem i64_and_nat (a b : Nat) (ha : a < 9223372036854775808) (hb : b < 9223372036854775808) : bits .and .i64 (a : Int) (b : Int) = ((a &&& b : Nat) : Int) := by
  have hx : a &&& b < 2 ^ 63 := Nat.and_lt_two_pow _ (by omega)
  show IntKind.i64.wrap ((BitVec.ofInt 64 (a : Int) &&& BitVec.ofInt 64 (b : Int)).toNat : Int) = _
  rw [BitVec.toNat_and, ofInt_u64 a (by omega), ofInt_u64 b (by omega), IntKind.wrap_i64]
  omega
theorem i64_xor_nat (a b : Nat) (ha : a < 9223372036854775808) (hb : b < 9223372036854775808) : bits .xor .i64 (a : Int) (b : Int) = ((a ^^^ b : Nat) : Int) := by
  have hx : a ^^^ b < 2 ^ 63 := Nat.xor_lt_two_pow (by omega) (by omega)
  show IntKind.i64.wrap ((BitVec.ofInt 64 (a : Int) ^^^ BitVec.ofInt 64 (b : Int)).toNat : Int) = _
  rw [BitVec.toNat_xor, ofInt_u64 a (by omega), ofInt_u64 b (by omega), IntKind.wrap_i64]
  omega

theorem pow_cast (b k : Nat) : ((b : Int) / 2 ^ k) = ((b / 2 ^ k : Nat) : Int) := by simp
theorem bit_u8 {b : Nat} (hb : b < 256) (k : Nat) : (bits .and .u8 ((b : Int) / 2 ^ k) 1 == 1) = b.testBit k := by
  have hl : b / 2 ^ k < 256 := Nat.lt_of_le_of_lt (Nat.div_le_self _ _) hb
  rw [pow_cast, show (1 : Int) = ((1 : Nat) : Int) from rfl, u8_and_nat _ _ hl (by omega), nat_mask1, Nat.testBit_eq_decide_div_mod_eq, Bool.eq_iff_iff]
  simp only [beq_iff_eq, decide_eq_true_eq]
  omega
theorem bit_i64 {n : Nat} (hn : n < 9223372036854775808) (k : Nat) : (bits .and .i64 ((n : Int) / 2 ^ k) 1 == 1) = n.testBit k := by
  have hl : n / 2 ^ k < 9223372036854775808 := Nat.lt_of_le_of_lt (Nat.div_le_self _ _) hn
  rw [pow_cast, show (1 : Int) = ((1 : Nat) : Int) from rfl, i64_and_nat _ _ hl (by omega), nat_mask1, Nat.testBit_eq_decide_div_mod_eq, Bool.eq_iff_iff]
  simp only [beq_iff_eq, decide_eq_true_eq]
  omega

theorem acc_lt {a : Nat} (b : Nat) (ha : a < 256) : ∀ k, acc k a b < 256
  | 0 => by simp [acc]
  | k + 1 => by
    rw [acc]
    refine xor_lt (acc_lt b ha k) ?_
    split
    · exact xt_lt ha k
    · omega
theorem x_hi {a k : Nat} (ha : a < 256) (h : (256 : Int) ≤ (xt k a : Nat) * 2) : bits .xor .i64 ((xt k a : Nat) * 2) 285 = ((xt (k + 1) a : Nat) : Int) := by
  have lx := xt_lt ha k
  have e : (((xt k a : Nat) : Int) * 2) = ((2 * xt k a : Nat) : Int) := by omega
  rw [e, show (285 : Int) = ((285 : Nat) : Int) from rfl, i64_xor_nat _ _ (by omega) (by omega), xt, dbl, if_neg (by omega)]
theorem x_lo {a k : Nat} (h : ((xt k a : Nat) : Int) * 2 < 256) : ((xt k a : Nat) : Int) * 2 = ((xt (k + 1) a : Nat) : Int) := by
  rw [xt, dbl, if_pos (by omega)]; omega
theorem o_hit {a b k : Nat} (ha : a < 256) (hb : b < 256) (h : (bits .and .u8 ((b : Int) / 2 ^ k) 1 == 1) = true) : bits .xor .i64 (acc k a b : Nat) (xt k a : Nat) = ((acc (k + 1) a b : Nat) : Int) := by
  rw [bit_u8 hb] at h
  have := xt_lt ha k
  have := acc_lt b ha k
  rw [i64_xor_nat _ _ (by omega) (by omega), acc, if_pos h]
theorem o_miss {a b k : Nat} (hb : b < 256) (h : (bits .and .u8 ((b : Int) / 2 ^ k) 1 == 1) = false) : ((acc k a b : Nat) : Int) = ((acc (k + 1) a b : Nat) : Int) := by
  rw [bit_u8 hb] at h
  rw [acc, if_neg (by rw [h]; decide), Nat.xor_zero]

/-! A power by the bits of its exponent. -/
def tm : Nat → Nat → Nat → Nat
  | 0, _, _ => 1
  | k + 1, a, n => if n.testBit k then mulS (tm k a n) (sq k a) else tm k a n
theorem tm_lt (a n : Nat) : ∀ k, tm k a n < 256
  | 0 => by simp [tm]
  | k + 1 => by
    rw [tm]; split
    · exact mulS_lt _ _
    · exact tm_lt a n k
theorem mod_step (n k : Nat) : n % 2 ^ (k + 1) = n % 2 ^ k + (if n.testBit k then 2 ^ k else 0) := by
  rw [Nat.mod_pow_succ, Nat.testBit_eq_decide_div_mod_eq]
  have : n / 2 ^ k % 2 = 0 ∨ n / 2 ^ k % 2 = 1 := by omega
  rcases this with h | h <;> simp [h]
theorem tm_pos {a : Nat} (h : a < 256) (h0 : a ≠ 0) (n : Nat) : ∀ k, tm k a n ≠ 0 ∧ lg (tm k a n) = lg a * (n % 2 ^ k) % 255
  | 0 => by simp [tm, lg_one, Nat.mod_one]
  | k + 1 => by
    obtain ⟨h1, h2⟩ := tm_pos h h0 n k
    rw [mod_step, tm]
    by_cases b : n.testBit k = true
    · simp only [b, if_true]
      refine ⟨mulS_ne h1 (sq_ne h0 k), ?_⟩
      rw [lg_mulS h1 (sq_ne h0 k), h2, lg_sq h h0 k, ← Nat.add_mod, ← Nat.mul_add]
    · simp only [b]
      exact ⟨h1, by simpa using h2⟩
theorem tm_zero (n : Nat) : ∀ k, tm k 0 n = if n % 2 ^ k = 0 then 1 else 0
  | 0 => by simp [tm, Nat.mod_one]
  | k + 1 => by
    rw [mod_step, tm, tm_zero n k, sq_zero, mulS_zero]
    have := Nat.two_pow_pos k
    by_cases b : n.testBit k = true
    · simp only [b, if_true]
      rw [if_neg (by omega)]
    · simp only [b]
      simp
theorem tm_powV {a n : Nat} (h : a < 256) (hn : n < 9223372036854775808) : tm 63 a n = powV a (n : Nat) := by
  have hm : n % 2 ^ 63 = n := Nat.mod_eq_of_lt (by omega)
  by_cases h0 : a = 0
  · subst h0
    rw [tm_zero, hm, powV]
    simp
  · obtain ⟨h1, h2⟩ := tm_pos h h0 n 63
    refine lg_inj (tm_lt _ _ _) (powV_lt _ _) h1 (powV_ne h0 _) ?_
    rw [h2, hm, lg_powV h0]
    have : tn (n : Int) = n % 255 := by unfold tn; omega
    rw [this, Nat.mul_mod, Nat.mul_mod (lg a) (n % 255), Nat.mod_mod]
theorem powE_nat (a n : Nat) : powE a (n : Nat) = 0 := by
  unfold powE; rw [if_neg (by omega)]
theorem powV_inv_pow {a : Nat} (h0 : a ≠ 0) (m n : Int) (h : (m + n) % 255 = 0) : powV (invS a) m = powV a n := by
  rw [powV_pos (invS_ne h0), powV_pos h0, lg_invS h0]
  congr 1
  have e : (254 * tn m) % 255 = tn n % 255 := by unfold tn; omega
  rw [Nat.mul_mod, Nat.mod_mod, ← Nat.mul_mod, Nat.mul_assoc, Nat.mul_mod, e, ← Nat.mul_mod]

/-! What is sought. -/
theorem inv_found {a k : Nat} (hk : k < 256) (h : mulS a k = 1) : a ≠ 0 ∧ k = invS a := by
  have h0 : a ≠ 0 := by rintro rfl; rw [zero_mulS] at h; omega
  refine ⟨h0, ?_⟩
  have e : mulS (invS a) (mulS a k) = k := by
    rw [mulS_assoc, mulS_comm (invS a) a, mulS_invS h0, mulS_comm, mulS_one hk]
  rw [h, mulS_one (invS_lt a)] at e
  exact e.symm
theorem inv_none {a : Nat} (h : ∀ j, 1 ≤ j → j < 256 → mulS a j ≠ 1) : a = 0 := by
  by_cases h0 : a = 0
  · exact h0
  · exact absurd (mulS_invS h0) (h _ (by have := invS_ne h0; omega) (invS_lt a))
theorem log_found {a k : Nat} (hk : k < 255) (h : pw (k % 255) = a) : a ≠ 0 ∧ k = lg a := by
  rw [Nat.mod_eq_of_lt hk] at h
  subst h
  have := pw_pos hk
  exact ⟨by omega, (lg_pw hk).symm⟩
theorem log_none {a : Nat} (ha : a < 256) (h : ∀ j, j < 255 → pw (j % 255) ≠ a) : a = 0 := by
  by_cases h0 : a = 0
  · exact h0
  · exact absurd (by rw [Nat.mod_eq_of_lt (lg_lt ha)]; exact pw_lg ha h0) (h _ (lg_lt ha))
theorem pw_next {k : Nat} (hk : k < 255) : mulS (pw (k % 255)) 2 = pw ((k + 1) % 255) := by
  rw [mulS_two (pw_lt _), next_pw hk]

end Go.Proofs.Ytkjolopdpihigaa.Gf

/-
  THE DOCUMENT's ANSWER FOR LAYER 1 (package aumbryref01) BY CONTRACT: products.
-/

namespace Go.Proofs.Ytkjolopdpihigaa.Gf
set_option linter.unusedVariables false
open Go.RowKit

set_option maxRecDepth 100000 in
set_option maxHeartbeats 1000000 in
theorem rmul_any (a b : Nat) (w : World) (ha : a < 256) (hb : b < 256) :
    Calls Try.prog 31 #[.int .u8 a, .int .u8 b] w fun e w' => e = .returned (.int .u8 (mulS a b : Nat)) ∧ w' = w := by
  go_enter Try.func31, Try.ntmps31
  go_wp2
  go_loop [5, 6, 7] (fun x o i => ∃ k : Nat, k ≤ 8 ∧ i = .int .i64 k ∧ x = .int .i64 (xt k a : Nat) ∧ o = .int .i64 (acc k a b : Nat)) (fun _ _ i => 8 - (intOf i).toNat)
  case atStart => exact ⟨0, by omega, rfl, rfl, rfl⟩
  case round =>
    obtain ⟨k, hk, rfl, rfl, rfl⟩ := hrel
    have lx := xt_lt ha k
    have lo := acc_lt b ha k
    by_cases hlt : k < 8
    · go_wp2
      all_goals
        go_round
        case rel => exact ⟨k + 1, by omega, by go_num, by first | exact val_int (x_hi ha ‹_›) | exact val_int (x_lo ‹_›), by first | exact val_int (o_hit ha hb ‹_›) | exact val_int (o_miss hb ‹_›)⟩
        case measure => simp [intOf]; omega
    · have e : k = 8 := by omega
      subst e
      have E : Hid (mulS a b = acc 8 a b) := mulS_acc ha hb
      go_wp2
      go_ret
      exact ⟨ret_int (by rw [E.out]), rfl⟩

theorem rmul_at {x y : Int} {w : World} (a b : Nat) (hx : x = a) (hy : y = b) (ha : a < 256) (hb : b < 256) :
    Calls Try.prog 31 #[.int .u8 x, .int .u8 y] w fun e w' => e = .returned (.int .u8 (mulS a b : Nat)) ∧ w' = w := by
  subst hx hy; exact rmul_any a b w ha hb

end Go.Proofs.Ytkjolopdpihigaa.Gf

/-
  THE DOCUMENT's ANSWER FOR LAYER 1 (package aumbryref01) BY CONTRACT: inverses and quotients.
-/

namespace Go.Proofs.Ytkjolopdpihigaa.Gf
set_option linter.unusedVariables false
open Go.RowKit

set_option maxRecDepth 100000 in
set_option maxHeartbeats 1000000 in
theorem rinv_any (a : Nat) (w : World) (ha : a < 256) :
    Calls Try.prog 71 #[.int .u8 a] w fun e w' => e = .returned (.tuple #[.int .u8 (invS a : Nat), .int .i64 (zE a : Nat)]) ∧ w' = w := by
  go_enter Try.func71, Try.ntmps71
  go_wp2
  go_loop [4] (fun i => ∃ k : Nat, 1 ≤ k ∧ k ≤ 256 ∧ i = .int .i64 k ∧ Hid (∀ j, 1 ≤ j → j < k → mulS a j ≠ 1)) (fun i => 256 - (intOf i).toNat)
  case atStart => exact ⟨1, by omega, by omega, rfl, fun j h1 h2 => by omega⟩
  case round =>
    obtain ⟨k, h1, hk, rfl, hno⟩ := hrel
    by_cases hlt : k < 256
    · by_cases hit : mulS a k = 1
      · obtain ⟨ha0, hinv⟩ := inv_found hlt hit
        have E1 : Hid (k = invS a) := hinv
        have E2 : Hid (a ≠ 0) := ha0
        clear hinv ha0
        go_wp2_with (go_at_call 31; go_must (refine (rmul_at a k rfl (by omega) ha hlt).mono ?_); rintro e w' ⟨rfl, rfl⟩)
        go_ret2
        refine ⟨?_, rfl⟩
        rw [zE_pos E2.out, ← E1.out]
        rfl
      · have hb : ((mulS a k : Nat) : Int) ≠ 1 := by omega
        have hb2 : (((mulS a k : Nat) : Int) == 1) = false := by simpa using hb
        clear hb
        have HN : Hid (∀ j, 1 ≤ j → j < k + 1 → mulS a j ≠ 1) := fun j g1 g2 => by
          by_cases e : j = k
          · subst e; exact hit
          · exact hno.out j g1 (by omega)
        clear hit
        go_wp2_with (go_at_call 31; go_must (refine (rmul_at a k rfl (by omega) ha hlt).mono ?_); rintro e w' ⟨rfl, rfl⟩)
        go_round
        case rel => exact ⟨k + 1, by omega, by omega, by go_num, HN⟩
        case measure => simp [intOf]; omega
    · have e : k = 256 := by omega
      subst e
      have e0 := inv_none hno.out
      subst e0
      clear hno
      go_wp2
      go_ret2
      exact ⟨rfl, rfl⟩

theorem rinv_at {x : Int} {w : World} (a : Nat) (hx : x = a) (ha : a < 256) :
    Calls Try.prog 71 #[.int .u8 x] w fun e w' => e = .returned (.tuple #[.int .u8 (invS a : Nat), .int .i64 (zE a : Nat)]) ∧ w' = w := by
  subst hx; exact rinv_any a w ha

end Go.Proofs.Ytkjolopdpihigaa.Gf

/-
  THE DOCUMENT's ANSWER FOR LAYER 5 (package aumbryref05) BY CONTRACT: 'Check', 'part', 'same'.
-/

namespace Go.Proofs.Ytkjolopdpihigaa.Gf
set_option linter.unusedVariables false
set_option linter.unusedSimpArgs false
open Go.RowKit

set_option maxRecDepth 100000 in
set_option maxHeartbeats 1000000 in
theorem rccheck_ok {k m : Int} (w : World) (h : OkC k m) : Calls Try.prog 46 #[.int .i64 k, .int .i64 m] w fun e w' => e = .returned (.int .i64 0) ∧ w' = w := by
  obtain ⟨h1, h2, h3⟩ := h
  have k1 : decide (k < 1) = false := decide_eq_false (by omega)
  have k2 : decide (k > 256) = false := decide_eq_false (by omega)
  have k3 : decide (m < 0) = false := decide_eq_false (by omega)
  have k4 : decide (m > 256) = false := decide_eq_false (by omega)
  have k5 : decide (k + m > 256) = false := decide_eq_false (by omega)
  have gw : IntKind.i64.wrap (k + m) = k + m := by rw [IntKind.wrap_i64]; omega
  go_enter Try.func46, Try.ntmps46
  go_wp2
  go_ret
  exact ⟨rfl, rfl⟩
set_option maxRecDepth 100000 in
set_option maxHeartbeats 1000000 in
theorem rccheck_bad {k m : Int} (w : World) (h : ¬ OkC k m) : Calls Try.prog 46 #[.int .i64 k, .int .i64 m] w fun e w' => e = .returned (.int .i64 50) ∧ w' = w := by
  by_cases h1 : k < 1
  · have k1 : decide (k < 1) = true := decide_eq_true h1
    clear h h1
    go_enter Try.func46, Try.ntmps46
    go_wp2
    go_ret
    exact ⟨rfl, rfl⟩
  have k1 : decide (k < 1) = false := decide_eq_false h1
  by_cases h2 : k > 256
  · have k2 : decide (k > 256) = true := decide_eq_true h2
    clear h h1 h2
    go_enter Try.func46, Try.ntmps46
    go_wp2
    go_ret
    exact ⟨rfl, rfl⟩
  have k2 : decide (k > 256) = false := decide_eq_false h2
  by_cases h3 : m < 0
  · have k3 : decide (m < 0) = true := decide_eq_true h3
    clear h h1 h2 h3
    go_enter Try.func46, Try.ntmps46
    go_wp2
    go_ret
    exact ⟨rfl, rfl⟩
  have k3 : decide (m < 0) = false := decide_eq_false h3
  by_cases h4 : m > 256
  · have k4 : decide (m > 256) = true := decide_eq_true h4
    clear h h1 h2 h3 h4
    go_enter Try.func46, Try.ntmps46
    go_wp2
    go_ret
    exact ⟨rfl, rfl⟩
  have k4 : decide (m > 256) = false := decide_eq_false h4
  have k5 : decide (k + m > 256) = true := decide_eq_true (by
    by_cases h5 : k + m ≤ 256
    · exact absurd ⟨by omega, by omega, h5⟩ h
    · omega)
  have gw : IntKind.i64.wrap (k + m) = k + m := by rw [IntKind.wrap_i64]; omega
  clear h h1 h2 h3 h4
  go_enter Try.func46, Try.ntmps46
  go_wp2
  go_ret
  exact ⟨rfl, rfl⟩

set_option maxRecDepth 100000 in
set_option maxHeartbeats 1000000 in
theorem rpart_any {k i j : Nat} (w : World) (hk : k + i < 256) (hj : j < 256) {x y z : Int} (hx : x = (k : Int)) (hy : y = (i : Int)) (hz : z = (j : Int)) :
    Calls Try.prog 48 #[.int .i64 x, .int .i64 y, .int .i64 z] w fun e w' => e = .returned (.int .u8 ((parF k i j).toNat : Nat)) ∧ w' = w := by
  subst hx hy hz
  obtain ⟨t, ht⟩ : ∃ t, Hid (t = k + i) := ⟨_, rfl⟩
  have g0 : (k : Int) + (i : Int) = (t : Int) := by have := ht.out; omega
  have ht2 : t < 256 := by have := ht.out; omega
  have X := pt_xor ht2 hj
  have HP : Hid (parF k i j = iv (pt t ^^^ pt j)) := by show _ = _; rw [ht.out]; rfl
  have m1 : (t : Int) % 256 = (t : Int) := by omega
  have m2 : (j : Int) % 256 = (j : Int) := by omega
  obtain ⟨u, hu⟩ : ∃ u, Hid (u = pt t ^^^ pt j) := ⟨_, rfl⟩
  rw [← hu.out] at X HP
  go_enter Try.func48, Try.ntmps48
  go_wp2_with fail
  refine (rinv_at u.toNat rfl (u8_lt u)).mono ?_
  rintro e w' ⟨rfl, rfl⟩
  go_wp2
  go_ret
  exact ⟨by rw [HP.out, iv_toNat]; rfl, rfl⟩

end Go.Proofs.Ytkjolopdpihigaa.Gf

/-
  THE DOCUMENT's ANSWER FOR LAYER 5 (package aumbryref05) BY CONTRACT: 'Parity'.
-/


namespace Go.Proofs.Ytkjolopdpihigaa.Gf
set_option linter.unusedVariables false
set_option linter.unusedSimpArgs false
open Go.RowKit

theorem grown_drew {a b : World} {r : Option Nat} (h : a.drew.grownBy b r) : a.grownBy b r := ⟨h.os, h.tape, h.output, h.size, h.block⟩
/-- a matrix variable of the call's own to which a number is appended -/
structure MakeM (w0 w : World) (ms : Nat) (R C : Int) (v : Value) (u T : Nat) (f : Nat → UInt8) : Prop where
  box : Box w ms R C v
  free : Free w ms
  own : w.ownsRow (ms + 1) u 1 v T ((upto f T).map vb)
  lt : ms < w.heap.size
  below : Below ms w0 w
theorem MakeM.later {w0 w w' : World} {ms u T : Nat} {R C : Int} {v : Value} {f : Nat → UInt8} (h : MakeM w0 w ms R C v u T f) (hb : Below w.heap.size w w') : MakeM w0 w' ms R C v u T f :=
  ⟨h.box.below h.lt hb, h.free.below h.lt hb, owns_later h.own hb, Nat.lt_of_lt_of_le h.lt hb.size, h.below.trans (hb.mono (Nat.le_of_lt h.lt))⟩
theorem MakeM.push {w0 w w8 : World} {ms u T : Nat} {R C : Int} {v x' : Value} {f : Nat → UInt8} {o : Obj} (h : MakeM w0 w ms R C v u T f) (hg : (w.alloc o).grownBy w8 v.ownBlock) (hx : w8.ownsRow (ms + 1) u 1 x' (T + 1) ((upto f T).map vb ++ [f T].map vb)) :
    MakeM w0 (w8.setCell ⟨ms, 2, none⟩ x') ms R C x' u (T + 1) f ∧ w8.cell? ⟨ms, 2, none⟩ = some v ∧ w8.frozen? ⟨ms, 2, none⟩ = false := by
  have hvn : ∀ q, v.ownBlock = some q → ms + 1 ≤ q := fun q hq => (World.ownsRow.lt h.own q hq).1
  have hvne : some ms ≠ v.ownBlock := fun e => by have := hvn _ e.symm; omega
  have hl := h.lt
  have Y := (h.box.alloc h.lt o).grown hg (by simp; omega) hvne
  have G := (h.free.alloc h.lt o).grown hg (by simp; omega) hvne
  have hs : ms < w8.heap.size := by have := hg.size; simp at this; omega
  refine ⟨⟨Y.set2 _, G.setCell _ _, ?_, by simpa using hs, ((h.below.alloc (Nat.le_of_lt h.lt) o).grown hg (by simp; omega) (fun q hq => by have := hvn q hq; omega)).setCell (Nat.le_refl _) _⟩, Y.c2, G.f2⟩
  have h1 : w8.grownBy (w8.setCell ⟨ms, 2, none⟩ x') (some ms) := by
    have O := (Only.refl ms w8).setCell 2 x'
    exact ⟨O.os, O.tape, O.output, by rw [O.size]; exact Nat.le_refl _, fun q _ hq => O.block q (fun e => hq (by rw [e]))⟩
  refine World.ownsRow.kept (by rw [upto_vb_succ]; exact hx) h1 ?_
  rcases hq : x'.ownBlock with _ | q
  · exact Or.inl rfl
  · right; intro e; cases e; have := (World.ownsRow.lt hx _ hq).1; omega

set_option maxRecDepth 100000 in
set_option maxHeartbeats 1000000 in
theorem rpar_bad {k m : Int} (w : World) (h : ¬ OkC k m) : Calls Try.prog 53 #[.int .i64 k, .int .i64 m] w (MakesErr w 50) := by
  go_enter Try.func53, Try.ntmps53
  go_wp2_with fail
  refine (rccheck_bad _ h).mono ?_
  rintro e w2 ⟨rfl, rfl⟩
  go_wp2
  refine bodyPost_ret (v := .tuple #[.agg #[.int .i64 0, .int .i64 0, .slice none 0 0], .int .i64 50]) (by simp [results, Try.results53, go_sem]) rfl ⟨_, rfl, rd_none, by repeat (first | exact Below.refl _ _ | apply below_lit | refine Below.setCell ?_ (Nat.le_refl _) _)⟩

set_option maxRecDepth 100000 in
set_option maxHeartbeats 4000000 in
theorem rpar_ok {k m : Nat} (w : World) (h1 : 1 ≤ k) (h2 : k + m ≤ 256) {x y : Int} (hx : x = (k : Int)) (hy : y = (m : Int)) : Calls Try.prog 53 #[.int .i64 x, .int .i64 y] w (MakesM w m k (parF k)) := by
  subst hx hy
  obtain ⟨i0, hi, hz0, hz1, hz2⟩ := info_parts info_u8
  have hR : Hid (m = m) := rfl
  have hC : Hid (k = k) := rfl
  obtain ⟨F, hF⟩ : ∃ F, Hid (F = parF k) := ⟨_, rfl⟩
  have hR2 : m ≤ 256 := by have := hR.out; omega
  have hC2 : k ≤ 256 := by have := hC.out; omega
  rw [← hF.out]
  go_enter Try.func53, Try.ntmps53
  go_wp2_with fail
  refine (rccheck_ok _ (okC_mk h1 h2)).mono ?_
  rintro e w2 ⟨rfl, hw⟩
  subst hw
  have Y0 : MakeM (w.alloc (.cells #[.int .i64 0, .int .i64 0, .slice none 0 0] 52)) ((w.alloc (.cells #[.int .i64 0, .int .i64 0, .slice none 0 0] 52)).alloc (.cells #[.int .i64 (m : Int), .int .i64 (k : Int), .slice none 0 0] 52)) (w.heap.size + 1) (m : Int) (k : Int) (.slice none 0 0) 5 0 (pl k F) :=
    ⟨Box.new1 _ _ _ _ _ _, by have h := Free.new (w.alloc (.cells #[.int .i64 0, .int .i64 0, .slice none 0 0] 52)) #[.int .i64 (m : Int), .int .i64 (k : Int), .slice none 0 0] 52; rwa [World.size_alloc] at h, World.ownsRow_nil _ _ _ _, by simp, (Below.refl _ _).alloc (by simp) _⟩
  have X3 := Box.new w 0 0 (.slice none 0 0) 52
  have F3 := Free.new w #[.int .i64 0, .int .i64 0, .slice none 0 0] 52
  have B0 : Below w.heap.size w (w.alloc (.cells #[.int .i64 0, .int .i64 0, .slice none 0 0] 52)) := (Below.refl _ _).alloc (Nat.le_refl _) _
  have s0 : (w.alloc (.cells #[.int .i64 0, .int .i64 0, .slice none 0 0] 52)).heap.size = w.heap.size + 1 := by simp
  go_wp2
  generalize (w.alloc (.cells #[.int .i64 0, .int .i64 0, .slice none 0 0] 52)).alloc (.cells #[.int .i64 (m : Int), .int .i64 (k : Int), .slice none 0 0] 52) = w2 at *
  generalize w.alloc (.cells #[.int .i64 0, .int .i64 0, .slice none 0 0] 52) = w1 at *
  obtain ⟨ms, hms⟩ : ∃ ms, Hid (ms = w.heap.size + 1) := ⟨_, rfl⟩
  rw [← hms.out] at Y0 ⊢
  have lt0 : w.heap.size < ms := by have := hms.out; omega
  clear s0
  go_loopw [8] (fun i wr => ∃ (r : Nat) (v : Value), r ≤ m ∧ i = .int .i64 r ∧ MakeM w1 wr ms (m : Int) (k : Int) v 5 (r * k) (pl k F)) (fun i _ => m - (intOf i).toNat)
  case atStart => exact ⟨0, .slice none 0 0, by omega, rfl, by rw [Nat.zero_mul]; exact Y0⟩
  case round =>
    clear Y0
    obtain ⟨r, v, hr, rfl, HM⟩ := hrel
    by_cases hrR : r < m
    · have hrR' : (r : Int) < (m : Int) := by omega
      go_wp2
      go_loopw [9] (fun i w6 => ∃ (l : Nat) (v : Value), l ≤ k ∧ i = .int .i64 l ∧ MakeM w1 w6 ms (m : Int) (k : Int) v 5 (r * k + l) (pl k F)) (fun i _ => k - (intOf i).toNat)
      case atStart => exact ⟨0, v, by omega, rfl, HM⟩
      case round =>
        clear HM
        obtain ⟨l, v, hl, rfl, HM⟩ := hrel
        by_cases hlC : l < k
        · have hlC' : (l : Int) < (k : Int) := by omega
          obtain ⟨T, hT⟩ : ∃ T, Hid (T = r * k + l) := ⟨_, rfl⟩
          have hT2 : T ≤ 70000 := by have := hT.out; have := Nat.mul_le_mul (show r ≤ 256 by omega) hC2; omega
          have HV : Hid (pl k F T = F r l) := by show _ = _; rw [hT.out]; exact pl_at F hlC
          have HT : Hid (T + 1 = r * k + (l + 1)) := by show _ = _; rw [hT.out]; rfl
          rw [← hT.out] at HM
          obtain ⟨av, cv, ev⟩ := owns_form HM.own
          subst ev
          have m2 := HM.box.c2
          have n2 := HM.free.f2
          have lt2 := HM.lt
          have HE : Hid (F r l = parF k r l) := by show _ = _; rw [hF.out]
          go_wp2
          go_region_law (first | (refine step_append_rd rfl (.tmp 31) (.tmp 36) 34 rfl (ms + 1) 5 i0 Try.underlying34 hi hz0 hz1 hz2 (.slice av T cv) T _ rfl (World.ownsRow.alloc HM.own _) _ [F r l] rfl (rd_lit (n := 1) [F r l] rfl rfl (by decide)) (by simp; omega) (by simp; omega) ?_; intro x' w8 hx8 hg8; rw [show T + [F r l].length = T + 1 from rfl, ← HV.out] at hx8; obtain ⟨ax, cx, ex⟩ := owns_form hx8; subst ex; obtain ⟨HN, m8, n8⟩ := HM.push (grown_drew hg8) hx8) | (go_simp; go_at_call 48; refine (rpart_any _ (by have := hR.out; omega) (by have := hC.out; omega) rfl rfl rfl).mono ?_; rintro e w9 ⟨rfl, rfl⟩; rw [← HE.out]))
          all_goals
            have HN' : Hid _ := HN
            clear HN hx8 hg8 m8 n8 m2 n2 HM
            go_wp2
            go_roundw
            case rel => exact ⟨l + 1, .slice ax (T + 1) cx, by omega, by go_num, by rw [← HT.out]; exact HN'.out⟩
            case measure => simp [intOf]; omega
        · have e : l = k := by omega
          have hge : ¬ (l : Int) < (k : Int) := by omega
          have HN : Hid (MakeM w1 wr ms (m : Int) (k : Int) v 5 ((r + 1) * k) (pl k F)) := by
            show MakeM _ _ _ _ _ _ _ _ _
            rw [Nat.add_mul, Nat.one_mul]; rw [e] at HM; exact HM
          clear HM e
          go_wp2
          go_roundw
          case rel => exact ⟨r + 1, v, by omega, by go_num, HN.out⟩
          case measure => simp [intOf]; omega
    · have e : r = m := by omega
      have hge : ¬ (r : Int) < (m : Int) := by omega
      have hRd : Rd wr v (flat m k F) := by
        rw [← pl_flat]
        refine Rd.owned (base := ms + 1) (e := 5) ?_
        rw [upto_length]; rw [e] at HM; exact HM.own
      have hvb : ∀ q, v.ownBlock = some q → ms + 1 ≤ q := fun q hq => (World.ownsRow.lt HM.own q hq).1
      obtain ⟨av, cv, ev⟩ := owns_form HM.own
      have X4 := X3.below (B := ms) (by omega) HM.below
      have F4 := F3.below (B := ms) (by omega) HM.below
      have x30 := X4.c0
      have x31 := X4.c1
      have x32 := X4.c2
      have f30 := F4.f0
      have f31 := F4.f1
      have f32 := F4.f2
      have y0 := HM.box.c0
      have y1 := HM.box.c1
      have y2 := HM.box.c2
      have B4 := B0.trans (HM.below.mono (show w.heap.size ≤ ms by omega))
      clear HM e
      subst ev
      go_wp2
      have O1 : Only w.heap.size wr (((wr.setCell ⟨w.heap.size, 0, none⟩ (.int .i64 (m : Int))).setCell ⟨w.heap.size, 1, none⟩ (.int .i64 (k : Int))).setCell ⟨w.heap.size, 2, none⟩ (.slice av (r * k) cv)) :=
        (((Only.refl _ _).setCell 0 _).setCell 1 _).setCell 2 _
      have hap : Apart w.heap.size (.slice av (r * k) cv) := fun x m' c' ex => by
        right; intro eb
        simp at ex
        obtain ⟨rfl, _⟩ := ex
        have := hvb x.block rfl
        omega
      exact bodyPost_ret (v := .tuple #[.agg #[.int .i64 (m : Int), .int .i64 (k : Int), .slice av (r * k) cv], .int .i64 0]) (by simp [results, Try.results53, go_sem, x30, x31, x32, f30, f31, f32]) rfl ⟨_, rfl, hRd.only hap O1, B4.trans (O1.below (Nat.le_refl _))⟩

end Go.Proofs.Ytkjolopdpihigaa.Gf

/-
  THE DOCUMENT's ANSWER FOR LAYER 5 (package aumbryref05) BY CONTRACT: 'Generator'.
-/

namespace Go.Proofs.Ytkjolopdpihigaa.Gf
set_option linter.unusedVariables false
set_option linter.unusedSimpArgs false
open Go.RowKit

set_option maxRecDepth 100000 in
set_option maxHeartbeats 1000000 in
theorem rsame5_any {i j : Int} (w : World) : Calls Try.prog 47 #[.int .i64 i, .int .i64 j] w fun e w' => e = .returned (.int .u8 (if i = j then 1 else 0)) ∧ w' = w := by
  by_cases h : i = j
  · rw [if_pos h]
    have d : (i == j) = true := by rw [beq_iff_eq]; exact h
    clear h
    go_enter Try.func47, Try.ntmps47
    go_wp2
    go_ret
    exact ⟨rfl, rfl⟩
  · rw [if_neg h]
    have d : (i == j) = false := by rw [beq_eq_false_iff_ne]; exact h
    clear h
    go_enter Try.func47, Try.ntmps47
    go_wp2
    go_ret
    exact ⟨rfl, rfl⟩

theorem rsame5_nat {i j : Nat} (w : World) {x y : Int} (hx : x = (i : Int)) (hy : y = (j : Int)) : Calls Try.prog 47 #[.int .i64 x, .int .i64 y] w fun e w' => e = .returned (.int .u8 ((one i j).toNat : Nat)) ∧ w' = w := by
  subst hx hy
  refine (rsame5_any w).mono ?_
  rintro e w' ⟨rfl, rfl⟩
  refine ⟨?_, rfl⟩
  by_cases h : i = j
  · rw [if_pos (by omega), h, one_self]; rfl
  · rw [if_neg (by omega), one_ne h]; rfl

set_option maxRecDepth 100000 in
set_option maxHeartbeats 1000000 in
theorem rgen_bad {k m : Int} (w : World) (h : ¬ OkC k m) : Calls Try.prog 27 #[.int .i64 k, .int .i64 m] w (MakesErr w 50) := by
  go_enter Try.func27, Try.ntmps27
  go_wp2_with fail
  refine (rccheck_bad _ h).mono ?_
  rintro e w2 ⟨rfl, rfl⟩
  go_wp2
  refine bodyPost_ret (v := .tuple #[.agg #[.int .i64 0, .int .i64 0, .slice none 0 0], .int .i64 50]) (by simp [results, Try.results27, go_sem]) rfl ⟨_, rfl, rd_none, by repeat (first | exact Below.refl _ _ | apply below_lit | refine Below.setCell ?_ (Nat.le_refl _) _)⟩

set_option maxRecDepth 100000 in
set_option maxHeartbeats 4000000 in
theorem rgen_ok {k m : Nat} (w : World) (h1 : 1 ≤ k) (h2 : k + m ≤ 256) {x y : Int} (hx : x = (k : Int)) (hy : y = (m : Int)) : Calls Try.prog 27 #[.int .i64 x, .int .i64 y] w (MakesM w (k + m) k (genF k)) := by
  subst hx hy
  obtain ⟨i0, hi, hz0, hz1, hz2⟩ := info_parts info_u8
  obtain ⟨R, hR⟩ : ∃ R, Hid (R = (k + m)) := ⟨_, rfl⟩
  have hC : Hid (k = k) := rfl
  obtain ⟨F, hF⟩ : ∃ F, Hid (F = genF k) := ⟨_, rfl⟩
  have hR2 : R ≤ 256 := by have := hR.out; omega
  have hC2 : k ≤ 256 := by have := hC.out; omega
  have gR : (k : Int) + (m : Int) = (R : Int) := by have := hR.out; omega
  rw [← hR.out]
  rw [← hF.out]
  go_enter Try.func27, Try.ntmps27
  go_wp2_with fail
  refine (rccheck_ok _ (okC_mk h1 h2)).mono ?_
  rintro e w2 ⟨rfl, hw⟩
  subst hw
  have Y0 : MakeM (w.alloc (.cells #[.int .i64 0, .int .i64 0, .slice none 0 0] 52)) ((w.alloc (.cells #[.int .i64 0, .int .i64 0, .slice none 0 0] 52)).alloc (.cells #[.int .i64 (R : Int), .int .i64 (k : Int), .slice none 0 0] 52)) (w.heap.size + 1) (R : Int) (k : Int) (.slice none 0 0) 5 0 (pl k F) :=
    ⟨Box.new1 _ _ _ _ _ _, by have h := Free.new (w.alloc (.cells #[.int .i64 0, .int .i64 0, .slice none 0 0] 52)) #[.int .i64 (R : Int), .int .i64 (k : Int), .slice none 0 0] 52; rwa [World.size_alloc] at h, World.ownsRow_nil _ _ _ _, by simp, (Below.refl _ _).alloc (by simp) _⟩
  have X3 := Box.new w 0 0 (.slice none 0 0) 52
  have F3 := Free.new w #[.int .i64 0, .int .i64 0, .slice none 0 0] 52
  have B0 : Below w.heap.size w (w.alloc (.cells #[.int .i64 0, .int .i64 0, .slice none 0 0] 52)) := (Below.refl _ _).alloc (Nat.le_refl _) _
  have s0 : (w.alloc (.cells #[.int .i64 0, .int .i64 0, .slice none 0 0] 52)).heap.size = w.heap.size + 1 := by simp
  go_wp2
  generalize (w.alloc (.cells #[.int .i64 0, .int .i64 0, .slice none 0 0] 52)).alloc (.cells #[.int .i64 (R : Int), .int .i64 (k : Int), .slice none 0 0] 52) = w2 at *
  generalize w.alloc (.cells #[.int .i64 0, .int .i64 0, .slice none 0 0] 52) = w1 at *
  obtain ⟨ms, hms⟩ : ∃ ms, Hid (ms = w.heap.size + 1) := ⟨_, rfl⟩
  rw [← hms.out] at Y0 ⊢
  have lt0 : w.heap.size < ms := by have := hms.out; omega
  clear s0
  go_loopw [8] (fun i wr => ∃ (r : Nat) (v : Value), r ≤ R ∧ i = .int .i64 r ∧ MakeM w1 wr ms (R : Int) (k : Int) v 5 (r * k) (pl k F)) (fun i _ => R - (intOf i).toNat)
  case atStart => exact ⟨0, .slice none 0 0, by omega, rfl, by rw [Nat.zero_mul]; exact Y0⟩
  case round =>
    clear Y0
    obtain ⟨r, v, hr, rfl, HM⟩ := hrel
    by_cases hrR : r < R
    · have hrR' : (r : Int) < (R : Int) := by omega
      go_wp2
      go_loopw [9] (fun i w6 => ∃ (l : Nat) (v : Value), l ≤ k ∧ i = .int .i64 l ∧ MakeM w1 w6 ms (R : Int) (k : Int) v 5 (r * k + l) (pl k F)) (fun i _ => k - (intOf i).toNat)
      case atStart => exact ⟨0, v, by omega, rfl, HM⟩
      case round =>
        clear HM
        obtain ⟨l, v, hl, rfl, HM⟩ := hrel
        by_cases hlC : l < k
        · have hlC' : (l : Int) < (k : Int) := by omega
          obtain ⟨T, hT⟩ : ∃ T, Hid (T = r * k + l) := ⟨_, rfl⟩
          have hT2 : T ≤ 70000 := by have := hT.out; have := Nat.mul_le_mul (show r ≤ 256 by omega) hC2; omega
          have HV : Hid (pl k F T = F r l) := by show _ = _; rw [hT.out]; exact pl_at F hlC
          have HT : Hid (T + 1 = r * k + (l + 1)) := by show _ = _; rw [hT.out]; rfl
          rw [← hT.out] at HM
          obtain ⟨av, cv, ev⟩ := owns_form HM.own
          subst ev
          have m2 := HM.box.c2
          have n2 := HM.free.f2
          have lt2 := HM.lt
          by_cases hrk : r < k
          · have hge : ¬ (r : Int) ≥ (k : Int) := by omega
            have HE : Hid (F r l = one r l) := by show _ = _; rw [hF.out]; exact if_pos hrk
            go_wp2_with fail
            refine (rsame5_nat _ rfl rfl).mono ?_
            rintro e w9 ⟨rfl, rfl⟩
            rw [← HE.out]
            go_wp2_with (at_builtin; refine wpList_append_rd2 _ rfl (.tmp 48) (.tmp 50) 34 rfl (ms + 1) 5 i0 Try.underlying34 hi hz0 hz1 hz2 (.slice av T cv) T _ rfl (World.ownsRow.alloc HM.own _) _ [F r l] rfl (rd_lit (n := 1) [F r l] rfl rfl (by decide)) (by simp; omega) (by simp; omega) ?_; intro x' w8 hx8 hg8 hb8; rw [show T + [F r l].length = T + 1 from rfl, ← HV.out] at hx8; obtain ⟨ax, cx, ex⟩ := owns_form hx8; subst ex; obtain ⟨HN, m8, n8⟩ := HM.push hg8 hx8)
            have HN' : Hid _ := HN
            clear HN hx8 hg8 hb8 m8 n8 m2 n2 HM
            go_roundw
            case rel => exact ⟨l + 1, .slice ax (T + 1) cx, by omega, by go_num, by rw [← HT.out]; exact HN'.out⟩
            case measure => simp [intOf]; omega
          · have hge : (r : Int) ≥ (k : Int) := by omega
            obtain ⟨q, hq⟩ : ∃ q, Hid (q = r - k) := ⟨_, rfl⟩
            have gq : (r : Int) - (k : Int) = (q : Int) := by have := hq.out; omega
            have HE : Hid (F r l = parF k q l) := by show _ = _; rw [hF.out, hq.out]; exact if_neg hrk
            have gwq : IntKind.i64.wrap (q : Int) = (q : Int) := by rw [IntKind.wrap_i64]; have := hq.out; omega
            go_wp2_with fail
            refine (rsame5_nat _ rfl rfl).mono ?_
            rintro e w9 ⟨rfl, rfl⟩
            go_wp2_with fail
            refine (rpart_any _ (by have := hq.out; have := hR.out; omega) (by have := hC.out; omega) rfl rfl rfl).mono ?_
            rintro e w9 ⟨rfl, rfl⟩
            rw [← HE.out]
            go_wp2_with (at_builtin; refine wpList_append_rd2 _ rfl (.tmp 48) (.tmp 50) 34 rfl (ms + 1) 5 i0 Try.underlying34 hi hz0 hz1 hz2 (.slice av T cv) T _ rfl (World.ownsRow.alloc HM.own _) _ [F r l] rfl (rd_lit (n := 1) [F r l] rfl rfl (by decide)) (by simp; omega) (by simp; omega) ?_; intro x' w8 hx8 hg8 hb8; rw [show T + [F r l].length = T + 1 from rfl, ← HV.out] at hx8; obtain ⟨ax, cx, ex⟩ := owns_form hx8; subst ex; obtain ⟨HN, m8, n8⟩ := HM.push hg8 hx8)
            have HN' : Hid _ := HN
            clear HN hx8 hg8 hb8 m8 n8 m2 n2 HM
            go_roundw
            case rel => exact ⟨l + 1, .slice ax (T + 1) cx, by omega, by go_num, by rw [← HT.out]; exact HN'.out⟩
            case measure => simp [intOf]; omega
        · have e : l = k := by omega
          have hge : ¬ (l : Int) < (k : Int) := by omega
          have HN : Hid (MakeM w1 wr ms (R : Int) (k : Int) v 5 ((r + 1) * k) (pl k F)) := by
            show MakeM _ _ _ _ _ _ _ _ _
            rw [Nat.add_mul, Nat.one_mul]; rw [e] at HM; exact HM
          clear HM e
          go_wp2
          go_roundw
          case rel => exact ⟨r + 1, v, by omega, by go_num, HN.out⟩
          case measure => simp [intOf]; omega
    · have e : r = R := by omega
      have hge : ¬ (r : Int) < (R : Int) := by omega
      have hRd : Rd wr v (flat R k F) := by
        rw [← pl_flat]
        refine Rd.owned (base := ms + 1) (e := 5) ?_
        rw [upto_length]; rw [e] at HM; exact HM.own
      have hvb : ∀ q, v.ownBlock = some q → ms + 1 ≤ q := fun q hq => (World.ownsRow.lt HM.own q hq).1
      obtain ⟨av, cv, ev⟩ := owns_form HM.own
      have X4 := X3.below (B := ms) (by omega) HM.below
      have F4 := F3.below (B := ms) (by omega) HM.below
      have x30 := X4.c0
      have x31 := X4.c1
      have x32 := X4.c2
      have f30 := F4.f0
      have f31 := F4.f1
      have f32 := F4.f2
      have y0 := HM.box.c0
      have y1 := HM.box.c1
      have y2 := HM.box.c2
      have B4 := B0.trans (HM.below.mono (show w.heap.size ≤ ms by omega))
      clear HM e
      subst ev
      go_wp2
      have O1 : Only w.heap.size wr (((wr.setCell ⟨w.heap.size, 0, none⟩ (.int .i64 (R : Int))).setCell ⟨w.heap.size, 1, none⟩ (.int .i64 (k : Int))).setCell ⟨w.heap.size, 2, none⟩ (.slice av (r * k) cv)) :=
        (((Only.refl _ _).setCell 0 _).setCell 1 _).setCell 2 _
      have hap : Apart w.heap.size (.slice av (r * k) cv) := fun x m' c' ex => by
        right; intro eb
        simp at ex
        obtain ⟨rfl, _⟩ := ex
        have := hvb x.block rfl
        omega
      exact bodyPost_ret (v := .tuple #[.agg #[.int .i64 (R : Int), .int .i64 (k : Int), .slice av (r * k) cv], .int .i64 0]) (by simp [results, Try.results27, go_sem, x30, x31, x32, f30, f31, f32]) rfl ⟨_, rfl, hRd.only hap O1, B4.trans (O1.below (Nat.le_refl _))⟩

end Go.Proofs.Ytkjolopdpihigaa.Gf

/-
  THE DOCUMENT's ANSWER FOR LAYER 3 (package aumbryref03) BY CONTRACT: 'Check'.
-/

namespace Go.Proofs.Ytkjolopdpihigaa.Gf
set_option linter.unusedVariables false
set_option linter.unusedSimpArgs false
open Go.RowKit

set_option maxRecDepth 100000 in
set_option maxHeartbeats 1000000 in
theorem rcheck_ok {v : Value} {r c : Int} {A : List UInt8} {w : World} (h : RdM w v r c A) (hok : OkM r c A) :
    Calls Try.prog 49 #[v] w fun e w' => e = .returned (.int .i64 0) ∧ Below w.heap.size w w' := by
  obtain ⟨vs, rfl, hr⟩ := h
  obtain ⟨a, cap, rfl⟩ := hr.form
  obtain ⟨h1, h2, h3, h4, h5⟩ := hok
  have k1 : decide (r < 0) = false := by simp; omega
  have k2 : decide (r > 256) = false := by simp; omega
  have k3 : decide (c < 0) = false := by simp; omega
  have k4 : decide (c > 256) = false := by simp; omega
  generalize A.length = n at *
  have gw : IntKind.i64.wrap (r * c) = (n : Int) := by
    rw [← h5, IntKind.wrap_i64]
    have : r * c ≤ 256 * 256 := Int.mul_le_mul h2 h4 h3 (by decide)
    omega
  clear hr h5
  go_enter Try.func49, Try.ntmps49
  go_wp2
  go_ret
  exact ⟨rfl, by repeat (first | exact Below.refl _ _ | apply below_lit)⟩

set_option maxRecDepth 100000 in
set_option maxHeartbeats 1000000 in
theorem rcheck_bad {v : Value} {r c : Int} {A : List UInt8} {w : World} (h : RdM w v r c A) (hok : ¬ OkM r c A) :
    Calls Try.prog 49 #[v] w fun e w' => e = .returned (.int .i64 30) ∧ Below w.heap.size w w' := by
  obtain ⟨vs, rfl, hr⟩ := h
  obtain ⟨a, cap, rfl⟩ := hr.form
  have hl := hr.len
  clear hr
  by_cases h1 : r < 0
  · clear hok
    go_enter Try.func49, Try.ntmps49
    go_wp2
    go_ret
    exact ⟨rfl, by repeat (first | exact Below.refl _ _ | apply below_lit)⟩
  by_cases h2 : r > 256
  · clear hok
    go_enter Try.func49, Try.ntmps49
    go_wp2
    go_ret
    exact ⟨rfl, by repeat (first | exact Below.refl _ _ | apply below_lit)⟩
  by_cases h3 : c < 0
  · clear hok
    go_enter Try.func49, Try.ntmps49
    go_wp2
    go_ret
    exact ⟨rfl, by repeat (first | exact Below.refl _ _ | apply below_lit)⟩
  by_cases h4 : c > 256
  · clear hok
    go_enter Try.func49, Try.ntmps49
    go_wp2
    go_ret
    exact ⟨rfl, by repeat (first | exact Below.refl _ _ | apply below_lit)⟩
  · have h5 : ¬ (A.length : Int) = r * c := fun h5 => hok ⟨by omega, by omega, by omega, by omega, h5⟩
    clear hok
    generalize A.length = n at *
    obtain ⟨m, hm⟩ : ∃ m, m = r * c := ⟨_, rfl⟩
    have gw : IntKind.i64.wrap (r * c) = m := by
      rw [hm, IntKind.wrap_i64]
      have : r * c ≤ 256 * 256 := Int.mul_le_mul (by omega) (by omega) (by omega) (by decide)
      have : 0 ≤ r * c := Int.mul_nonneg (by omega) (by omega)
      omega
    rw [← hm] at h5
    clear hm
    have k5 : ((n : Int) != m) = true := by simpa using h5
    go_enter Try.func49, Try.ntmps49
    go_wp2
    go_ret
    exact ⟨rfl, by repeat (first | exact Below.refl _ _ | apply below_lit)⟩

end Go.Proofs.Ytkjolopdpihigaa.Gf

