/- TEXTS JOINED: ErOwn, GfMul, GfQuiet, GfPowMath, GfPow, CaCA, MxNf, CaCB, CaCP, BkCA, ErCC, ErCB. -/
import Derived.Test.YtkjolopdpihigaaTome4
import Derived.Test.YtkjolopdpihigaaTome1
import Derived.Test.YtkjolopdpihigaaTome3
import Derived.Test.YtkjolopdpihigaaTome2
import Derived.Shelf.Abstract
import Derived.Laws.EntriesVeiled
import Derived.Deep.RegionWith
import Derived.BigQuiet
import Derived.Deep.OwnRows
import Derived.Deep.RegionHeld3
import Derived.WalkMore
/-
  ROWS OF NUMBERS (places) OF THE CALL's OWN. No program's function is named here.
-/

namespace Go.Proofs.Ytkjolopdpihigaa.Gf
set_option linter.unusedVariables false
set_option linter.unusedSimpArgs false
open Go.RowKit

def vi (z : Nat) : Value := .int .i64 (z : Int)
def toI (zs : List Nat) : List Int := zs.map fun (z : Nat) => (z : Int)
theorem toI_length (zs : List Nat) : (toI zs).length = zs.length := by simp [toI]
theorem toI_getD (zs : List Nat) (i : Nat) : (toI zs).getD i 0 = ((zs.getD i 0 : Nat) : Int) := by
  unfold toI
  by_cases h : i < zs.length
  · simp [List.getD, h]
  · simp [List.getD, Nat.le_of_not_lt h]
/-- a row of places of the call's own -/
def OwnI (w : World) (base e : Nat) (v : Value) (zs : List Nat) : Prop := w.ownsRow base e 1 v zs.length (zs.map vi)
theorem OwnI.form {w : World} {base e : Nat} {v : Value} {zs : List Nat} (h : OwnI w base e v zs) : ∃ a c, v = .slice a zs.length c := owns_form h
theorem OwnI.cell {w : World} {base e : Nat} {a : Option Addr} {n c : Nat} {zs : List Nat} (h : OwnI w base e (.slice a n c) zs) {i : Nat} (hi : i < zs.length) : ∃ g, a = some ⟨g, 0, none⟩ ∧ g < w.heap.size ∧ base ≤ g ∧ w.cell? ⟨g, i, none⟩ = some (.int .i64 ((zs.getD i 0 : Nat) : Int)) := by
  have h' := h
  obtain ⟨_, ⟨e, hn⟩ | ⟨g, cap, cur, e, hg, hh, hc, hm, hs, ht⟩⟩ := h
  · omega
  · simp at e
    obtain ⟨rfl, rfl, rfl⟩ := e
    have hlt := World.ownsRow.lt h' g rfl
    refine ⟨g, rfl, hlt.2, hlt.1, ?_⟩
    rw [World.ownsRow.cellAt h' i (by omega), List.getElem?_map, List.getElem?_eq_getElem hi]
    simp [vi, List.getD, hi]
theorem OwnI.rd {w : World} {base e : Nat} {v : Value} {zs : List Nat} (h : OwnI w base e v zs) (hl : zs.length ≤ 1000000) : RdI w v (toI zs) := by
  obtain ⟨a, c, rfl⟩ := h.form
  by_cases h0 : zs = []
  · subst h0; exact Or.inl ⟨a, c, rfl, rfl⟩
  · have hpos : 0 < zs.length := List.length_pos_iff.2 h0
    obtain ⟨g, rfl, hg, _, _⟩ := h.cell hpos
    refine Or.inr ⟨g, 0, c, fun e => h0 (by unfold toI at e; simpa using e), by rw [toI_length], by rw [toI_length]; unfold maxLen; omega, hg, fun i hi => ?_⟩
    rw [toI_length] at hi
    obtain ⟨g', e, _, _, hc⟩ := h.cell hi
    simp at e
    subst e
    rw [Nat.zero_add, hc, toI_getD]
theorem OwnI.nil (w : World) (base e : Nat) : OwnI w base e (.slice none 0 0) [] := World.ownsRow_nil _ _ _ _
/-- a slice of places, as the walk meets it -/
theorem RdI.at {w : World} {a : Option Addr} {n c : Nat} {zs : List Int} (h : RdI w (.slice a n c) zs) {i : Nat} (hi : i < zs.length) : ∃ b off, a = some ⟨b, off, none⟩ ∧ b < w.heap.size ∧ w.cell? ⟨b, off + i, none⟩ = some (.int .i64 (zs.getD i 0)) := by
  rcases h with ⟨_, _, e, _⟩ | ⟨b, off, cap, _, e, _, hb, hc⟩
  · subst e; simp at hi
  · simp at e
    obtain ⟨rfl, rfl, rfl⟩ := e
    exact ⟨b, off, rfl, hb, hc i hi⟩
theorem RdI.get {w : World} {b off n c : Nat} {zs : List Int} (h : RdI w (.slice (some ⟨b, off, none⟩) n c) zs) {i : Nat} (hi : i < zs.length) : w.cell? ⟨b, off + i, none⟩ = some (.int .i64 (zs.getD i 0)) := by
  obtain ⟨b', off', e, _, h1⟩ := h.at hi
  simp at e
  obtain ⟨rfl, rfl⟩ := e
  exact h1
/-- 'append(s, x)' on places of the call's own, x laid as a list of one -/
theorem wpList_append_int {P : Program} {wr : World} {ops : Array Oper} {rest : List Oper} {o : Oper} {a : Act} {Q : Exit → Act → World → Prop} (hgd : o.guard = none) (s xo : Operand) (t : TypeId)
    (ho : o.op = .call { callee := .builtin .append, args := #[s, xo], argTypes := #[t, t] })
    (base e : Nat) (i : TypeInfo) (ht : P.underlying t = some (.slice e)) (hi : P.info? e = some i) (hz : i.zero = some (.int .i64 0)) (hsize : i.size = 1) (hby : i.bytes = 8)
    (v : Value) (zs : List Nat) (hs : a.eval s = v) (hO : OwnI wr base e v zs) (z : Nat) (et c : Nat) (hxo : a.eval xo = .slice (some ⟨wr.heap.size, 0, none⟩) 1 c) (hl : zs.length ≤ 100000) (hbase : base ≤ wr.heap.size)
    (h : ∀ v' w2, OwnI w2 base e v' (zs ++ [z]) → Below base wr w2 → wpList P ops Q rest (a.put o.dst v') w2) : wpList P ops Q (o :: rest) a (wr.alloc (.cells #[.int .i64 (z : Int)] et)) := by
  refine wpList_plain hgd fun K hK => ?_
  obtain ⟨v', w', hrun, h2, h3, _, h5⟩ := run_append_own_at (P := P) (wr.alloc (.cells #[.int .i64 (z : Int)] et)) base t o.type e i (.int .i64 0) 1 8 ht hi hz hsize hby rfl (by decide) v zs.length (zs.map vi) (World.ownsRow.alloc hO _) ⟨wr.heap.size, 0, none⟩ 1 c [vi z] rfl (by intro j y hj; rw [add_at, Nat.zero_add]; rcases j with _ | j <;> simp at hj; subst hj; simp [vi]) (by intro y hy; simp at hy; rw [hy]; rfl) (by unfold maxLen; omega) (by omega) (by simp; omega)
  unfold Oper.wp execOp
  simp only [ho, resolve, invoke, builtin, Sem.run_bind, Sem.run_pure, Result.andThen_ok, List.map_toArray, List.map_cons, List.map_nil, hs, hxo, hrun]
  refine hK _ _ (h v' w' ?_ ?_)
  · unfold OwnI
    rw [List.length_append, List.map_append]
    exact h2
  · exact ((Below.refl base wr).alloc hbase _).grown h3 (by simp; omega) (fun q hq => (World.ownsRow.lt hO q hq).1)

end Go.Proofs.Ytkjolopdpihigaa.Gf

/-
  THE FIELD's PRODUCTS BY CONTRACT, on a field that stands in memory; the world stands, but for draws.
-/

namespace Go.Proofs.Ytkjolopdpihigaa.Gf
set_option linter.unusedVariables false
open Go.RowKit

set_option maxRecDepth 100000 in
theorem filled_any (b : Nat) (w : World) (hF : FieldAt w b) :
    Calls Try.prog 75 #[.pointer (some ⟨b, 0, none⟩)] w fun e w' => e = .returned (.pointer (some ⟨b, 0, none⟩)) ∧ w' = w := by
  have h0 : w.cell? ⟨b, 0, none⟩ = some (.int .u8 1) := by rw [hF.powers 0 (by omega), pw_zero]; rfl
  go_enter Try.func75, Try.ntmps75
  go_wp2
  go_ret
  exact ⟨rfl, rfl⟩

set_option maxRecDepth 100000 in
theorem mul_zero_l (b c : Nat) (w : World) :
    Calls Try.prog 70 #[.pointer (some ⟨b, 0, none⟩), .int .u8 0, .int .u8 c] w fun e w' => e = .returned (.int .u8 0) ∧ w' = w := by
  go_enter Try.func70, Try.ntmps70
  go_wp2
  go_ret
  exact ⟨rfl, rfl⟩

set_option maxRecDepth 100000 in
theorem mul_zero_r (b a : Nat) (w : World) (ha : a ≠ 0) :
    Calls Try.prog 70 #[.pointer (some ⟨b, 0, none⟩), .int .u8 a, .int .u8 0] w fun e w' => e = .returned (.int .u8 0) ∧ w' = w := by
  go_enter Try.func70, Try.ntmps70
  go_wp2
  go_ret
  exact ⟨rfl, rfl⟩

set_option maxRecDepth 100000 in
set_option maxHeartbeats 1000000 in
theorem mul_main (b a c : Nat) (w : World) (hF : FieldAt w b) (ha0 : a ≠ 0) (hc0 : c ≠ 0) (ha : a < 256) (hc : c < 256) :
    Calls Try.prog 70 #[.pointer (some ⟨b, 0, none⟩), .int .u8 a, .int .u8 c] w fun e w' => e = .returned (.int .u8 (pw ((lg a + lg c) % 255) : Nat)) ∧ ∃ n, w' = w.drewN n := by
  have ka : ((a : Int) == 0) = false := by simpa using ha0
  have kc : ((c : Int) == 0) = false := by simpa using hc0
  have h1 := hF.places a ha
  have h2 := hF.places c hc
  have l1 := lg_lt ha
  have l2 := lg_lt hc
  have h3 := hF.powers ((lg a + lg c) % 255) (Nat.mod_lt _ (by decide))
  go_enter Try.func70, Try.ntmps70
  go_wp2_with (go_at_call 75; go_must (refine (filled_any b _ hF).mono ?_); rintro e w' ⟨rfl, rfl⟩)
  go_quiet (fail)
  go_wp2
  go_ret
  exact ⟨rfl, _, rfl⟩

theorem mul_any (b a c : Nat) (w : World) (hF : FieldAt w b) (ha : a < 256) (hc : c < 256) :
    Calls Try.prog 70 #[.pointer (some ⟨b, 0, none⟩), .int .u8 a, .int .u8 c] w fun e w' => e = .returned (.int .u8 (mulS a c : Nat)) ∧ ∃ n, w' = w.drewN n := by
  by_cases ha0 : a = 0
  · subst ha0
    exact (mul_zero_l b c w).mono fun e w' ⟨he, hw⟩ => ⟨by rw [he]; simp [mulS], 0, hw⟩
  · by_cases hc0 : c = 0
    · subst hc0
      exact (mul_zero_r b a w ha0).mono fun e w' ⟨he, hw⟩ => ⟨by rw [he]; simp [mulS], 0, hw⟩
    · exact (mul_main b a c w hF ha0 hc0 ha hc).mono fun e w' ⟨he, hw⟩ => ⟨by rw [he]; simp [mulS, ha0, hc0], hw⟩

theorem FieldAt.drewN {w : World} {b : Nat} (h : FieldAt w b) (n : Nat) : FieldAt (w.drewN n) b := h.own ((Own.refl w).drewN n)

/-! The same, at numbers that are written as they stand (the walk then need not see that a number is a cast one). -/
theorem mul_at {b : Nat} {x y : Int} {w : World} (hF : FieldAt w b) (a c : Nat) (hx : x = a) (hy : y = c) (ha : a < 256) (hc : c < 256) :
    Calls Try.prog 70 #[.pointer (some ⟨b, 0, none⟩), .int .u8 x, .int .u8 y] w fun e w' => e = .returned (.int .u8 (mulS a c : Nat)) ∧ ∃ n, w' = w.drewN n := by
  subst hx hy; exact mul_any b a c w hF ha hc

end Go.Proofs.Ytkjolopdpihigaa.Gf

/-
  A PRODUCT OF BYTES BY CONTRACT.
-/

namespace Go.Proofs.Ytkjolopdpihigaa.Gf
set_option linter.unusedVariables false
set_option linter.unusedSimpArgs false
open Go.RowKit

theorem fmu_quiet {b : Nat} {w : World} (hF : FieldAt w b) (a c : UInt8) {x y : Int} (hx : x = ((a.toNat : Nat) : Int)) (hy : y = ((c.toNat : Nat) : Int)) :
    Calls Try.prog 70 #[.pointer (some ⟨b, 0, none⟩), .int .u8 x, .int .u8 y] w fun e w' => e = .returned (.int .u8 ((mu a c).toNat : Nat)) ∧ ∃ n, w' = w.drewN n := by
  rw [mu_toNat]
  exact mul_at hF a.toNat c.toNat hx hy (u8_lt a) (u8_lt c)

end Go.Proofs.Ytkjolopdpihigaa.Gf

/-
  PLAIN MATHEMATICS: powers and inverses by logarithms. No program is named here.
-/

namespace Go.Proofs.Ytkjolopdpihigaa.Gf
set_option linter.unusedVariables false

/-- n, less multiples of 255. -/
def tn (n : Int) : Nat := (n % 255).toNat

theorem tn_lt (n : Int) : tn n < 255 := by unfold tn; omega

theorem tn_cast (n : Int) : ((tn n : Nat) : Int) = n % 255 := by unfold tn; omega

def powV (a : Nat) (n : Int) : Nat := if n = 0 then 1 else if a = 0 then 0 else pw ((lg a * tn n) % 255)

def powE (a : Nat) (n : Int) : Nat := if n < 0 ∧ a = 0 then 10 else 0

theorem tn_neg : tn (-1) = 254 := by kernel_rfl

theorem powV_inv {a : Nat} (h : a ≠ 0) : powV a (-1) = invS a := by
  unfold powV invS; rw [if_neg (by omega), if_neg h, if_neg h, tn_neg]

theorem powE_inv {a : Nat} (h : a ≠ 0) : powE a (-1) = 0 := by simp [powE, h]

theorem powV_lt (a : Nat) (n : Int) : powV a n < 256 := by
  unfold powV; split
  · omega
  · split
    · omega
    · exact pw_lt _

theorem powV_pos {a : Nat} (h : a ≠ 0) (n : Int) : powV a n = pw (lg a * tn n % 255) := by
  unfold powV
  by_cases e : n = 0
  · subst e
    rw [if_pos rfl, show tn 0 = 0 from rfl, Nat.mul_zero, Nat.zero_mod, pw_zero]
  · rw [if_neg e, if_neg h]

theorem powE_pos {a : Nat} (h : a ≠ 0) (n : Int) : powE a n = 0 := by simp [powE, h]

theorem powV_ne {a : Nat} (h : a ≠ 0) (n : Int) : powV a n ≠ 0 := by
  rw [powV_pos h]
  have := pw_pos (Nat.mod_lt (lg a * tn n) (by decide : 0 < 255))
  omega

theorem lg_powV {a : Nat} (h : a ≠ 0) (n : Int) : lg (powV a n) = lg a * tn n % 255 := by
  rw [powV_pos h, lg_pw (Nat.mod_lt _ (by decide))]

theorem tn_add (m n : Int) : tn (m + n) = (tn m + tn n) % 255 := by unfold tn; omega

theorem powV_add {a : Nat} (h : a ≠ 0) (m n : Int) : mulS (powV a m) (powV a n) = powV a (m + n) := by
  rw [mulS_pos (powV_ne h m) (powV_ne h n), lg_powV h, lg_powV h, powV_pos h, tn_add]
  congr 1
  rw [← Nat.add_mod, ← Nat.mul_add, Nat.mul_mod, Nat.mul_mod (lg a) ((tn m + tn n) % 255), Nat.mod_mod]

theorem powV_turn {a : Nat} (h : a ≠ 0) (m : Int) : powV a (m + 255) = powV a m := by
  rw [powV_pos h, powV_pos h]
  have : tn (m + 255) = tn m := by unfold tn; omega
  rw [this]

theorem lg_two : lg 2 = 1 := by kernel_rfl

theorem powV_lg {a : Nat} (h : a < 256) (h0 : a ≠ 0) : powV 2 (lg a : Nat) = a := by
  have l := lg_lt h
  have : tn (lg a : Nat) = lg a := by unfold tn; omega
  rw [powV_pos (by decide), lg_two, this, Nat.one_mul, Nat.mod_eq_of_lt l, pw_lg h h0]

theorem powV_m1 (a : Nat) : powV a (-1) = invS a := by
  by_cases h : a = 0
  · subst h; rfl
  · exact powV_inv h

theorem powE_m1 (a : Nat) : powE a (-1) = zE a := by
  by_cases h : a = 0
  · subst h; rfl
  · rw [powE_inv h, zE_pos h]

end Go.Proofs.Ytkjolopdpihigaa.Gf

/-
  THE FIELD's POWERS AND INVERSES BY CONTRACT, on a field that stands in memory; the world stands, but for draws.
-/

namespace Go.Proofs.Ytkjolopdpihigaa.Gf
set_option linter.unusedVariables false
open Go.RowKit

set_option maxRecDepth 100000 in
theorem turns_any (n : Int) (w : World) (h1 : -9223372036854775808 ≤ n) (h2 : n ≤ 9223372036854775807) :
    Calls Try.prog 76 #[.int .i64 n] w fun e w' => e = .returned (.int .i64 (tn n : Nat)) ∧ w' = w := by
  have hb : -255 < n.tmod 255 ∧ n.tmod 255 < 255 := ⟨Int.lt_tmod_of_pos n (by omega), Int.tmod_lt_of_pos n (by omega)⟩
  have hq := Int.mul_tdiv_add_tmod n 255
  have E : Hid ((n.tmod 255 + 255) % 255 = (tn n : Nat)) := by rw [tn_cast]; show _ = _; omega
  clear hq
  obtain ⟨b1, b2⟩ := hb
  go_enter Try.func76, Try.ntmps76
  go_wp2
  go_ret
  exact ⟨ret_int E.out, rfl⟩

set_option maxRecDepth 100000 in
set_option maxHeartbeats 1000000 in
theorem pow_main (b a : Nat) (n : Int) (w : World) (hF : FieldAt w b) (ha0 : a ≠ 0) (hn0 : n ≠ 0) (ha : a < 256) (h1 : -9223372036854775808 ≤ n) (h2 : n ≤ 9223372036854775807) :
    Calls Try.prog 73 #[.pointer (some ⟨b, 0, none⟩), .int .u8 a, .int .i64 n] w fun e w' => e = .returned (.tuple #[.int .u8 (pw ((lg a * tn n) % 255) : Nat), .int .i64 0]) ∧ ∃ n, w' = w.drewN n := by
  have ka : ((a : Int) == 0) = false := by simpa using ha0
  have kn : (n == 0) = false := by simpa using hn0
  have p1 := hF.places a ha
  have l1 := lg_lt ha
  have l2 := tn_lt n
  have l3 : (lg a : Int) * (tn n : Int) ≤ 64516 := by
    have : lg a * tn n ≤ 254 * 254 := Nat.mul_le_mul (by omega) (by omega)
    have e : ((lg a * tn n : Nat) : Int) = (lg a : Int) * (tn n : Int) := by simp
    omega
  have l4 : 0 ≤ (lg a : Int) * (tn n : Int) := Int.mul_nonneg (by omega) (by omega)
  have p3 := hF.powers ((lg a * tn n) % 255) (Nat.mod_lt _ (by decide))
  go_enter Try.func73, Try.ntmps73
  go_wp2_with (go_at_call 75; go_must (refine (filled_any b _ hF).mono ?_); rintro e w' ⟨rfl, rfl⟩)
  go_quiet ((go_at_call 76; exact Calls.quiet_of_same (turns_any n _ h1 h2)))
  go_wp2
  go_ret2
  exact ⟨rfl, _, rfl⟩

set_option maxRecDepth 100000 in
theorem pow_nought (b a : Nat) (w : World) :
    Calls Try.prog 73 #[.pointer (some ⟨b, 0, none⟩), .int .u8 a, .int .i64 0] w fun e w' => e = .returned (.tuple #[.int .u8 1, .int .i64 0]) ∧ w' = w := by
  go_enter Try.func73, Try.ntmps73
  go_wp2
  go_ret2
  exact ⟨rfl, rfl⟩

set_option maxRecDepth 100000 in
theorem pow_zero_neg (b : Nat) (n : Int) (w : World) (hn : n < 0) :
    Calls Try.prog 73 #[.pointer (some ⟨b, 0, none⟩), .int .u8 0, .int .i64 n] w fun e w' => e = .returned (.tuple #[.int .u8 0, .int .i64 10]) ∧ w' = w := by
  have kn : (n == 0) = false := by simp; omega
  go_enter Try.func73, Try.ntmps73
  go_wp2
  go_ret2
  exact ⟨rfl, rfl⟩

set_option maxRecDepth 100000 in
theorem pow_zero_pos (b : Nat) (n : Int) (w : World) (hn : 0 < n) :
    Calls Try.prog 73 #[.pointer (some ⟨b, 0, none⟩), .int .u8 0, .int .i64 n] w fun e w' => e = .returned (.tuple #[.int .u8 0, .int .i64 0]) ∧ w' = w := by
  have kn : (n == 0) = false := by simp; omega
  go_enter Try.func73, Try.ntmps73
  go_wp2
  go_ret2
  exact ⟨rfl, rfl⟩

theorem pow_any (b a : Nat) (n : Int) (w : World) (hF : FieldAt w b) (ha : a < 256) (h1 : -9223372036854775808 ≤ n) (h2 : n ≤ 9223372036854775807) :
    Calls Try.prog 73 #[.pointer (some ⟨b, 0, none⟩), .int .u8 a, .int .i64 n] w fun e w' => e = .returned (.tuple #[.int .u8 (powV a n : Nat), .int .i64 (powE a n : Nat)]) ∧ ∃ n, w' = w.drewN n := by
  by_cases hn0 : n = 0
  · subst hn0
    exact (pow_nought b a w).mono fun e w' ⟨he, hw⟩ => ⟨by rw [he]; simp [powV, powE], 0, hw⟩
  · by_cases ha0 : a = 0
    · subst ha0
      by_cases hneg : n < 0
      · exact (pow_zero_neg b n w hneg).mono fun e w' ⟨he, hw⟩ => ⟨by rw [he]; simp [powV, powE, hn0, hneg], 0, hw⟩
      · exact (pow_zero_pos b n w (by omega)).mono fun e w' ⟨he, hw⟩ => ⟨by rw [he]; simp [powV, powE, hn0, hneg], 0, hw⟩
    · exact (pow_main b a n w hF ha0 hn0 ha h1 h2).mono fun e w' ⟨he, hw⟩ => ⟨by rw [he]; simp [powV, powE, hn0, ha0], hw⟩

set_option maxRecDepth 100000 in
theorem inv_any (b a : Nat) (w : World) (hF : FieldAt w b) (ha : a < 256) :
    Calls Try.prog 61 #[.pointer (some ⟨b, 0, none⟩), .int .u8 a] w fun e w' => e = .returned (.tuple #[.int .u8 (powV a (-1) : Nat), .int .i64 (powE a (-1) : Nat)]) ∧ ∃ n, w' = w.drewN n := by
  go_enter Try.func61, Try.ntmps61
  go_wp2_with (go_at_call 73; go_must (refine (pow_any b a (-1) _ hF ha (by omega) (by omega)).mono ?_); rintro e w' ⟨rfl, nd, rfl⟩)
  go_ret2
  exact ⟨rfl, _, rfl⟩

theorem pow_at {b : Nat} {x : Int} {w : World} (hF : FieldAt w b) (a : Nat) (n : Int) (hx : x = a) (ha : a < 256) (h1 : -9223372036854775808 ≤ n) (h2 : n ≤ 9223372036854775807) :
    Calls Try.prog 73 #[.pointer (some ⟨b, 0, none⟩), .int .u8 x, .int .i64 n] w fun e w' => e = .returned (.tuple #[.int .u8 (powV a n : Nat), .int .i64 (powE a n : Nat)]) ∧ ∃ n, w' = w.drewN n := by
  subst hx; exact pow_any b a n w hF ha h1 h2

theorem inv_at {b : Nat} {x : Int} {w : World} (hF : FieldAt w b) (a : Nat) (hx : x = a) (ha : a < 256) :
    Calls Try.prog 61 #[.pointer (some ⟨b, 0, none⟩), .int .u8 x] w fun e w' => e = .returned (.tuple #[.int .u8 (powV a (-1) : Nat), .int .i64 (powE a (-1) : Nat)]) ∧ ∃ n, w' = w.drewN n := by
  subst hx; exact inv_any b a w hF ha

theorem inv_all {b : Nat} {x : Int} {w : World} (hF : FieldAt w b) (a : Nat) (hx : x = a) (ha : a < 256) :
    Calls Try.prog 61 #[.pointer (some ⟨b, 0, none⟩), .int .u8 x] w fun e w' => e = .returned (.tuple #[.int .u8 (invS a : Nat), .int .i64 (zE a : Nat)]) ∧ ∃ n, w' = w.drewN n := by
  rw [← powV_m1, ← powE_m1]
  exact inv_at hF a hx ha

end Go.Proofs.Ytkjolopdpihigaa.Gf

/-
  THE PROGRAM's 'Check', 'checkField' AND WHAT FILLS A PARITY SHARD's ROW (the closure of 'parityRow') BY CONTRACT.
-/


namespace Go.Proofs.Ytkjolopdpihigaa.Gf
set_option linter.unusedVariables false
set_option linter.unusedSimpArgs false
open Go.RowKit

set_option maxRecDepth 100000 in
set_option maxHeartbeats 1000000 in
theorem ccheck_same_ok {k m : Int} (w : World) (h : OkC k m) : Calls Try.prog 21 #[.int .i64 k, .int .i64 m] w fun e w' => e = .returned (.int .i64 0) ∧ w' = w := by
  obtain ⟨h1, h2, h3⟩ := h
  have k1 : decide (k < 1) = false := decide_eq_false (by omega)
  have k2 : decide (k > 256) = false := decide_eq_false (by omega)
  have k3 : decide (m < 0) = false := decide_eq_false (by omega)
  have k4 : decide (m > 256) = false := decide_eq_false (by omega)
  have k5 : decide (k + m > 256) = false := decide_eq_false (by omega)
  have gw : IntKind.i64.wrap (k + m) = k + m := by rw [IntKind.wrap_i64]; omega
  go_enter Try.func21, Try.ntmps21
  go_wp2
  go_ret
  exact ⟨rfl, rfl⟩
set_option maxRecDepth 100000 in
set_option maxHeartbeats 1000000 in
theorem ccheck_same_bad {k m : Int} (w : World) (h : ¬ OkC k m) : Calls Try.prog 21 #[.int .i64 k, .int .i64 m] w fun e w' => e = .returned (.int .i64 50) ∧ w' = w := by
  by_cases h1 : k < 1
  · have k1 : decide (k < 1) = true := decide_eq_true h1
    clear h h1
    go_enter Try.func21, Try.ntmps21
    go_wp2
    go_ret
    exact ⟨rfl, rfl⟩
  have k1 : decide (k < 1) = false := decide_eq_false h1
  by_cases h2 : k > 256
  · have k2 : decide (k > 256) = true := decide_eq_true h2
    clear h h1 h2
    go_enter Try.func21, Try.ntmps21
    go_wp2
    go_ret
    exact ⟨rfl, rfl⟩
  have k2 : decide (k > 256) = false := decide_eq_false h2
  by_cases h3 : m < 0
  · have k3 : decide (m < 0) = true := decide_eq_true h3
    clear h h1 h2 h3
    go_enter Try.func21, Try.ntmps21
    go_wp2
    go_ret
    exact ⟨rfl, rfl⟩
  have k3 : decide (m < 0) = false := decide_eq_false h3
  by_cases h4 : m > 256
  · have k4 : decide (m > 256) = true := decide_eq_true h4
    clear h h1 h2 h3 h4
    go_enter Try.func21, Try.ntmps21
    go_wp2
    go_ret
    exact ⟨rfl, rfl⟩
  have k4 : decide (m > 256) = false := decide_eq_false h4
  have k5 : decide (k + m > 256) = true := decide_eq_true (by
    by_cases h5 : k + m ≤ 256
    · exact absurd ⟨by omega, by omega, h5⟩ h
    · omega)
  have gw : IntKind.i64.wrap (k + m) = k + m := by rw [IntKind.wrap_i64]; omega
  clear h h1 h2 h3 h4
  go_enter Try.func21, Try.ntmps21
  go_wp2
  go_ret
  exact ⟨rfl, rfl⟩

theorem ccheck_ok {k m : Int} (w : World) (h : OkC k m) : Calls Try.prog 21 #[.int .i64 k, .int .i64 m] w fun e w' => e = .returned (.int .i64 0) ∧ Below w.heap.size w w' :=
  (ccheck_same_ok w h).mono fun e w' ⟨h1, h2⟩ => ⟨h1, h2 ▸ Below.refl _ _⟩
theorem ccheck_bad {k m : Int} (w : World) (h : ¬ OkC k m) : Calls Try.prog 21 #[.int .i64 k, .int .i64 m] w fun e w' => e = .returned (.int .i64 50) ∧ Below w.heap.size w w' :=
  (ccheck_same_bad w h).mono fun e w' ⟨h1, h2⟩ => ⟨h1, h2 ▸ Below.refl _ _⟩

set_option maxRecDepth 100000 in
set_option maxHeartbeats 1000000 in
theorem ccf_ok {k m : Int} {b : Nat} (w : World) (h : OkC k m) : Calls Try.prog 38 #[.pointer (some ⟨b, 0, none⟩), .int .i64 k, .int .i64 m] w fun e w' => e = .returned (.int .i64 0) ∧ w' = w := by
  go_enter Try.func38, Try.ntmps38
  go_wp2_with fail
  refine (ccheck_same_ok _ h).mono ?_
  rintro e w2 ⟨rfl, rfl⟩
  clear h
  go_wp2
  go_ret
  exact ⟨rfl, rfl⟩
set_option maxRecDepth 100000 in
set_option maxHeartbeats 1000000 in
theorem ccf_bad {k m : Int} {b : Nat} (w : World) (h : ¬ OkC k m) : Calls Try.prog 38 #[.pointer (some ⟨b, 0, none⟩), .int .i64 k, .int .i64 m] w fun e w' => e = .returned (.int .i64 50) ∧ w' = w := by
  go_enter Try.func38, Try.ntmps38
  go_wp2_with fail
  refine (ccheck_same_bad _ h).mono ?_
  rintro e w2 ⟨rfl, rfl⟩
  clear h
  go_wp2
  go_ret
  exact ⟨rfl, rfl⟩

set_option maxRecDepth 100000 in
set_option maxHeartbeats 2000000 in
/-- The closure fills the first k numbers of the row of the parity shard i. -/
theorem prow_fill {w : World} {b kb fb k i o n cap g m base : Nat} {f : Nat → UInt8} (hF : FieldAt w b) (hb : b ≠ g) (ck : w.cell? ⟨kb, 0, none⟩ = some (.int .i64 (k : Int))) (hk : kb ≠ g) (cf : w.cell? ⟨fb, 0, none⟩ = some (.pointer (some ⟨b, 0, none⟩))) (hf : fb ≠ g)
    (hki : k + i < 256) (hkn : k ≤ n) (hn : n ≤ 256) (hom : o + n ≤ m) (R : RowF w base 5 g m m f) {x : Int} (hx : x = (i : Int)) :
    Calls Try.prog 60 #[.int .i64 x, .slice (some ⟨g, o, none⟩) n cap, .pointer (some ⟨kb, 0, none⟩), .pointer (some ⟨fb, 0, none⟩)] w fun e w' => e = .returned (.tuple #[]) ∧ Only g w w' ∧ RowF w' base 5 g m m (putAt f o k (fun j => parF k i j)) := by
  subst hx
  obtain ⟨t, ht⟩ : ∃ t, Hid (t = k + i) := ⟨_, rfl⟩
  have g0 : (k : Int) + (i : Int) = (t : Int) := by have := ht.out; omega
  have ht2 : t < 256 := by have := ht.out; omega
  have m1 : (t : Int) % 256 = (t : Int) := by omega
  have w1 : IntKind.i64.wrap (t : Int) = (t : Int) := by rw [IntKind.wrap_i64]; omega
  go_enter Try.func60, Try.ntmps60
  go_wp2
  go_loopw [8] (fun v wr => ∃ j : Nat, j ≤ k ∧ v = .int .i64 j ∧ Only g w wr ∧ RowF wr base 5 g m m (putAt f o j (fun j => parF k i j))) (fun v _ => k - (intOf v).toNat)
  case atStart => exact ⟨0, by omega, rfl, by first | exact Only.refl _ _ | exact (Only.refl _ _).drew, by rw [putAt_zero]; first | exact R | exact R.drew⟩
  case round =>
    obtain ⟨j, hj, rfl, hO, hR⟩ := hrel
    have ck2 := (hO.cell (p := ⟨kb, 0, none⟩) hk).trans ck
    have cf2 := (hO.cell (p := ⟨fb, 0, none⟩) hf).trans cf
    have hF2 := hF.only hb hO
    clear hF ck cf R
    by_cases hlt : j < k
    · have hlt' : (j : Int) < (k : Int) := by omega
      have hj2 : (j : Int) % 256 = (j : Int) := by omega
      have X := pt_xor ht2 (show j < 256 by omega)
      have HP : Hid (parF k i j = iv (pt t ^^^ pt j)) := by show _ = _; rw [ht.out]; rfl
      obtain ⟨u, hu⟩ : ∃ u, Hid (u = pt t ^^^ pt j) := ⟨_, rfl⟩
      rw [← hu.out] at X HP
      have c4 : ∀ nd : Nat, (wr.drewN nd).cell? ⟨g, o + j, none⟩ = some (.int .u8 ((putAt f o j (fun j => parF k i j) (o + j)).toNat : Nat)) := fun nd => hR.cell (show o + j < m by omega)
      have f4 : ∀ nd : Nat, (wr.drewN nd).frozen? ⟨g, o + j, none⟩ = false := fun nd => hR.unfrozen (o + j)
      have HN : ∀ nd : Nat, Hid (RowF ((wr.drewN nd).setCell ⟨g, o + j, none⟩ (.int .u8 (invS u.toNat : Nat))) base 5 g m m (putAt f o (j + 1) (fun j => parF k i j))) := by
        intro nd
        have h := (hR.drewN nd).store (f' := putAt f o (j + 1) (fun j => parF k i j)) (show o + j < m by omega) (iv u) (fun s => by rw [putAt_step, HP.out])
        rw [iv_toNat] at h
        exact h
      have HT : ∀ nd : Nat, Hid (Only g w ((wr.drewN nd).setCell ⟨g, o + j, none⟩ (.int .u8 (invS u.toNat : Nat)))) := fun nd => (hO.drewN nd).setCell _ _
      clear hO hR
      go_wp2_with fail
      refine (inv_all hF2 u.toNat rfl (u8_lt u)).mono ?_
      rintro e w' ⟨rfl, nd, rfl⟩
      replace c4 := c4 nd
      replace f4 := f4 nd
      replace HN := HN nd
      replace HT := HT nd
      go_wp2
      go_roundw
      case rel => exact ⟨j + 1, by omega, by go_num, by first | exact HT.out | exact HT.out.drew, by first | exact HN.out | exact HN.out.drew⟩
      case measure => simp [intOf]; omega
    · have e : j = k := by omega
      subst e
      go_wp2
      go_end0
      exact ⟨rfl, hO, hR⟩

end Go.Proofs.Ytkjolopdpihigaa.Gf

/-
  What a new row of noughts and a matrix variable ahead of it are, behind 'make'. No program's function is named here.
-/

namespace Go.Proofs.Ytkjolopdpihigaa.Gf
set_option linter.unusedVariables false
set_option linter.unusedSimpArgs false
open Go.RowKit

theorem nought_facts {w w1 : World} {m u t : Nat} (hown : w1.ownsRow w.heap.size u 1 (.slice (some ⟨(w.alloc (Obj.cells #[.int .i64 0, .int .i64 0, .slice none 0 0] t)).heap.size, 0, none⟩) m m) m (madeCells (Value.cells (.int .u8 0)) (m * 1)).toList)
    (hgrow : (w.alloc (Obj.cells #[.int .i64 0, .int .i64 0, .slice none 0 0] t)).grownBy w1 none) :
    RowF w1 w.heap.size u (w.heap.size + 1) m m (fun _ => 0) ∧ Below w.heap.size w w1 ∧ w1.cell? ⟨w.heap.size, 0, none⟩ = some (.int .i64 0) ∧ w1.cell? ⟨w.heap.size, 1, none⟩ = some (.int .i64 0) ∧ w1.cell? ⟨w.heap.size, 2, none⟩ = some (.slice none 0 0) ∧
    w1.frozen? ⟨w.heap.size, 0, none⟩ = false ∧ w1.frozen? ⟨w.heap.size, 1, none⟩ = false ∧ w1.frozen? ⟨w.heap.size, 2, none⟩ = false := by
  simp only [World.size_alloc] at hown
  have R1 := RowF.made hown
  have B1 : Below (w.heap.size + 1) (w.alloc (Obj.cells #[.int .i64 0, .int .i64 0, .slice none 0 0] t)) w1 := (Below.refl _ _).grown hgrow (by simp) (fun k h => by cases h)
  have B0 : Below w.heap.size w w1 := (below_lit (Below.refl _ _) _).trans (B1.mono (by omega))
  have X0 : Box w1 w.heap.size 0 0 (.slice none 0 0) := Box.below (B := w.heap.size + 1) ⟨by simp, by simp, by simp⟩ (by omega) B1
  have F0 : Free w1 w.heap.size := Free.below (B := w.heap.size + 1) ⟨by simp, by simp, by simp⟩ (by omega) B1
  exact ⟨R1, B0, X0.c0, X0.c1, X0.c2, F0.f0, F0.f1, F0.f2⟩

end Go.Proofs.Ytkjolopdpihigaa.Gf

/-
  THE PROGRAM's 'made' BY CONTRACT: a matrix whose rows are filled by a function value, whichever it is.
-/

namespace Go.Proofs.Ytkjolopdpihigaa.Gf
set_option linter.unusedVariables false
set_option linter.unusedSimpArgs false
open Go.RowKit

/-- the first r rows of a matrix, noughts behind them -/
def upR (G : Mx) (r : Nat) : Mx := fun i j => if i < r then G i j else 0
theorem upR_zero (G : Mx) (c t : Nat) : pl c (upR G 0) t = 0 := by
  show upR G 0 (t / c) (t % c) = 0
  unfold upR
  rw [if_neg (Nat.not_lt_zero _)]
theorem upR_all (G : Mx) {r c : Nat} : ∀ t, t < r * c → pl c (upR G r) t = pl c G t := pl_congr fun i j hi _ => if_pos hi

set_option maxRecDepth 100000 in
set_option maxHeartbeats 2000000 in
theorem made_any {F : Nat} {p q : Value} (r c : Nat) (w : World) (hr : r ≤ 256) (hc : c ≤ 256) (hc0 : 0 < c) (G : Mx) (eg : Hid (∀ (args : Array Value) (w : World), Sem.run Try.prog (callFunc F args) w = .ok (.enter F args) w))
    (hfill : Hid (∀ (g m i o : Nat) (W : World), i < r → Hid (m = r * c) → Hid (o = i * c) → w.heap.size ≤ g → Below w.heap.size w W → RowF W w.heap.size 5 g m m (pl c (upR G i)) →
      Calls Try.prog F #[.int .i64 (i : Int), .slice (some ⟨g, o, none⟩) c (m - o), p, q] W fun e w' => e = .returned (.tuple #[]) ∧ Turn g W w' ∧ RowF w' w.heap.size 5 g m m (pl c (upR G (i + 1)))))
    {x y : Int} (hx : x = (r : Int)) (hy : y = (c : Int)) :
    Calls Try.prog 40 #[.int .i64 x, .int .i64 y, .func (.func F) #[] #[p, q]] w fun e w' => ∃ g m, e = .returned (.agg #[.int .i64 (r : Int), .int .i64 (c : Int), .slice (some ⟨g, 0, none⟩) m m]) ∧ w.heap.size ≤ g ∧ Rd w' (.slice (some ⟨g, 0, none⟩) m m) (flat r c G) ∧ Below w.heap.size w w' := by
  subst hx hy
  obtain ⟨i0, hi, hz0, hz1, hz2⟩ := info_parts info_u8
  have hmm : r * c ≤ 256 * 256 := Nat.mul_le_mul hr hc
  obtain ⟨m, hm⟩ : ∃ m, Hid (m = r * c) := ⟨_, rfl⟩
  rw [← hm.out] at hmm
  have g0 : (r : Int) * (c : Int) = (m : Int) := by rw [hm.out]; exact_mod_cast rfl
  go_enter Try.func40, Try.ntmps40
  go_wp2_with (at_make; go_loud (refine wpList_make_full _ rfl (.tmp 13) (.tmp 13) 34 rfl w.heap.size 5 i0 (.int .u8 0) 1 Try.underlying34 hi hz0 hz1 _ _ _ _ m rfl rfl (by omega) (by omega) (by rw [hz2]; omega) (by unfold maxLen; omega) (by simp) ?_); intro w1 hown1 hgrow1; obtain ⟨R1, B0, x0, x1, x2, z0, z1, z2⟩ := nought_facts hown1 hgrow1; clear hown1 hgrow1)
  have hg0 : w.heap.size < w.heap.size + 1 := by omega
  generalize hgg : w.heap.size + 1 = g at *
  have X3 : Box w1 w.heap.size 0 0 (.slice none 0 0) := ⟨x0, x1, x2⟩
  have F3 : Free w1 w.heap.size := ⟨z0, z1, z2⟩
  have hA : Below w1.heap.size w1 (w1.alloc (.cells #[.int .i64 (r : Int), .int .i64 (c : Int), .slice (some ⟨g, 0, none⟩) m m] 52)) := (Below.refl _ _).alloc (Nat.le_refl _) _
  have P1 := Box.new w1 (r : Int) (c : Int) (.slice (some ⟨g, 0, none⟩) m m) 52
  have hlt := R1.lt
  replace R1 := R1.later hA
  replace X3 := X3.below (by omega) hA
  replace F3 := F3.below (by omega) hA
  replace B0 := Below.next B0 hA
  have hms : w1.heap.size < (w1.alloc (.cells #[.int .i64 (r : Int), .int .i64 (c : Int), .slice (some ⟨g, 0, none⟩) m m] 52)).heap.size := by simp
  have hmg : w1.heap.size ≠ g := by omega
  clear hA x0 x1 x2 z0 z1 z2
  generalize w1.alloc (.cells #[.int .i64 (r : Int), .int .i64 (c : Int), .slice (some ⟨g, 0, none⟩) m m] 52) = w2 at *
  go_loopw [17] (fun i wr => ∃ k : Nat, k ≤ r ∧ i = .int .i64 k ∧ Turn g w2 wr ∧ RowF wr w.heap.size 5 g m m (pl c (upR G k))) (fun i _ => r - (intOf i).toNat)
  case atStart => exact ⟨0, by omega, rfl, Turn.refl _ _, R1.congr (fun t _ => (upR_zero _ _ t).symm)⟩
  case round =>
    obtain ⟨k, hk, rfl, hT, hRk⟩ := hrel
    clear R1
    replace P1 := P1.turn hms hmg hT
    have hs2 := hT.size
    by_cases hlt2 : k < r
    · have hlt2' : (k : Int) < (r : Int) := by omega
      obtain ⟨o, ho⟩ : ∃ o, Hid (o = k * c) := ⟨_, rfl⟩
      have hom : o + c ≤ m := by rw [ho.out, hm.out, ← Nat.succ_mul]; exact Nat.mul_le_mul_right c hlt2
      have g1 : (k : Int) * (c : Int) = (o : Int) := by rw [ho.out]; exact_mod_cast rfl
      have g2 : ((k : Int) + 1) * (c : Int) = (o : Int) + (c : Int) := by rw [Int.add_mul, Int.one_mul, g1]
      have v1 : IntKind.i64.wrap (o : Int) = (o : Int) := by rw [IntKind.wrap_i64]; omega
      have v2 : IntKind.i64.wrap ((o : Int) + (c : Int)) = (o : Int) + (c : Int) := by rw [IntKind.wrap_i64]; omega
      have v3 : IntKind.i64.wrap ((k : Int) + 1) = (k : Int) + 1 := by rw [IntKind.wrap_i64]; omega
      have hlt3 : o < m := by omega
      have hne : ¬ m = o := by omega
      have hsub : o + c - o = c := by omega
      have y2 := P1.c2
      have HB : Hid (Below w.heap.size w wr) := B0.trans (hT.below (by omega) (by omega))
      have HC := hfill.out g m k o wr hlt2 hm ho (by omega) HB.out hRk
      clear hfill hRk
      go_wp2_with fail
      rw [eg.out, Oper.upon_enter]
      refine HC.mono ?_
      rintro e v4 ⟨rfl, hT4, hR4⟩
      have HT : Hid (Turn g w2 v4) := hT.trans hT4
      have HN : Hid (RowF v4 w.heap.size 5 g m m (pl c (upR G (k + 1)))) := hR4
      clear hT hT4 hR4 y2 P1 HC HB
      go_wp2
      go_roundw
      case rel => exact ⟨k + 1, by omega, by go_num, HT.out, HN.out⟩
      case measure => simp [intOf]; omega
    · have e : k = r := by omega
      subst e
      have R4 : Rd wr (.slice (some ⟨g, 0, none⟩) m m) (flat k c G) := by
        have := (hRk.congr (f' := pl c G) (by rw [hm.out]; exact upR_all G)).rd
        rw [← pl_flat, ← hm.out]
        exact this
      have X4 := X3.turn (by omega) (by omega) hT
      have F4 := F3.turn (by omega) (by omega) hT
      have x30 := X4.c0
      have x31 := X4.c1
      have x32 := X4.c2
      have f30 := F4.f0
      have f31 := F4.f1
      have f32 := F4.f2
      have y0 := P1.c0
      have y1 := P1.c1
      have y2 := P1.c2
      clear hRk hfill
      go_wp2
      have O1 : Only w.heap.size wr (((wr.setCell ⟨w.heap.size, 0, none⟩ (.int .i64 (k : Int))).setCell ⟨w.heap.size, 1, none⟩ (.int .i64 (c : Int))).setCell ⟨w.heap.size, 2, none⟩ (.slice (some ⟨g, 0, none⟩) m m)) :=
        (((Only.refl _ _).setCell 0 _).setCell 1 _).setCell 2 _
      refine bodyPost_ret (v := .agg #[.int .i64 (k : Int), .int .i64 (c : Int), .slice (some ⟨g, 0, none⟩) m m]) (by simp [results, Try.results40, go_sem, x30, x31, x32, f30, f31, f32]) rfl ⟨g, m, rfl, by omega, R4.only (apart_block (by omega)) O1, (B0.trans (hT.below (by omega) (by omega))).trans (O1.below (by omega))⟩

end Go.Proofs.Ytkjolopdpihigaa.Gf

/-
  THE PROGRAM's 'Parity' BY CONTRACT.
-/


namespace Go.Proofs.Ytkjolopdpihigaa.Gf
set_option linter.unusedVariables false
set_option linter.unusedSimpArgs false
open Go.RowKit

/-- one row more -/
theorem upR_row {G : Mx} {r c i : Nat} {f : Nat → UInt8} (h1 : ∀ t, t < r * c → t / c ≠ i → f t = pl c (upR G i) t) (h2 : ∀ j, j < c → f (i * c + j) = G i j) : ∀ t, t < r * c → f t = pl c (upR G (i + 1)) t := by
  intro t ht
  have hc : 0 < c := by
    rcases Nat.eq_zero_or_pos c with e | e
    · rw [e, Nat.mul_zero] at ht; omega
    · exact e
  by_cases e : t / c = i
  · have h3 := Nat.div_add_mod t c
    rw [e, Nat.mul_comm] at h3
    show f t = upR G (i + 1) (t / c) (t % c)
    unfold upR
    rw [if_pos (by omega), e, ← h2 _ (Nat.mod_lt _ hc), h3]
  · rw [h1 t ht e]
    show upR G i (t / c) (t % c) = upR G (i + 1) (t / c) (t % c)
    unfold upR
    by_cases h : t / c < i
    · rw [if_pos h, if_pos (by omega)]
    · rw [if_neg h, if_neg (by omega)]
theorem in_row {c i j : Nat} (hj : j < c) : (i * c + j) / c = i := place_div hj
theorem not_in_row {c i t o : Nat} (ho : o = i * c) (hc : 0 < c) (h : t / c ≠ i) {n : Nat} (hn : n ≤ c) : t < o ∨ o + n ≤ t := by
  by_cases h1 : i * c ≤ t ∧ t < i * c + c
  · exact absurd ((row_iff hc).1 h1) h
  · omega
theorem upR_at {G : Mx} {c i j : Nat} (hj : j < c) : pl c (upR G i) (i * c + j) = 0 := by
  rw [pl_at _ hj]; exact if_neg (by omega)

/-- What fills a parity shard's row: its captured variables. -/
structure Fills (w : World) (b k kb fb : Nat) : Prop where
  ck : w.cell? ⟨kb, 0, none⟩ = some (.int .i64 (k : Int))
  cf : w.cell? ⟨fb, 0, none⟩ = some (.pointer (some ⟨b, 0, none⟩))
  lk : kb < w.heap.size
  lf : fb < w.heap.size
theorem Fills.below {w w' : World} {b k kb fb : Nat} (h : Fills w b k kb fb) (o : Below w.heap.size w w') : Fills w' b k kb fb :=
  ⟨(o.cell (p := ⟨kb, 0, none⟩) h.lk).trans h.ck, (o.cell (p := ⟨fb, 0, none⟩) h.lf).trans h.cf, Nat.lt_of_lt_of_le h.lk o.size, Nat.lt_of_lt_of_le h.lf o.size⟩

theorem enters_prow1 : Hid (∀ (args : Array Value) (w : World), Sem.run Try.prog (callFunc 60 args) w = .ok (.enter 60 args) w) := enters_of Try.func60 (by kernel_rfl) rfl

set_option maxRecDepth 100000 in
set_option maxHeartbeats 1000000 in
theorem prow_make {b : Nat} (k : Nat) (w : World) {x : Int} (hx : x = (k : Int)) : Calls Try.prog 39 #[.pointer (some ⟨b, 0, none⟩), .int .i64 x] w fun e w' => ∃ kb fb, e = .returned (.func (.func 60) #[] #[.pointer (some ⟨kb, 0, none⟩), .pointer (some ⟨fb, 0, none⟩)]) ∧ Fills w' b k kb fb ∧ Below w.heap.size w w' := by
  subst hx
  go_enter Try.func39, Try.ntmps39
  go_wp2
  go_ret
  refine ⟨_, _, rfl, ⟨by simp, by simp, by simp <;> omega, by simp <;> omega⟩, by repeat (first | exact Below.refl _ _ | apply below_lit)⟩

set_option maxRecDepth 100000 in
set_option maxHeartbeats 1000000 in
theorem cpar_bad {b : Nat} {k m : Int} {w : World} (hF : FieldAt w b) (h : ¬ OkC k m) : Calls Try.prog 56 #[.pointer (some ⟨b, 0, none⟩), .int .i64 k, .int .i64 m] w (MakesErr w 50) := by
  go_enter Try.func56, Try.ntmps56
  go_wp2_with fail
  refine (ccf_bad _ h).mono ?_
  rintro e w2 ⟨rfl, rfl⟩
  clear h
  go_wp2
  refine bodyPost_ret (v := .tuple #[.agg #[.int .i64 0, .int .i64 0, .slice none 0 0], .int .i64 50]) (by simp [results, Try.results56, go_sem]) rfl ⟨_, rfl, rd_none, by repeat (first | exact Below.refl _ _ | apply below_lit | refine Below.setCell ?_ (Nat.le_refl _) _)⟩

set_option maxRecDepth 100000 in
set_option maxHeartbeats 2000000 in
theorem cpar_at {b : Nat} {w : World} (k m : Nat) (hF : FieldAt w b) (h1 : 1 ≤ k) (h2 : k + m ≤ 256) {x y : Int} (hx : x = (k : Int)) (hy : y = (m : Int)) :
    Calls Try.prog 56 #[.pointer (some ⟨b, 0, none⟩), .int .i64 x, .int .i64 y] w (fun e w' => ∃ g M, e = .returned (.tuple #[.agg #[.int .i64 (m : Int), .int .i64 (k : Int), .slice (some ⟨g, 0, none⟩) M M], .int .i64 0]) ∧ w.heap.size ≤ g ∧ Rd w' (.slice (some ⟨g, 0, none⟩) M M) (flat m k (parF k)) ∧ Below w.heap.size w w') := by
  subst hx hy
  go_enter Try.func56, Try.ntmps56
  go_wp2_with fail
  refine (ccf_ok _ (okC_mk h1 h2)).mono ?_
  rintro e w2 ⟨rfl, rfl⟩
  go_wp2_with fail
  refine (prow_make k _ rfl).mono ?_
  rintro e w1 ⟨kb, fb, rfl, hfl, b1⟩
  have X3 : Box w1 w.heap.size 0 0 (.slice none 0 0) := Below.box b1 (by simp <;> omega) (Box.new w 0 0 (.slice none 0 0) 52)
  have F3 : Free w1 w.heap.size := Below.free b1 (by simp <;> omega) (Free.new w #[.int .i64 0, .int .i64 0, .slice none 0 0] 52)
  have B1 : Below w.heap.size w w1 := Below.next (by repeat (first | exact Below.refl _ _ | apply below_lit)) b1
  have hF1 := hF.below B1
  have hs1 : w.heap.size < w1.heap.size := by have := b1.size; simp at this; omega
  clear b1
  go_wp2_with fail
  refine (made_any m k w1 (by omega) (by omega) h1 (parF k) enters_prow1 ?_ rfl rfl).mono ?_
  · intro g M i o W hi hM ho hg hB R
    have hf2 := hfl.below hB
    refine (prow_fill (i := i) (n := k) (hF1.below hB) (by have := hF1.lt; omega) hf2.ck (by have := hfl.lk; omega) hf2.cf (by have := hfl.lf; omega) (by omega) (Nat.le_refl _) (by omega) (by rw [ho.out, hM.out, ← Nat.succ_mul]; exact Nat.mul_le_mul_right k hi) R rfl).mono ?_
    rintro e w' ⟨rfl, hO, hR⟩
    refine ⟨rfl, hO.turn, hR.congr ?_⟩
    rw [hM.out]
    refine upR_row (fun t ht hne => putAt_out (not_in_row ho.out (by omega) hne (Nat.le_refl _))) (fun j hj => ?_)
    rw [ho.out]; exact putAt_in hj
  · rintro e w4 ⟨g, M, rfl, hg, hR, b4⟩
    have X4 := X3.below hs1 b4
    have F4 := F3.below hs1 b4
    have B4 : Below w.heap.size w w4 := Below.next B1 b4
    have x30 := X4.c0
    have x31 := X4.c1
    have x32 := X4.c2
    have f30 := F4.f0
    have f31 := F4.f1
    have f32 := F4.f2
    go_wp2
    have O1 : Only w.heap.size w4 (((w4.setCell ⟨w.heap.size, 0, none⟩ (.int .i64 (m : Int))).setCell ⟨w.heap.size, 1, none⟩ (.int .i64 (k : Int))).setCell ⟨w.heap.size, 2, none⟩ (.slice (some ⟨g, 0, none⟩) M M)) :=
      (((Only.refl _ _).setCell 0 _).setCell 1 _).setCell 2 _
    refine bodyPost_ret (v := .tuple #[.agg #[.int .i64 (m : Int), .int .i64 (k : Int), .slice (some ⟨g, 0, none⟩) M M], .int .i64 0]) (by simp [results, Try.results56, go_sem, x30, x31, x32, f30, f31, f32]) rfl ⟨g, M, rfl, by omega, hR.only (apart_block (by omega)) O1, B4.trans (O1.below (by omega))⟩
theorem cpar_ok {b : Nat} {w : World} (k m : Nat) (hF : FieldAt w b) (h1 : 1 ≤ k) (h2 : k + m ≤ 256) {x y : Int} (hx : x = (k : Int)) (hy : y = (m : Int)) :
    Calls Try.prog 56 #[.pointer (some ⟨b, 0, none⟩), .int .i64 x, .int .i64 y] w (MakesM w m k (parF k)) :=
  (cpar_at k m hF h1 h2 hx hy).mono fun e w' ⟨g, M, h, _, hr, hb⟩ => ⟨_, h, hr, hb⟩

end Go.Proofs.Ytkjolopdpihigaa.Gf

/-
  THE PROGRAM's 'copied' AND 'adding' BY CONTRACT, and the closure that 'adding' makes.
-/



namespace Go.Proofs.Ytkjolopdpihigaa.Gf
set_option linter.unusedVariables false
set_option linter.unusedSimpArgs false
open Go.RowKit

/-- a row and a multiple of a shard, for the first k places -/
def addR (f : Nat → UInt8) (a : UInt8) (q : List UInt8) (k : Nat) (t : Nat) : UInt8 := if t < k then f t ^^^ mu a (co q t) else f t
theorem addR_zero (f : Nat → UInt8) (a : UInt8) (q : List UInt8) : addR f a q 0 = f := by funext t; exact if_neg (by omega)
theorem addR_step (f : Nat → UInt8) (a : UInt8) (q : List UInt8) (k t : Nat) : addR f a q (k + 1) t = if t = k then f k ^^^ mu a (co q k) else addR f a q k t := by
  unfold addR
  by_cases e : t = k
  · subst e; rw [if_pos (by omega), if_pos rfl]
  · rw [if_neg e]
    by_cases h : t < k
    · rw [if_pos h, if_pos (by omega)]
    · rw [if_neg h, if_neg (by omega)]

set_option maxRecDepth 100000 in
set_option maxHeartbeats 2000000 in
/-- what adds a shard, times a number, to a row: fb its captured variable -/
theorem add1_any {w : World} {base u g n c b fb : Nat} {f : Nat → UInt8} {vq : Value} {q : List UInt8} (a : UInt8) (hF : FieldAt w b) (hbg : b ≠ g) (cf : w.cell? ⟨fb, 0, none⟩ = some (.pointer (some ⟨b, 0, none⟩))) (hfg : fb ≠ g) (hfl : fb < w.heap.size)
    (hR : RowF w base u g n c f) (hq : Rd w vq q) (hap : Apart g vq) (hn : q.length = n) (hL : n ≤ 1000000) {y : Int} (hy : y = ((a.toNat : Nat) : Int)) :
    Calls Try.prog 72 #[.slice (some ⟨g, 0, none⟩) n c, .int .u8 y, vq, .pointer (some ⟨fb, 0, none⟩)] w fun e w' => e = .returned (.tuple #[]) ∧ Only g w w' ∧ RowF w' base u g n c (addR f a q n) := by
  subst hy
  obtain ⟨qa, qc, rfl⟩ := hq.form
  rw [hn]
  go_enter Try.func72, Try.ntmps72
  go_wp2
  go_loopw [11] (fun i wr => ∃ k : Nat, k ≤ n ∧ i = .int .i64 k ∧ Only g w wr ∧ RowF wr base u g n c (addR f a q k)) (fun i _ => n - (intOf i).toNat)
  case atStart => exact ⟨0, by omega, rfl, Only.refl _ _, by rw [addR_zero]; exact hR⟩
  case round =>
    obtain ⟨k, hk, rfl, hO, hRk⟩ := hrel
    by_cases hlt : k < n
    · have hq2 := hq.only hap hO
      rw [hn] at hq2
      obtain ⟨qb, qo, rfl, _, ct⟩ := hq2.byte (i := k) (by omega)
      have c1 := hRk.cell hlt
      have f1 := hRk.unfrozen k
      have cf2 := (hO.cell (p := ⟨fb, 0, none⟩) hfg).trans cf
      have e1 : addR f a q k k = f k := if_neg (by omega)
      rw [e1] at c1
      have E := xor_u8 (f k) (mu a (co q k))
      have HN : Hid (RowF (wr.setCell ⟨g, k, none⟩ (.int .u8 (((f k).toNat ^^^ (mu a (co q k)).toNat : Nat) : Int))) base u g n c (addR f a q (k + 1))) := by
        rw [← UInt8.toNat_xor]
        exact hRk.store hlt _ fun s => addR_step _ _ _ _ _
      have HO : Hid (Only g w (wr.setCell ⟨g, k, none⟩ (.int .u8 (((f k).toNat ^^^ (mu a (co q k)).toNat : Nat) : Int)))) := hO.setCell k _
      have hFr := hF.only hbg hO
      have hlt' : (k : Int) < (n : Int) := by omega
      clear hRk hO hR e1 hq hap hn hq2 hF cf
      go_wp2
      go_region_with ((go_at_call 70; refine (fmu_quiet (hFr.drewN _) a (co q k) rfl rfl).mono ?_; rintro e w' ⟨rfl, d, rfl⟩))
      all_goals go_wp2
      all_goals
        go_roundw
        case rel => exact ⟨k + 1, by omega, by go_num, HO.out.drewN _, HN.out.drewN _⟩
        case measure => simp [intOf]; omega
    · have e : k = n := by omega
      subst e
      have hge : ¬ (k : Int) < (k : Int) := by omega
      clear hq
      go_wp2
      go_end0
      exact ⟨rfl, hO, hRk⟩

set_option maxRecDepth 100000 in
set_option maxHeartbeats 1000000 in
theorem add0_any {b : Nat} (w : World) : Calls Try.prog 59 #[.pointer (some ⟨b, 0, none⟩)] w fun e w' => ∃ fb, e = .returned (.func (.func 72) #[] #[.pointer (some ⟨fb, 0, none⟩)]) ∧ w'.cell? ⟨fb, 0, none⟩ = some (.pointer (some ⟨b, 0, none⟩)) ∧ w.heap.size ≤ fb ∧ fb < w'.heap.size ∧ Below w.heap.size w w' := by
  go_enter Try.func59, Try.ntmps59
  go_wp2
  go_ret
  exact ⟨_, rfl, by simp, by omega, by simp, (Below.refl _ _).alloc (Nat.le_refl _) _⟩

/-- 'copy' into a row of the call's own -/
theorem run_copy_rd {P : Program} {w : World} (dT sT ty : TypeId) (elem : TypeId) (hu : P.underlying dT = some (.slice elem)) (hsz : (P.info? elem).map (·.size) = some 1)
    {g off n dl dCap : Nat} {va : Value} {p : List UInt8} {base e L : Nat} {f : Nat → UInt8} (hr : Rd w va p) (hn : p.length = n) (hdl : n ≤ dl) (hR : RowF w base e g L L f) (hl : off + n ≤ L) :
    ∃ w', Sem.run P (Builtin.copy_ #[dT, sT] ty #[.slice (some ⟨g, off, none⟩) dl dCap, va]) w = .ok (goInt n) w' ∧ Only g w w' ∧ RowF w' base e g L L (putAt f off n (co p)) := by
  subst hn
  obtain ⟨hg, hm⟩ := hR.heap rfl
  have hlt := hR.lt
  rcases hr with ⟨ao, cap, rfl, rfl, _⟩ | ⟨b, so, cap, hp0, rfl, h1, h2, h3, hpc⟩
  · have hrun := run_copy_none (P := P) w dT sT ty elem (some ⟨g, off, none⟩) ao dl dCap 0 cap hu hsz (Nat.zero_min _)
    exact ⟨w, hrun, Only.refl _ _, by rw [List.length_nil, putAt_zero]; exact hR⟩
  · have hrun := run_copy_row (P := P) w dT sT ty elem g off dl dCap ⟨b, so, none⟩ p.length cap ((upto f L).map vb).toArray e (p.map vb) hu hsz hg (by rw [List.length_map]; exact (Nat.min_eq_left hdl).symm) (by have := news_of (k := p.length) hpc; rwa [List.take_length] at this) (by simp [upto_length]; exact hl) (vb_one p)
    refine ⟨_, by simpa using hrun, only_setRow _ _ _, RowF.of_heap hlt.1 hm ?_⟩
    rw [← splice_upto hl]
    simpa [splice] using setRow_heap w g _ _ e _ hg

set_option maxRecDepth 100000 in
set_option maxHeartbeats 1000000 in
theorem cop_any {v : Value} {p : List UInt8} {w : World} (hp : Rd w v p) (hl : p.length ≤ 100000) : Calls Try.prog 58 #[v] w fun e w' => ∃ g, e = .returned (.slice (some ⟨g, 0, none⟩) p.length p.length) ∧ w.heap.size ≤ g ∧ RowF w' w.heap.size 5 g p.length p.length (co p) ∧ Below w.heap.size w w' := by
  obtain ⟨i0, hi, hz0, hz1, hz2⟩ := info_parts info_u8
  obtain ⟨qa, qc, rfl⟩ := hp.form
  obtain ⟨n, hn⟩ : ∃ n, Hid (n = p.length) := ⟨_, rfl⟩
  rw [← hn.out] at hl hp ⊢
  go_enter Try.func58, Try.ntmps58
  go_wp2_with (at_make; go_loud (refine wpList_make_full _ rfl (.tmp 5) (.tmp 5) 34 rfl w.heap.size 5 i0 (.int .u8 0) 1 Try.underlying34 hi hz0 hz1 _ _ _ _ n rfl rfl (by omega) (by omega) (by rw [hz2]; omega) (by unfold maxLen; omega) (by simp) ?_); intro w1 hown1 hgrow1; have R1 := RowF.made hown1; clear hown1)
  have b1 : Below w.heap.size w w1 := (Below.refl _ _).grown hgrow1 (Nat.le_refl _) (fun k hk => by cases hk)
  clear hgrow1
  have hg1 := R1.lt
  generalize hgg : w.heap.size = g at *
  obtain ⟨w2, hrun, hO, hR⟩ := run_copy_rd (P := Try.prog) 34 34 3 5 Try.underlying34 (by rw [hi]; simp [hz1]) (hp.below (by rw [hgg]; exact b1)) hn.out.symm (Nat.le_refl n) R1 (off := 0) (dCap := n) (by omega)
  rw [hrun]
  have HR : Hid (RowF w2 g 5 g n n (co p)) := hR.congr fun t ht => by unfold putAt; rw [if_pos (by omega), Nat.sub_zero]
  have HO : Hid (Only g w1 w2) := hO
  clear hR hO R1 hp hrun
  go_wp2
  go_ret
  subst hgg
  exact ⟨_, rfl, Nat.le_refl _, HR.out, b1.trans (HO.out.below (Nat.le_refl _))⟩

end Go.Proofs.Ytkjolopdpihigaa.Gf

/-
  THE PROGRAM's 'addTimes' AND 'making' (package erase) BY CONTRACT, and the closure that 'making' makes.
-/



namespace Go.Proofs.Ytkjolopdpihigaa.Gf
set_option linter.unusedVariables false
set_option linter.unusedSimpArgs false
open Go.RowKit

theorem addR_nought {f : Nat → UInt8} {q : List UInt8} {n t : Nat} : addR f 0 q n t = f t := by
  unfold addR
  by_cases h : t < n
  · rw [if_pos h, zero_mu, x_zero]
  · rw [if_neg h]

set_option maxRecDepth 100000 in
set_option maxHeartbeats 2000000 in
/-- a shard, times a number, is added to a row -/
theorem eadd_any {w : World} {base u g n c b : Nat} {f : Nat → UInt8} {vq : Value} {q : List UInt8} (a : UInt8) (hF : FieldAt w b) (hbg : b ≠ g)
    (hR : RowF w base u g n c f) (hq : Rd w vq q) (hap : Apart g vq) (hn : q.length = n) (hL : n ≤ 1000000) {y : Int} (hy : y = ((a.toNat : Nat) : Int)) :
    Calls Try.prog 45 #[.pointer (some ⟨b, 0, none⟩), .slice (some ⟨g, 0, none⟩) n c, .int .u8 y, vq] w fun e w' => e = .returned (.tuple #[]) ∧ Only g w w' ∧ RowF w' base u g n c (addR f a q n) := by
  subst hy
  obtain ⟨qa, qc, rfl⟩ := hq.form
  rw [hn]
  by_cases ha : a = 0
  · have HR : Hid (RowF w base u g n c (addR f a q n)) := hR.congr fun t _ => by rw [ha]; exact addR_nought.symm
    have hz : (((a.toNat : Nat) : Int) == 0) = true := by rw [eq_u8_zero]; exact decide_eq_true ha
    clear hq hF hR ha
    go_enter Try.func45, Try.ntmps45
    go_wp2
    exact bodyPost_ret (v := .tuple #[]) (by simp [results, Try.results45, go_sem]) rfl ⟨rfl, Only.refl _ _, HR.out⟩
  · have hz : (((a.toNat : Nat) : Int) == 0) = false := by rw [eq_u8_zero]; exact decide_eq_false ha
    clear ha
    go_enter Try.func45, Try.ntmps45
    go_wp2
    clear hz
    go_loopw [14] (fun i wr => ∃ k : Nat, k ≤ n ∧ i = .int .i64 k ∧ Only g w wr ∧ RowF wr base u g n c (addR f a q k)) (fun i _ => n - (intOf i).toNat)
    case atStart => exact ⟨0, by omega, rfl, Only.refl _ _, by rw [addR_zero]; exact hR⟩
    case round =>
      obtain ⟨k, hk, rfl, hO, hRk⟩ := hrel
      by_cases hlt : k < n
      · have hq2 := hq.only hap hO
        rw [hn] at hq2
        obtain ⟨qb, qo, rfl, _, ct⟩ := hq2.byte (i := k) (by omega)
        have c1 := hRk.cell hlt
        have f1 := hRk.unfrozen k
        have e1 : addR f a q k k = f k := if_neg (by omega)
        rw [e1] at c1
        have E := xor_u8 (f k) (mu a (co q k))
        have HN : Hid (RowF (wr.setCell ⟨g, k, none⟩ (.int .u8 (((f k).toNat ^^^ (mu a (co q k)).toNat : Nat) : Int))) base u g n c (addR f a q (k + 1))) := by
          rw [← UInt8.toNat_xor]
          exact hRk.store hlt _ fun s => addR_step _ _ _ _ _
        have HO : Hid (Only g w (wr.setCell ⟨g, k, none⟩ (.int .u8 (((f k).toNat ^^^ (mu a (co q k)).toNat : Nat) : Int)))) := hO.setCell k _
        have hFr := hF.only hbg hO
        have hlt' : (k : Int) < (n : Int) := by omega
        clear hRk hO hR e1 hq hap hn hq2 hF
        go_wp2
        go_region_with ((go_at_call 70; refine (fmu_quiet (hFr.drewN _) a (co q k) rfl rfl).mono ?_; rintro e w' ⟨rfl, d, rfl⟩))
        all_goals go_wp2
        all_goals
          go_roundw
          case rel => exact ⟨k + 1, by omega, by go_num, HO.out.drewN _, HN.out.drewN _⟩
          case measure => simp [intOf]; omega
      · have e : k = n := by omega
        subst e
        have hge : ¬ (k : Int) < (k : Int) := by omega
        clear hq
        go_wp2
        go_end0
        exact ⟨rfl, hO, hRk⟩

/-- what 'making' lays: its four variables -/
structure Mk7 (w : World) (b fb mb pb sb : Nat) (r c : Int) (vs vp vl : Value) : Prop where
  cf : w.cell? ⟨fb, 0, none⟩ = some (.pointer (some ⟨b, 0, none⟩))
  bx : Box w mb r c vs
  cp : w.cell? ⟨pb, 0, none⟩ = some vp
  cs : w.cell? ⟨sb, 0, none⟩ = some vl
  lf : fb < w.heap.size
  lm : mb < w.heap.size
  lp : pb < w.heap.size
  ls : sb < w.heap.size
theorem Mk7.below {w w' : World} {b fb mb pb sb : Nat} {r c : Int} {vs vp vl : Value} (h : Mk7 w b fb mb pb sb r c vs vp vl) (hb : Below w.heap.size w w') : Mk7 w' b fb mb pb sb r c vs vp vl :=
  ⟨(hb.cell (p := ⟨fb, 0, none⟩) h.lf).trans h.cf, h.bx.below h.lm hb, (hb.cell (p := ⟨pb, 0, none⟩) h.lp).trans h.cp, (hb.cell (p := ⟨sb, 0, none⟩) h.ls).trans h.cs, Nat.lt_of_lt_of_le h.lf hb.size, Nat.lt_of_lt_of_le h.lm hb.size, Nat.lt_of_lt_of_le h.lp hb.size, Nat.lt_of_lt_of_le h.ls hb.size⟩

set_option maxRecDepth 100000 in
set_option maxHeartbeats 1000000 in
theorem emak_any {b n1 n2 n3 c1 c2 c3 : Nat} {a1 a2 a3 : Option Addr} {r c : Int} (w : World) : Calls Try.prog 26 #[.pointer (some ⟨b, 0, none⟩), .agg #[.int .i64 r, .int .i64 c, .slice a1 n1 c1], .slice a2 n2 c2, .slice a3 n3 c3] w fun e w' =>
    ∃ fb mb pb sb, e = .returned (.func (.func 44) #[] #[.pointer (some ⟨sb, 0, none⟩), .pointer (some ⟨pb, 0, none⟩), .pointer (some ⟨fb, 0, none⟩), .pointer (some ⟨mb, 0, none⟩)]) ∧ Mk7 w' b fb mb pb sb r c (.slice a1 n1 c1) (.slice a2 n2 c2) (.slice a3 n3 c3) ∧ Below w.heap.size w w' := by
  go_enter Try.func26, Try.ntmps26
  go_wp2
  go_ret
  refine ⟨w.heap.size, w.heap.size + 1, w.heap.size + 1 + 1, w.heap.size + 1 + 1 + 1, rfl, ⟨by go_simp, ⟨by go_simp, by go_simp, by go_simp⟩, by go_simp, by go_simp, by simp <;> omega, by simp <;> omega, by simp <;> omega, by simp <;> omega⟩, by repeat (first | exact Below.refl _ _ | apply below_lit)⟩

set_option maxRecDepth 100000 in
set_option maxHeartbeats 4000000 in
/-- a data shard, made anew -/
theorem emak1_any {w : World} {b fb mb pb sb k j n : Nat} {V : Mx} {zs : List Nat} {L : List (List UInt8)} {vs vp vl : Value} (hF : FieldAt w b) (hM : Mk7 w b fb mb pb sb (k : Int) (k : Int) vs vp vl) (hV : Rd w vs (flat k k V)) (hp : RdI w vp (toI zs)) (hz : zs.length = k) (hs : Rs w vl L)
    (hin : ∀ i, i < k → zs.getD i 0 < L.length) (hlen : ∀ i, i < k → (ro L (zs.getD i 0)).length = n) (hn : n ≤ 300) (hk : k ≤ 256) (hj : j < k) {x : Int} (hx : x = (j : Int)) :
    Calls Try.prog 44 #[.int .i64 x, .pointer (some ⟨sb, 0, none⟩), .pointer (some ⟨pb, 0, none⟩), .pointer (some ⟨fb, 0, none⟩), .pointer (some ⟨mb, 0, none⟩)] w fun e w' =>
      ∃ g, e = .returned (.slice (some ⟨g, 0, none⟩) n n) ∧ w.heap.size ≤ g ∧ RowF w' w.heap.size 5 g n n (dwd V (fun i => zs.getD i 0) L j k) ∧ Below w.heap.size w w' := by
  subst hx
  have hmk := run_make_row' (P := Try.prog) 34 5 (.int .u8 0) 1 Try.underlying34 info_u8 rfl .i64 .i64 n (by omega) (by omega)
  have hz' : Hid (zs.length = k) := hz
  have hin' : Hid _ := hin
  have hlen' : Hid _ := hlen
  obtain ⟨va, vc, rfl⟩ := hV.form
  obtain ⟨qa, qc, rfl⟩ := hp.form
  obtain ⟨la, lc, rfl⟩ := hs.form
  rw [toI_length, hz] at hp hM
  rw [flat_length] at hV hM
  obtain ⟨N, hN⟩ : ∃ N, Hid (N = k * k) := ⟨_, rfl⟩
  rw [← hN.out] at hV hM
  have hp0 := hp
  obtain ⟨pb', po, rfl, hpb, cp0⟩ := hp0.at (i := 0) (by rw [toI_length, hz]; omega)
  rw [toI_getD, Nat.add_zero] at cp0
  have hi0 := hin 0 (by omega)
  have hl0 := hlen 0 (by omega)
  obtain ⟨t0, ht0⟩ : ∃ t0, Hid (t0 = zs.getD 0 0) := ⟨_, rfl⟩
  rw [← ht0.out] at cp0 hi0 hl0
  obtain ⟨sb', so, xa, xc, rfl, hsb, cs0, _⟩ := hs.at hi0
  rw [hl0] at cs0
  have hi0' : (t0 : Int) < (L.length : Int) := by omega
  have h0k : (0 : Int) < (k : Int) := by omega
  have m1 := hM.cs
  have m2 := hM.cp
  clear hin hlen hz hl0
  go_enter Try.func44, Try.ntmps44
  go_wp2_with fail
  go_region
  have B1 : Below w.heap.size w (w.alloc (.cells (madeCells #[.int .u8 0] n) 5)).drew := ((Below.refl _ _).alloc (Nat.le_refl _) _).drew
  clear hmk m1 m2 cs0 cp0
  obtain ⟨g, hg⟩ : ∃ g, Hid (g = w.heap.size) := ⟨_, rfl⟩
  have R1 : RowF (w.alloc (.cells (madeCells #[.int .u8 0] n) 5)).drew w.heap.size 5 g n n (fun _ => 0) := by rw [hg.out]; exact (RowF.laid w (base := w.heap.size) (e := 5) (n := n) (Nat.le_refl _) (by omega)).drew
  rw [← hg.out]
  have hbg : b ≠ g := by rw [hg.out]; have := hF.lt; omega
  have hap := fun (v : Value) (q : List UInt8) (r : Rd w v q) => r.apart (g := g) (by rw [hg.out]; exact Nat.le_refl _)
  have HS : Hid (∀ i, i < k → ∃ xa xc, w.cell? ⟨sb', so + zs.getD i 0, none⟩ = some (.slice xa n xc) ∧ Rd w (.slice xa n xc) (ro L (zs.getD i 0))) := fun i hi => by
    obtain ⟨xa, xc, c1, r1⟩ := hs.get (hin'.out i hi)
    rw [hlen'.out i hi] at c1 r1
    exact ⟨xa, xc, c1, r1⟩
  have HAP : Hid (∀ (v : Value) (q : List UInt8), Rd w v q → Apart g v) := fun v q r => r.apart (by rw [hg.out]; exact Nat.le_refl _)
  have HP : Hid (∀ i, i < k → w.cell? ⟨pb', po + i, none⟩ = some (.int .i64 ((zs.getD i 0 : Nat) : Int))) := fun i hi => by
    have := hp.get (i := i) (by rw [toI_length, hz'.out]; exact hi)
    rwa [toI_getD] at this
  have HVc : Hid (∀ T, T < N → ∃ ab ao, va = some ⟨ab, ao, none⟩ ∧ ab < w.heap.size ∧ w.cell? ⟨ab, ao + T, none⟩ = some (.int .u8 ((co (flat k k V) T).toNat : Nat))) := fun T hT => hV.byte (i := T) (by rw [flat_length, ← hN.out]; exact hT)
  have lpb := hM.lp
  have lfb := hM.lf
  have lmb := hM.lm
  have lsb := hM.ls
  have m2 := (B1.cell (p := ⟨pb, 0, none⟩) lpb).trans hM.cp
  clear hap hV hp hp0 hs
  generalize (w.alloc (.cells (madeCells #[.int .u8 0] n) 5)).drew = w1 at *
  go_wp2
  go_loopw [20] (fun x wr => ∃ i : Nat, i ≤ k ∧ x = .int .i64 i ∧ Only g w1 wr ∧ RowF wr w.heap.size 5 g n n (dwd V (fun i => zs.getD i 0) L j i)) (fun x _ => k - (intOf x).toNat)
  case atStart => exact ⟨0, by omega, rfl, Only.refl _ _, R1⟩
  case round =>
    obtain ⟨i, hi, rfl, hO, hR⟩ := hrel
    clear R1
    have b8 : Below w.heap.size w wr := B1.trans (hO.below (by rw [hg.out]; exact Nat.le_refl _))
    by_cases hlt : i < k
    · have hlt' : (i : Int) < (k : Int) := by omega
      have hM8 := hM.below b8
      have m1 := hM8.cs
      have m3 := hM8.cf
      have x1 := hM8.bx.c1
      have x2 := hM8.bx.c2
      obtain ⟨xa, xc, cj, rj⟩ := HS.out i hlt
      have hap : Apart g (.slice xa n xc) := HAP.out _ _ rj
      have hti := hin'.out i hlt
      have hle := hlen'.out i hlt
      have cpi := (b8.cell (p := ⟨pb', po + i, none⟩) hpb).trans (HP.out i hlt)
      obtain ⟨t, ht⟩ : ∃ t, Hid (t = zs.getD i 0) := ⟨_, rfl⟩
      have HD : Hid (∀ n, dwd V (fun i => zs.getD i 0) L j (i + 1) n = dwd V (fun i => zs.getD i 0) L j i n ^^^ mu (V j i) (co (ro L t) n)) := fun n => by rw [ht.out]; exact dwd_succ _ _ _ _ _ _
      rw [← ht.out] at cj rj hti cpi hle
      have hti' : (t : Int) < (L.length : Int) := by omega
      have cj8 := (b8.cell (p := ⟨sb', so + t, none⟩) hsb).trans cj
      have rj8 := rj.below b8
      obtain ⟨T, hT⟩ : ∃ T, Hid (T = j * k + i) := ⟨_, rfl⟩
      have hTN : T < N := by rw [hT.out, hN.out]; exact place_lt hj hlt
      have hNs : N ≤ 65536 := by rw [hN.out]; exact mul_small (by omega) (by omega)
      obtain ⟨o', ho'⟩ : ∃ o', Hid (o' = j * k) := ⟨_, rfl⟩
      have hoT : o' + i = T := by rw [ho'.out, hT.out]
      have g1 : (j : Int) * (k : Int) = (o' : Int) := by rw [ho'.out]; exact_mod_cast rfl
      have g2 : (o' : Int) + (i : Int) = (T : Int) := by omega
      have v1 : IntKind.i64.wrap (o' : Int) = (o' : Int) := by rw [IntKind.wrap_i64]; omega
      have v2 : IntKind.i64.wrap (T : Int) = (T : Int) := by rw [IntKind.wrap_i64]; omega
      obtain ⟨ab, ao, eva, hab, ca⟩ := HVc.out T hTN
      have eT : co (flat k k V) T = V j i := by rw [hT.out]; exact en_flat V hj hlt
      rw [eT] at ca
      subst eva
      have ca8 := (b8.cell (p := ⟨ab, ao + T, none⟩) hab).trans ca
      have hTN' : (T : Int) < (N : Int) := by omega
      have hF8 := hF.below b8
      have hle' : Hid _ := hle
      have hO8 : Hid _ := hO
      have hR8 : Hid _ := hR
      have b8' : Hid _ := b8
      clear hle cj rj ca eT hoT hO hR hM8 b8 hM hF m2
      have hng : fb ≠ g ∧ mb ≠ g ∧ sb ≠ g ∧ ab ≠ g ∧ sb' ≠ g := by have := hg.out; omega
      obtain ⟨ng1, ng2, ng3, ng4, ng5⟩ := hng
      have P1 := And.intro m3 (And.intro x1 (And.intro x2 (And.intro m1 (And.intro ca8 cj8))))
      have Q1 : Hid (∀ W, Only g wr W → W.cell? ⟨fb, 0, none⟩ = some (.pointer (some ⟨b, 0, none⟩)) ∧ W.cell? ⟨mb, 1, none⟩ = some (.int .i64 (k : Int)) ∧ W.cell? ⟨mb, 2, none⟩ = some (.slice (some ⟨ab, ao, none⟩) N vc) ∧ W.cell? ⟨sb, 0, none⟩ = some (.slice (some ⟨sb', so, none⟩) L.length lc) ∧ W.cell? ⟨ab, ao + T, none⟩ = some (.int .u8 ((V j i).toNat : Nat)) ∧ W.cell? ⟨sb', so + t, none⟩ = some (.slice xa n xc)) := fun W o => ⟨(o.cell (p := ⟨fb, 0, none⟩) ng1).trans m3, (o.cell (p := ⟨mb, 1, none⟩) ng2).trans x1, (o.cell (p := ⟨mb, 2, none⟩) ng2).trans x2, (o.cell (p := ⟨sb, 0, none⟩) ng3).trans m1, (o.cell (p := ⟨ab, ao + T, none⟩) ng4).trans ca8, (o.cell (p := ⟨sb', so + t, none⟩) ng5).trans cj8⟩
      have HC : ∀ W, Only g wr W → RowF W w.heap.size 5 g n n (dwd V (fun i => zs.getD i 0) L j i) → Calls Try.prog 45 #[.pointer (some ⟨b, 0, none⟩), .slice (some ⟨g, 0, none⟩) n n, .int .u8 ((V j i).toNat : Nat), .slice xa n xc] W fun e w' => e = .returned (.tuple #[]) ∧ Only g wr w' ∧ RowF w' w.heap.size 5 g n n (addR (dwd V (fun i => zs.getD i 0) L j i) (V j i) (ro L t) n) := fun W o r =>
        (eadd_any (V j i) (hF8.only hbg o) hbg r (rj8.only hap o) hap hle'.out (by omega) rfl).mono fun e w' ⟨h1, h2, h3⟩ => ⟨h1, o.trans h2, h3⟩
      clear hF8 rj8 hap m1 m3 x1 x2 ca8 cj8
      go_wp2
      go_region_held3 (fun wx => wx.cell? ⟨fb, 0, none⟩ = some (.pointer (some ⟨b, 0, none⟩)) ∧ wx.cell? ⟨mb, 1, none⟩ = some (.int .i64 (k : Int)) ∧ wx.cell? ⟨mb, 2, none⟩ = some (.slice (some ⟨ab, ao, none⟩) N vc) ∧ wx.cell? ⟨sb, 0, none⟩ = some (.slice (some ⟨sb', so, none⟩) L.length lc) ∧ wx.cell? ⟨ab, ao + T, none⟩ = some (.int .u8 ((V j i).toNat : Nat)) ∧ wx.cell? ⟨sb', so + t, none⟩ = some (.slice xa n xc)) (first | exact P1 | exact Q1.out _ (by assumption)) ((go_at_call 45; go_loud (refine (HC _ (Only.refl g wr).drew (RowF.drew hR8.out)).mono ?_); rintro e w9 ⟨rfl, hO9, hR9⟩; replace P1 := Q1.out _ hO9))
      have HN1 : Hid (RowF w9 w.heap.size 5 g n n (dwd V (fun i => zs.getD i 0) L j (i + 1))) := hR9.congr fun s hs => by rw [HD.out]; exact if_pos hs
      have HN2 : Hid (Only g w1 w9) := hO8.out.trans hO9
      clear hO9 hR9 cpi HC P1 Q1
      go_wp2
      go_roundw
      case rel => exact ⟨i + 1, by omega, by go_num, HN2.out, HN1.out⟩
      case measure => simp [intOf]; omega
    · have hge : ¬ (i : Int) < (k : Int) := by omega
      have ei : i = k := by omega
      rw [ei] at hR
      clear ei hM hF
      go_wp2
      go_ret
      exact ⟨g, rfl, by rw [hg.out]; exact Nat.le_refl _, hR, b8⟩

end Go.Proofs.Ytkjolopdpihigaa.Gf

/-
  THE PROGRAM's 'firstThere' BY CONTRACT.
-/

namespace Go.Proofs.Ytkjolopdpihigaa.Gf
set_option linter.unusedVariables false
set_option linter.unusedSimpArgs false
open Go.RowKit

theorem info_int : (Try.prog.info? 3).map (fun i => (i.zero, i.size, i.bytes)) = some (some (.int .i64 0), 1, 8) := by kernel_rfl
/-- the places of the first k that are there -/
def pls7 (h : List Bool) (k : Nat) : List Nat := (thr h h.length).take k
theorem pls7_of {h : List Bool} {k r : Nat} (hr : r ≤ h.length) (e : (thr h r).length = k) : pls7 h k = thr h r := by
  obtain ⟨t, ht⟩ := thr_pre h hr
  unfold pls7
  rw [ht, ← e]; exact List.take_left
theorem pls7_all {h : List Bool} {k : Nat} (e : (thr h h.length).length ≤ k) : pls7 h k = thr h h.length := List.take_of_length_le e
theorem pls7_getD {h : List Bool} {k i : Nat} (hi : i < k) : (pls7 h k).getD i 0 = pl7 h i := by
  unfold pls7 pl7
  simp [List.getD, List.getElem?_take_of_lt hi]

set_option maxRecDepth 100000 in
set_option maxHeartbeats 2000000 in
theorem efirst_any {va : Value} {h : List Bool} {k : Nat} {w : World} (hH : RdB w va h) (hk : k ≤ 256) {x : Int} (hx : x = (k : Int)) : Calls Try.prog 24 #[va, .int .i64 x] w fun e w' => ∃ v, e = .returned v ∧ OwnI w' w.heap.size 3 v (pls7 h k) ∧ Below w.heap.size w w' := by
  subst hx
  obtain ⟨i0, hi, hz0, hz1, hz2⟩ := info_parts info_int
  obtain ⟨a, c, rfl⟩ := hH.form
  have hl := hH.len
  unfold maxLen at hl
  go_enter Try.func24, Try.ntmps24
  go_wp2_with fail
  go_step3
  go_wp2_with (at_make; go_loud (refine wpList_make_own _ rfl _ (.tmp 8) 56 rfl w.heap.size 3 i0 (.int .i64 0) 1 Try.underlying56 hi hz0 hz1 _ _ _ k rfl rfl rfl (by rw [hz2]; omega) (by unfold maxLen; omega) (Nat.le_refl _) ?_); intro w1 hown1 hgrow1)
  have HO1 : Hid (OwnI w1 w.heap.size 3 (.slice (some ⟨w.heap.size, 0, none⟩) 0 k) []) := hown1
  have HB1 : Hid (Below w.heap.size w w1) := (Below.refl _ _).grown hgrow1 (Nat.le_refl _) (fun q hq => by cases hq)
  clear hown1 hgrow1
  go_step3
  go_wp2
  go_loopw [5, 12] (fun o i wr => ∃ r : Nat, r ≤ h.length ∧ i = .int .i64 r ∧ OwnI wr w.heap.size 3 o (thr h r) ∧ Hid ((thr h r).length ≤ k) ∧ Below w.heap.size w wr) (fun _ i _ => h.length - (intOf i).toNat)
  case atStart => exact ⟨0, by omega, rfl, HO1.out, Nat.zero_le _, HB1.out⟩
  case round =>
    obtain ⟨r, hr, rfl, hO, hT, hB⟩ := hrel
    have hsz := hB.size
    clear HO1 HB1
    by_cases hlt : r < h.length
    · obtain ⟨b, off, rfl, _, c1⟩ := (hH.below hB).at hlt
      have hlt' : (r : Int) < (h.length : Int) := by omega
      obtain ⟨av, cv, rfl⟩ := hO.form
      by_cases ek : (thr h r).length = k
      · have hd : (((thr h r).length : Int) == (k : Int)) = true := by simp [ek]
        have E : Hid (pls7 h k = thr h r) := pls7_of hr ek
        clear hH ek
        go_wp2
        try rw [Exit.noGoto_ret]
        go_ret
        exact ⟨_, rfl, by rw [E.out]; exact hO, hB⟩
      · have hd : (((thr h r).length : Int) == (k : Int)) = false := by simp; omega
        have hTk : (thr h r).length < k := by have := hT.out; omega
        cases e : hb h r with
        | false =>
          rw [e] at c1
          have E : Hid (thr h (r + 1) = thr h r) := thr_no e
          clear hH ek e
          go_wp2
          go_roundw
          case rel => exact ⟨r + 1, by omega, by go_num, by rw [E.out]; exact hO, by show _ ≤ _; rw [E.out]; omega, hB⟩
          case measure => simp [intOf]; omega
        | true =>
          rw [e] at c1
          have E : Hid (thr h (r + 1) = thr h r ++ [r]) := thr_yes e
          clear hH ek e
          go_wp2_with (at_builtin; go_loud (refine wpList_append_int rfl (.tmp 24) (.tmp 26) 56 rfl w.heap.size 3 i0 Try.underlying56 hi hz0 hz1 hz2 (.slice av (thr h r).length cv) (thr h r) rfl hO r _ 1 rfl (by omega) hsz ?_); intro v' w2 hv2 hb2)
          have HO : Hid (OwnI w2 w.heap.size 3 v' (thr h (r + 1))) := by show OwnI _ _ _ _ _; rw [E.out]; exact hv2
          have HB : Hid (Below w.heap.size w w2) := hB.trans hb2
          clear hO hv2 hb2 hB c1
          go_wp2
          go_roundw
          case rel => exact ⟨r + 1, by omega, by go_num, HO.out, by show _ ≤ _; rw [E.out, List.length_append]; exact hTk, HB.out⟩
          case measure => simp [intOf]; omega
    · have e : r = h.length := by omega
      subst e
      have E : Hid (pls7 h k = thr h h.length) := pls7_all hT.out
      have hge : ¬ (h.length : Int) < (h.length : Int) := by omega
      clear hH
      go_wp2
      try rw [Exit.noGoto_ret]
      go_ret
      exact ⟨_, rfl, by rw [E.out]; exact hO, hB⟩

end Go.Proofs.Ytkjolopdpihigaa.Gf

