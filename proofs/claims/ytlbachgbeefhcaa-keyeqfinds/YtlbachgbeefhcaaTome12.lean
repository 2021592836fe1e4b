/- TEXTS JOINED: GfDiv, KeLawF, PoAppend. -/
import Derived.Test.YtlbachgbeefhcaaTome5
import Derived.Test.YtlbachgbeefhcaaTome9
import Derived.Test.YtlbachgbeefhcaaTome1
import Derived.Laws.AppendOwnNone
/-
  THE FIELD's QUOTIENTS BY CONTRACT, on a field that stands in memory; the world stands, but for draws.
-/

namespace Go.Proofs.Ytlbachgbeefhcaa.Gf
set_option linter.unusedVariables false
open Go.RowKit

set_option maxRecDepth 100000 in
theorem div_zero (b a : Nat) (w : World) (hF : FieldAt w b) :
    Calls Try.prog 20 #[.pointer (some ⟨b, 0, none⟩), .int .u8 a, .int .u8 0] w fun e w' => e = .returned (.tuple #[.int .u8 0, .int .i64 10]) ∧ ∃ n, w' = w.drewN n := by
  have e1 : powV 0 (-1) = 0 := rfl
  have e2 : powE 0 (-1) = 10 := rfl
  go_enter Try.func20, Try.ntmps20
  go_wp2_with (go_at_call 37; go_must (refine (inv_any b 0 _ hF (by omega)).mono ?_); rintro e w' ⟨rfl, nd, rfl⟩)
  go_ret2
  exact ⟨rfl, _, rfl⟩

set_option maxRecDepth 100000 in
theorem div_main (b a c : Nat) (w : World) (hF : FieldAt w b) (ha : a < 256) (hc : c < 256) (hc0 : c ≠ 0) :
    Calls Try.prog 20 #[.pointer (some ⟨b, 0, none⟩), .int .u8 a, .int .u8 c] w fun e w' => e = .returned (.tuple #[.int .u8 (mulS a (powV c (-1)) : Nat), .int .i64 0]) ∧ ∃ n, w' = w.drewN n := by
  have e2 : powE c (-1) = 0 := by simp [powE, hc0]
  have l : powV c (-1) < 256 := by unfold powV; rw [if_neg (by omega), if_neg hc0]; exact pw_lt _
  go_enter Try.func20, Try.ntmps20
  go_wp2_with (go_at_call 37; go_must (refine (inv_any b c _ hF hc).mono ?_); rintro e w' ⟨rfl, nd, rfl⟩)
  go_wp2_with (go_at_call 33; go_must (refine (mul_any b a _ _ (hF.drewN nd) ha l).mono ?_); rintro e w' ⟨rfl, nd2, rfl⟩)
  go_ret2
  exact ⟨rfl, _, rfl⟩

theorem div_at {b : Nat} {x y : Int} {w : World} (hF : FieldAt w b) (a c : Nat) (hx : x = a) (hy : y = c) (ha : a < 256) (hc : c < 256) (hc0 : c ≠ 0) :
    Calls Try.prog 20 #[.pointer (some ⟨b, 0, none⟩), .int .u8 x, .int .u8 y] w fun e w' => e = .returned (.tuple #[.int .u8 (mulS a (powV c (-1)) : Nat), .int .i64 0]) ∧ ∃ n, w' = w.drewN n := by
  subst hx hy; exact div_main b a c w hF ha hc hc0

theorem div_all {b : Nat} {x y : Int} {w : World} (hF : FieldAt w b) (a c : Nat) (hx : x = a) (hy : y = c) (ha : a < 256) (hc : c < 256) :
    Calls Try.prog 20 #[.pointer (some ⟨b, 0, none⟩), .int .u8 x, .int .u8 y] w fun e w' => e = .returned (.tuple #[.int .u8 (mulS a (invS c) : Nat), .int .i64 (zE c : Nat)]) ∧ ∃ n, w' = w.drewN n := by
  by_cases hc0 : c = 0
  · subst hc0 hx hy
    have e1 : mulS a (invS 0) = 0 := mulS_zero a
    rw [e1, zE_zero]
    exact div_zero b a w hF
  · rw [← powV_m1 c, zE_pos hc0]
    exact div_at hF a c hx hy ha hc hc0

end Go.Proofs.Ytlbachgbeefhcaa.Gf

/-
  THE PROGRAM's 'Div' OVER BYTES, where it tells no error.
-/

namespace Go.Proofs.Ytlbachgbeefhcaa.Gf
set_option linter.unusedVariables false
set_option linter.unusedSimpArgs false
open Go.RowKit

theorem fdiv9_at {b : Nat} {w : World} (hF : FieldAt w b) (a c : UInt8) (hc : c ≠ 0) {x y : Int} (hx : x = ((a.toNat : Nat) : Int)) (hy : y = ((c.toNat : Nat) : Int)) :
    Calls Try.prog 20 #[.pointer (some ⟨b, 0, none⟩), .int .u8 x, .int .u8 y] w fun e w' => e = .returned (.tuple #[.int .u8 ((mu a (iv c)).toNat : Nat), .int .i64 0]) ∧ ∃ n, w' = w.drewN n := by
  refine (div_all hF a.toNat c.toNat hx hy (u8_lt a) (u8_lt c)).mono fun e w' ⟨h1, h2⟩ => ⟨?_, h2⟩
  rw [h1, mu_toNat, iv_toNat, zE_pos (u8_ne hc)]; rfl
theorem derP_len9 (p : List UInt8) : (derP p).length ≤ p.length := by unfold derP; rw [mk_length]; exact deg_le _ _

end Go.Proofs.Ytlbachgbeefhcaa.Gf

/-
  A LAW ON A BUILTIN: 'append(s, p...)', s a row of the call's own, p whatever slice of bytes (nil, empty, or not): the bytes of p behind those of s. Made of the library's laws on append; no program's function is named here.
-/

namespace Go.Proofs.Ytlbachgbeefhcaa.Gf
set_option linter.unusedVariables false
set_option linter.unusedSimpArgs false
open Go.RowKit

theorem wpList_append_rd {P : Program} (w : World) {ops : Array Oper} {rest : List Oper} {o : Oper} {a : Act} {Q : Exit → Act → World → Prop} (hgd : o.guard = none) (s x : Operand) (t : TypeId)
    (ho : o.op = .call { callee := .builtin .append, args := #[s, x], argTypes := #[t, t] })
    (base : Nat) (e : TypeId) (i : TypeInfo) (ht : P.underlying t = some (.slice e)) (hi : P.info? e = some i) (hz : i.zero = some (.int .u8 0)) (hsize : i.size = 1) (hby : i.bytes = 1)
    (v : Value) (n : Nat) (xs : List Value) (hs : a.eval s = v) (hown : w.ownsRow base e 1 v n xs) (va : Value) (p : List UInt8) (hx : a.eval x = va) (hr : Rd w va p) (hl : n + p.length ≤ 1000000) (hbase : base ≤ w.heap.size)
    (h : ∀ v' w', w'.ownsRow base e 1 v' (n + p.length) (xs ++ p.map vb) → w.grownBy w' v.ownBlock → wpList P ops Q rest (a.put o.dst v') w') : wpList P ops Q (o :: rest) a w := by
  rcases hr with ⟨ao, cap, rfl, rfl, hc, hn⟩ | ⟨b, off, cap, hp0, rfl, h1, h2, h3, hpc⟩
  · rcases ao with _ | ad
    · have := hn rfl
      subst this
      refine wpList_append_own_none hgd s x t ho base e i 1 ht hi v n xs hs hown hx ?_
      exact h v w (by simpa using hown) (World.grownBy.refl _ _)
    · refine wpList_append_own w hgd s x t ho base e i (.int .u8 0) 1 1 ht hi hz hsize hby rfl (by decide) v n xs hs hown ad 0 cap [] hx rfl (by intro j u hj; simp at hj) (by intro u hu; simp at hu) (by unfold maxLen; omega) (by omega) hbase ?_
      intro v' w' ho' hg' _
      exact h v' w' (by simpa using ho') hg'
  · refine wpList_append_own w hgd s x t ho base e i (.int .u8 0) 1 1 ht hi hz hsize hby rfl (by decide) v n xs hs hown ⟨b, off, none⟩ p.length cap ((p.take p.length).map vb) hx (by simp) (news_of hpc) (vb_one _) (by unfold maxLen; omega) (by omega) hbase ?_
    intro v' w' ho' hg' _
    exact h v' w' (by simpa using ho') hg'

end Go.Proofs.Ytlbachgbeefhcaa.Gf

