/-
  SMALL FACTS OF LAYER 4's STATEMENTS: numbers of 32 bits that came in; lists of which one byte is another one.
-/
import Derived.Test.YtpplniahjgdknaaCrAwake
import Derived.Test.YtpplniahjgdknaaPoAppend
import Derived.Test.YtpplniahjgdknaaPoMulMath
import Derived.Test.YtpplniahjgdknaaPoInfo
import Derived.Deep.AppendLies
namespace Go.Proofs.Ytpplniahjgdknaa.Gf
set_option linter.unusedVariables false
set_option linter.unusedSimpArgs false
open Go.RowKit

theorem u32_nat {x : Int} (h : (Lit.int .u32 x).wf = true) : ∃ s : Nat, s < 4294967296 ∧ x = (s : Int) := by
  have := bounds_u32 h
  exact ⟨x.toNat, by omega, by omega⟩
theorem u8_nat {x : Int} (h : (Lit.int .u8 x).wf = true) : ∃ a : UInt8, x = ((a.toNat : Nat) : Int) := by
  have := bounds_u8 h
  exact ⟨UInt8.ofNat x.toNat, by rw [ofNat_u8 (by omega)]; omega⟩

theorem wpList_wanted {P : Program} {ops : Array Oper} {Q : Exit → Act → World → Prop} {a : Act} {w : World} {rest : List Oper} {o : Oper} (hw : Region.wanted o (yielded ops a.tmps) = true)
    (h : ∀ K : Act → World → Prop, (∀ a w, wpList P ops Q rest a w → K a w) → o.wp P a w K Q) : wpList P ops Q (o :: rest) a w :=
  wpList_step fun K hK => by rw [if_pos hw]; exact h K hK
/-- 'append(s, p...)' where it is guarded -/
theorem wpList_append_rdg {P : Program} (w : World) {ops : Array Oper} {rest : List Oper} {o : Oper} {a : Act} {Q : Exit → Act → World → Prop} (hw : Region.wanted o (yielded ops a.tmps) = true) (s x : Operand) (t : TypeId)
    (ho : o.op = .call { callee := .builtin .append, args := #[s, x], argTypes := #[t, t] })
    (base : Nat) (e : TypeId) (i : TypeInfo) (ht : P.underlying t = some (.slice e)) (hi : P.info? e = some i) (hz : i.zero = some (.int .u8 0)) (hsize : i.size = 1) (hby : i.bytes = 1)
    (v : Value) (n : Nat) (xs : List Value) (hs : a.eval s = v) (hown : w.ownsRow base e 1 v n xs) (va : Value) (p : List UInt8) (hx : a.eval x = va) (hr : Rd w va p) (hl : n + p.length ≤ 1000000) (hbase : base ≤ w.heap.size)
    (h : ∀ v' w', w'.ownsRow base e 1 v' (n + p.length) (xs ++ p.map vb) → w.grownBy w' v.ownBlock → wpList P ops Q rest (a.put o.dst v') w') : wpList P ops Q (o :: rest) a w := by
  have hrun : ∃ v' w', (Builtin.append_ #[t, t] o.type #[v, va]).run P w = .ok v' w' ∧ w'.ownsRow base e 1 v' (n + p.length) (xs ++ p.map vb) ∧ w.grownBy w' v.ownBlock := by
    rcases hr with ⟨ao, cap, rfl, rfl, hc, hn⟩ | ⟨b, off, cap, hp0, rfl, h1, h2, h3, hpc⟩
    · rcases ao with _ | ad
      · have := hn rfl
        subst this
        exact ⟨v, w, run_append_owned_none (P := P) (w := w) base t o.type e i 1 ht hi v n xs hown, by simpa using hown, World.grownBy.refl _ _⟩
      · obtain ⟨v', w', hr, h2, h3, _⟩ := run_append_own_at (P := P) w base t o.type e i (.int .u8 0) 1 1 ht hi hz hsize hby rfl (by decide) v n xs hown ad 0 cap [] rfl (by intro j u hj; simp at hj) (by intro u hu; simp at hu) (by unfold maxLen; omega) (by omega) hbase
        exact ⟨v', w', hr, by simpa using h2, h3⟩
    · obtain ⟨v', w', hr, h2, h3, _⟩ := run_append_own_at (P := P) w base t o.type e i (.int .u8 0) 1 1 ht hi hz hsize hby rfl (by decide) v n xs hown ⟨b, off, none⟩ p.length cap ((p.take p.length).map vb) (by simp) (news_of hpc) (vb_one _) (by unfold maxLen; omega) (by omega) hbase
      exact ⟨v', w', hr, by simpa using h2, h3⟩
  obtain ⟨v', w', hrun, h2, h3⟩ := hrun
  refine wpList_wanted hw fun K hK => ?_
  unfold Oper.wp execOp
  simp only [ho, resolve, invoke, builtin, Sem.run_bind, Sem.run_pure, Result.andThen_ok, List.map_toArray, List.map_cons, List.map_nil, hs, hx, hrun]
  exact hK _ _ (h v' w' h2 h3)
theorem below_new {w w' : World} {o : Obj} (h : (w.alloc o).grownBy w' (some w.heap.size)) : Below w.heap.size w w' :=
  ((Below.refl _ _).alloc (Nat.le_refl _) o).grown h (by simp) (fun k e => by cases e; exact Nat.le_refl _)
theorem own_new (w : World) (e : TypeId) : (w.alloc (.cells #[] e)).ownsRow w.heap.size e 1 (.slice (some ⟨w.heap.size, 0, none⟩) 0 0) 0 [] := World.ownsRow_made w #[] 0 (Nat.le_refl _) (Nat.zero_le _) rfl
theorem own_block (b n c : Nat) : (Value.slice (some ⟨b, 0, none⟩) n c).ownBlock = some b := rfl
theorem rd_two {w : World} {N e : Nat} {v : Value} {p q : List UInt8} (h : w.ownsRow N e 1 v (0 + p.length + q.length) ([] ++ p.map vb ++ q.map vb)) : Rd w v (p ++ q) := by
  refine Rd.owned (base := N) (e := e) ?_
  rw [List.length_append, List.map_append]
  rw [Nat.zero_add, List.nil_append] at h
  exact h
theorem rd_one {w : World} {N e : Nat} {v : Value} {p : List UInt8} (h : w.ownsRow N e 1 v (0 + p.length) ([] ++ p.map vb)) : Rd w v p := by
  refine Rd.owned (base := N) (e := e) ?_
  rw [Nat.zero_add, List.nil_append] at h
  exact h
theorem below_own {w0 w w' : World} {N e n : Nat} {v : Value} {xs : List Value} (hB : Below N w0 w) (hN : N ≤ w.heap.size) (h : w.ownsRow N e 1 v n xs) (hg : w.grownBy w' v.ownBlock) : Below N w0 w' :=
  hB.grown hg hN (fun k hk => (World.ownsRow.lt h k hk).1)

theorem tells_set {L : List UInt8} {t : Nat} (ht : t < L.length) {y : UInt8} (hy : y ≠ co L t) : more 0 (L.set t y) ≠ more 0 L := by
  have e1 : L.set t y = L.take t ++ y :: L.drop (t + 1) := by rw [List.set_eq_take_append_cons_drop, if_pos ht]
  have e2 : L = L.take t ++ co L t :: L.drop (t + 1) := by
    rw [co_lt ht]
    conv => lhs; rw [← List.take_append_drop t L, List.drop_eq_getElem_cons ht]
  rw [e1]
  conv => rhs; rw [e2]
  exact more_tells hy
theorem upto_co_set {L : List UInt8} {t : Nat} (ht : t < L.length) (y : UInt8) : upto (fun i => if i = t then y else co L i) L.length = L.set t y := by
  refine co_ext (by rw [upto_length, List.length_set]) fun i hi => ?_
  rw [upto_length] at hi
  rw [upto, co_map_range _ hi, co_set y ht]
theorem xor_ne {a b : UInt8} (h : b ≠ 0) : a ^^^ b ≠ a := by
  intro e
  apply h
  have e2 := congrArg (a ^^^ ·) e
  simp only [← UInt8.xor_assoc, UInt8.xor_self, UInt8.zero_xor] at e2
  exact e2

/-- the first k differences of two lists -/
def xk (p q : List UInt8) (k t : Nat) : UInt8 := if t < k then co p t ^^^ co q t else 0
theorem xk_zero (p q : List UInt8) (t : Nat) : xk p q 0 t = 0 := if_neg (Nat.not_lt_zero _)
theorem xk_step (p q : List UInt8) (k t : Nat) : xk p q (k + 1) t = if t = k then co p k ^^^ co q k else xk p q k t := by
  unfold xk
  by_cases e : t = k
  · subst e; rw [if_pos (by omega), if_pos rfl]
  · rw [if_neg e]
    by_cases h : t < k
    · rw [if_pos h, if_pos (by omega)]
    · rw [if_neg h, if_neg (by omega)]
theorem xk_all {p q : List UInt8} (h : p.length = q.length) : upto (xk p q p.length) p.length = List.zipWith (· ^^^ ·) p q := by
  refine co_ext (by rw [upto_length]; simp [h]) fun i hi => ?_
  rw [upto_length] at hi
  have h2 : i < (List.zipWith (· ^^^ ·) p q).length := by simp; omega
  have e1 : co (upto (xk p q p.length) p.length) i = xk p q p.length i := co_map_range _ hi
  rw [e1, co_lt h2]
  unfold xk
  rw [if_pos hi, co_lt hi, co_lt (show i < q.length by omega), List.getElem_zipWith]
theorem zeros_all (n : Nat) : upto (fun _ => 0) n = List.replicate n 0 := by
  refine co_ext (by rw [upto_length]; simp) fun i hi => ?_
  rw [upto_length] at hi
  have e1 : co (upto (fun _ => 0) n) i = 0 := co_map_range _ hi
  rw [e1, co_replicate]

theorem rd_y (w : World) (y : UInt8) (e : TypeId) : Rd (w.alloc (.cells #[.int .u8 ((y.toNat : Nat) : Int)] e)) (.slice (some ⟨w.heap.size, 0, none⟩) 1 1) [y] := rd_lit (n := 1) [y] rfl rfl (by decide)
theorem len_y (y : UInt8) : [y].length ≤ 1000000 := by show 1 ≤ 1000000; decide

end Go.Proofs.Ytpplniahjgdknaa.Gf
