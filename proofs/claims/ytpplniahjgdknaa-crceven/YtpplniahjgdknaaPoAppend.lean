/-
  A LAW ON A BUILTIN: 'append(s, p...)', s a row of the call's own, p whatever slice of bytes (nil, empty, or not): the bytes of p behind those of s. Made of the library's laws on append; no program's function is named here.
-/
import Derived.Test.YtpplniahjgdknaaPoRd
import Derived.Laws.AppendOwnNone
namespace Go.Proofs.Ytpplniahjgdknaa.Gf
set_option linter.unusedVariables false
set_option linter.unusedSimpArgs false
open Go.RowKit

theorem wpList_append_rd {P : Program} (w : World) {ops : Array Oper} {rest : List Oper} {o : Oper} {a : Act} {Q : Exit → Act → World → Prop} (hgd : o.guard = none) (s x : Operand) (t : TypeId)
    (ho : o.op = .call { callee := .builtin .append, args := #[s, x], argTypes := #[t, t] })
    (base : Nat) (e : TypeId) (i : TypeInfo) (ht : P.underlying t = some (.slice e)) (hi : P.info? e = some i) (hz : i.zero = some (.int .u8 0)) (hsize : i.size = 1) (hby : i.bytes = 1)
    (v : Value) (n : Nat) (xs : List Value) (hs : a.eval s = v) (hown : w.ownsRow base e 1 v n xs) (va : Value) (p : List UInt8) (hx : a.eval x = va) (hr : Rd w va p) (hl : n + p.length ≤ 1000000) (hbase : base ≤ w.heap.size)
    (h : ∀ v' w', w'.ownsRow base e 1 v' (n + p.length) (xs ++ p.map vb) → w.grownBy w' v.ownBlock → wpList P ops Q rest (a.put o.dst v') w') : wpList P ops Q (o :: rest) a w := by
  rcases hr with ⟨ao, cap, rfl, rfl, hc, hn⟩ | ⟨b, off, cap, hp0, rfl, h1, h2, h3, hpc⟩
  · rcases ao with _ | ad
    · have := hn rfl
      subst this
      refine wpList_append_own_none hgd s x t ho base e i 1 ht hi v n xs hs hown hx ?_
      exact h v w (by simpa using hown) (World.grownBy.refl _ _)
    · refine wpList_append_own w hgd s x t ho base e i (.int .u8 0) 1 1 ht hi hz hsize hby rfl (by decide) v n xs hs hown ad 0 cap [] hx rfl (by intro j u hj; simp at hj) (by intro u hu; simp at hu) (by unfold maxLen; omega) (by omega) hbase ?_
      intro v' w' ho' hg' _
      exact h v' w' (by simpa using ho') hg'
  · refine wpList_append_own w hgd s x t ho base e i (.int .u8 0) 1 1 ht hi hz hsize hby rfl (by decide) v n xs hs hown ⟨b, off, none⟩ p.length cap ((p.take p.length).map vb) hx (by simp) (news_of hpc) (vb_one _) (by unfold maxLen; omega) (by omega) hbase ?_
    intro v' w' ho' hg' _
    exact h v' w' (by simpa using ho') hg'

end Go.Proofs.Ytpplniahjgdknaa.Gf
