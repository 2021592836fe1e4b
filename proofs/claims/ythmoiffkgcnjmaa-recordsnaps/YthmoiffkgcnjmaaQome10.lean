/- TEXTS JOINED: ReInt, ReStN. -/
import Derived.Test.YthmoiffkgcnjmaaQome6
namespace Go.Proofs.Ythmoiffkgcnjmaa.Gf
set_option linter.unusedVariables false
set_option linter.unusedSimpArgs false
open Go.RowKit
def vz (z : Int) : Value := .int .i64 z
def OwnZ (w : World) (base e : Nat) (v : Value) (zs : List Int) : Prop := w.ownsRow base e 1 v zs.length (zs.map vz)
theorem OwnZ.cell {w : World} {base e : Nat} {a : Option Addr} {n c : Nat} {zs : List Int} (h : OwnZ w base e (.slice a n c) zs) {i : Nat} (hi : i < zs.length) : ∃ g, a = some ⟨g, 0, none⟩ ∧ g < w.heap.size ∧ base ≤ g ∧ w.cell? ⟨g, i, none⟩ = some (.int .i64 (zs.getD i 0)) := by
  have h' := h
  obtain ⟨_, ⟨e, hn⟩ | ⟨g, cap, cur, e, hg, hh, hc, hm, hs, ht⟩⟩ := h
  · omega
  · simp at e
    obtain ⟨rfl, rfl, rfl⟩ := e
    have hlt := World.ownsRow.lt h' g rfl
    refine ⟨g, rfl, hlt.2, hlt.1, ?_⟩
    rw [World.ownsRow.cellAt h' i (by omega), List.getElem?_map, List.getElem?_eq_getElem hi]
    simp [vz, List.getD, hi]
theorem OwnZ.rd {w : World} {base e : Nat} {v : Value} {zs : List Int} (h : OwnZ w base e v zs) (hl : zs.length ≤ 1000000) : RdI w v zs := by
  obtain ⟨a, c, rfl⟩ := owns_form h
  by_cases h0 : zs = []
  · subst h0; exact Or.inl ⟨a, c, rfl, rfl⟩
  · have hpos : 0 < zs.length := List.length_pos_iff.2 h0
    obtain ⟨g, rfl, hg, _, _⟩ := h.cell hpos
    refine Or.inr ⟨g, 0, c, h0, rfl, by unfold maxLen; omega, hg, fun i hi => ?_⟩
    obtain ⟨g', e, _, _, hc⟩ := h.cell hi
    simp at e
    subst e
    rw [Nat.zero_add, hc]
theorem OwnZ.nil (w : World) (base e : Nat) : OwnZ w base e (.slice none 0 0) [] := World.ownsRow_nil _ _ _ _
theorem info_int16 : (Try.prog.info? 3).map (fun i => (i.zero, i.size, i.bytes)) = some (some (.int .i64 0), 1, 8) := by kernel_rfl
theorem info_int16' : ∃ i, Try.prog.info? 3 = some i ∧ i.zero = some (.int .i64 0) ∧ i.size = 1 ∧ i.bytes = 8 := by
  have h := info_int16
  cases e : Try.prog.info? 3 with
  | none => rw [e] at h; cases h
  | some i =>
    rw [e] at h
    simp only [Option.map_some, Option.some.injEq, Prod.mk.injEq] at h
    exact ⟨i, rfl, h.1, h.2.1, h.2.2⟩
/-- 'append(s, x)' of one integer, x laid as a list of one, as a run -/
theorem run_append_z {w W : World} {base : Nat} {v : Value} {zs : List Int} {z : Int} (ty : TypeId) (hO : OwnZ w base 3 v zs) (hW : W = w.alloc (.cells #[.int .i64 z] 3)) {b : Nat} (hb : b = w.heap.size) (hl : zs.length ≤ 100000) (hbase : base ≤ w.heap.size) :
    ∃ v' w', (Builtin.append_ #[23, 23] ty #[v, .slice (some ⟨b, 0, none⟩) 1 1]).run Try.prog W = .ok v' w' ∧ OwnZ w' base 3 v' (zs ++ [z]) ∧ Gro w v w' v' := by
  subst hW hb
  obtain ⟨i, hi, hz, hs, hy⟩ := info_int16'
  obtain ⟨v', w', hrun, h2, h3, _, h5⟩ := run_append_own_at (P := Try.prog) (w.alloc (.cells #[.int .i64 z] 3)) base 23 ty 3 i (.int .i64 0) 1 8 Try.underlying23 hi hz hs hy rfl (by decide) v zs.length (zs.map vz) (World.ownsRow.alloc hO _) ⟨w.heap.size, 0, none⟩ 1 1 [vz z] rfl (by intro j y hj; rw [add_at, Nat.zero_add]; rcases j with _ | j <;> simp at hj; subst hj; simp [vz]) (by intro y hy; simp at hy; rw [hy]; rfl) (by unfold maxLen; omega) (by omega) (by simp; omega)
  refine ⟨v', w', hrun, ?_, (Gro.bel v (belR w _)).trans (Gro.of h3 h5)⟩
  unfold OwnZ
  rw [List.length_append, List.map_append]
  exact h2
theorem step_append_z {w W : World} {base : Nat} {v : Value} {zs : List Int} {z : Int} {ops : Array Oper} {o : Oper} {a : Act} {K : Act → World → Prop} {Q : Exit → Act → World → Prop} {E : Prop} (hgd : o.guard = none) (s x : Operand)
    (ho : o.op = .call { callee := .builtin .append, args := #[s, x], argTypes := #[23, 23] }) {b : Nat} (hs : a.eval s = v) (hx : a.eval x = .slice (some ⟨b, 0, none⟩) 1 1)
    (hO : OwnZ w base 3 v zs) (hW : W = w.alloc (.cells #[.int .i64 z] 3)) (hb : b = w.heap.size) (hl : zs.length ≤ 100000) (hbase : base ≤ w.heap.size)
    (h : ∀ v' w', OwnZ w' base 3 v' (zs ++ [z]) → Gro w v w' v' → K (a.put o.dst v') w') :
    if Region.wanted o (yielded ops a.tmps) = true then Oper.wp Try.prog o a W K Q else E := by
  have hw : Region.wanted o (yielded ops a.tmps) = true := by simp [Region.wanted, hgd]
  rw [if_pos hw]
  obtain ⟨v', w', hrun, h2, h3⟩ := run_append_z (z := z) o.type hO hW hb hl hbase
  unfold Oper.wp execOp
  simp only [ho, resolve, invoke, builtin, Sem.run_bind, Sem.run_pure, Result.andThen_ok, List.map_toArray, List.map_cons, List.map_nil, hs, hx, hrun]
  exact h v' w' h2 h3
theorem OwnZ.only {w w' : World} {base e g : Nat} {v : Value} {zs : List Int} (h : OwnZ w base e v zs) (o : Only g w w') (hg : g < base) : OwnZ w' base e v zs := by
  obtain ⟨h0, h | ⟨g2, cap, cur, hv, hgg, hh, r⟩⟩ := h
  · exact ⟨h0, Or.inl h⟩
  · exact ⟨h0, Or.inr ⟨g2, cap, cur, hv, hgg, by rw [o.block g2 (by omega)]; exact hh, r⟩⟩
end Go.Proofs.Ythmoiffkgcnjmaa.Gf

namespace Go.Proofs.Ythmoiffkgcnjmaa.Gf
set_option linter.unusedVariables false
set_option linter.unusedSimpArgs false
open Go.RowKit
theorem stN_succ (r : Nat) (b : List UInt8) : stN (r + 1) b = stN r b ++ [((un (b.drop (2 * r)) : Nat) : Int)] := by
  induction r generalizing b with
  | zero => rfl
  | succ r ih =>
    show ((un b : Nat) : Int) :: stN (r + 1) (b.drop 2) = ((un b : Nat) : Int) :: (stN r (b.drop 2) ++ _)
    rw [ih, List.drop_drop, show 2 + 2 * r = 2 * (r + 1) by omega]
theorem wf64 {z : Int} (h0 : -9223372036854775808 ≤ z) (h1 : z ≤ 9223372036854775807) : (Lit.int .i64 z).wf = true := by
  simp [Lit.wf, IntKind.min, IntKind.max, IntKind.signed, IntKind.bits]
  omega
theorem stN_wf (n : Nat) (b : List UInt8) : ∀ z ∈ stN n b, (Lit.int .i64 z).wf = true := by
  induction n generalizing b with
  | zero => intro z hz; cases hz
  | succ n ih =>
    intro z hz
    rcases List.mem_cons.1 hz with rfl | hz
    · have := un_lt b; exact wf64 (by omega) (by omega)
    · exact ih _ z hz
end Go.Proofs.Ythmoiffkgcnjmaa.Gf
