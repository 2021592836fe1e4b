/-
  A LAW ON A BUILTIN: 'append(s, make([]byte, k)...)', s a row of the call's own: k noughts more, in that row or in a new one. Made after the laws on append that the library has; no program's function is named here.
-/
import Derived.Test.YtjojcdikkgnfgaaPoRd
namespace Go.Proofs.Ytjojcdikkgnfgaa.Gf
set_option linter.unusedVariables false
set_option linter.unusedSimpArgs false
open Go.RowKit

theorem zeroCells_one (k : Nat) : Builtin.zeroCells (Value.cells (.int .u8 0)) k = (List.replicate k (Value.int .u8 0)).toArray := by
  apply Array.ext'
  unfold Builtin.zeroCells
  simp only [Array.toList_map, Array.toList_range, Value.cells]
  refine List.ext_getElem (by simp) fun i h1 h2 => ?_
  simp [Nat.mod_one]

section
variable {P : Program} (w : World)

theorem run_append_zeros (base : Nat) (t ti ty e : TypeId) (i : TypeInfo) (ht : P.underlying t = some (.slice e)) (hti : P.underlying ti = some (.int .i64)) (hi : P.info? e = some i) (hz : i.zero = some (.int .u8 0))
    (hsize : i.size = 1) (hby : i.bytes = 1) (g n cap : Nat) (xs : List Value) (hown : w.ownsRow base e 1 (.slice (some ⟨g, 0, none⟩) n cap) n xs) (k : Nat) (hk : k ≤ 1000) (hn : n ≤ 1000000) (hbase : base ≤ w.heap.size) :
    ∃ v' w', (Builtin.append_ #[t, ti] ty #[.slice (some ⟨g, 0, none⟩) n cap, .int .i64 (k : Int)]).run P w = .ok v' w' ∧ w'.ownsRow base e 1 v' (n + k) (xs ++ List.replicate k (.int .u8 0)) ∧ w.grownBy w' (some g) := by
  have hw : IntKind.i64.wrap (k : Int) = (k : Int) := by rw [IntKind.wrap_i64]; omega
  have hneg : ¬ (k : Int) < 0 := by omega
  have hbig : ¬ (281474976710656 : Int) < (k : Int) := by omega
  by_cases hk0 : k = 0
  · subst hk0
    have hnc : n ≤ cap := by
      obtain ⟨_, ⟨h, _⟩ | ⟨g', cap', cur, hv, _, _, hnc, _⟩⟩ := hown
      · cases h
      · simp at hv; omega
    refine ⟨.slice (some ⟨g, 0, none⟩) n cap, w, ?_, by simpa using hown, World.grownBy.refl _ _⟩
    simp [Builtin.append_, run_underlying ht, run_underlying hti, sizeOf, typeInfo, hi, hsize, asInt, asIntOf, IntKind.wrap_i64, hnc, Addr.add_lit, storeCells]
  have holds0 := hown.cells (g := g) rfl
  obtain ⟨hx0, ⟨h, _⟩ | ⟨g', cap', cur, hv, hbg, hg, hnc, hcm, hcs, htake⟩⟩ := hown
  · cases h
  · simp at hv
    obtain ⟨rfl, rfl⟩ := hv
    have hlen : (xs ++ List.replicate k (Value.int .u8 0)).length = (n + k) * 1 := by rw [List.length_append, hx0, List.length_replicate]; omega
    by_cases hroom : n + k ≤ cap
    · have hst := run_storeCells_at P g n e (List.replicate k (Value.int .u8 0)) 0 cur w hg (by rw [List.length_replicate, hcs]; omega) (by intro v hv; rw [List.eq_of_mem_replicate hv]; rfl)
      simp only [Nat.add_zero, List.length_replicate] at hst
      have hr : (Builtin.append_ #[t, ti] ty #[.slice (some ⟨g, 0, none⟩) n cap, .int .i64 (k : Int)]).run P w = .ok (.slice (some ⟨g, 0, none⟩) (n + k) cap) (w.setRow g (cur.toList.take n ++ List.replicate k (Value.int .u8 0) ++ cur.toList.drop (n + k)).toArray) := by
        simp [Builtin.append_, run_underlying ht, run_underlying hti, sizeOf, typeInfo, zeroValue, hz, zeroCells_one, hi, hsize, hby, asInt, asIntOf, hw, hneg, hbig, hroom, hk0, Addr.add_lit, hst]
      refine ⟨_, _, hr, ⟨hlen, .inr ⟨g, cap, _, rfl, hbg, setRow_heap w g cur _ e _ hg, hroom, hcm, ?_, ?_⟩⟩, ⟨rfl, rfl, rfl, by simp, fun k' _ hk' => setRow_other w g k' _ (fun e => hk' (by simp [e]))⟩⟩
      · simp only [List.size_toArray, List.length_append, List.length_take, List.length_drop, List.length_replicate, Array.length_toList]
        omega
      · rw [Nat.mul_one] at htake
        rw [htake, ← hlen]
        exact List.take_left
    · have hgc := grownCap_ge w (n + k) cap e
      have hgm := grownCap_le_maxLen w (n + k) cap e (by unfold maxLen; omega)
      have hn' : ¬ (n + k ≤ cap) := hroom
      have h63' : ¬ (9223372036854775807 < ((n : Int) + (k : Int))) := by omega
      have h48' : ¬ (281474976710656 < Builtin.nextslicecap (n + k) cap) := by
        have := growslice_fits (need := n + k) (old := cap) (bytes := 1) (by omega) (by omega)
        omega
      have holds : ∀ j u, xs[j]? = some u → w.cell? ((⟨g, 0, none⟩ : Addr).add j) = some u := holds0
      have hfo := run_firstCells_some (P := P) w.drew 1 n ⟨g, 0, none⟩ n cap xs (by rw [hx0]) (by simpa using holds)
      have hr : (Builtin.append_ #[t, ti] ty #[.slice (some ⟨g, 0, none⟩) n cap, .int .i64 (k : Int)]).run P w = .ok (.slice (some ⟨w.heap.size, 0, none⟩) (n + k) (grownCap w (n + k) cap e)) (w.drew.alloc (.cells (xs.toArray ++ (List.replicate k (Value.int .u8 0)).toArray ++ Builtin.zeroCells (Value.cells (.int .u8 0)) (grownCap w (n + k) cap e - (n + k))) e)) := by
        simp [Builtin.append_, run_underlying ht, run_underlying hti, sizeOf, typeInfo, zeroValue, hz, zeroCells_one, hi, hsize, hby, asInt, asIntOf, hw, hneg, hbig, hn', hk0, h63', h48', Question.forced, hfo, newRow, grownCap]
      refine ⟨_, _, hr, ⟨hlen, .inr ⟨w.heap.size, _, _, rfl, hbase, heap_alloc_new w.drew _, hgc, hgm, ?_, ?_⟩⟩, ⟨rfl, rfl, rfl, by simp, fun k' hk' _ => heap_alloc_old w.drew _ hk'⟩⟩
      · rw [zeroCells_one]
        simp only [Array.size_append, List.size_toArray, List.length_replicate, hx0]
        omega
      · simp only [Array.toList_append]
        rw [← hlen]
        exact List.take_left
end

theorem wpList_append_zeros {P : Program} (w : World) {ops : Array Oper} {rest : List Oper} {o : Oper} {a : Act} {Q : Exit → Act → World → Prop} (hgd : o.guard = none) (s x : Operand) (t ti : TypeId)
    (ho : o.op = .call { callee := .builtin .append, args := #[s, x], argTypes := #[t, ti] })
    (base : Nat) (e : TypeId) (i : TypeInfo) (ht : P.underlying t = some (.slice e)) (hti : P.underlying ti = some (.int .i64)) (hi : P.info? e = some i) (hz : i.zero = some (.int .u8 0))
    (hsize : i.size = 1) (hby : i.bytes = 1) (g n cap : Nat) (xs : List Value) (hs : a.eval s = .slice (some ⟨g, 0, none⟩) n cap) (hown : w.ownsRow base e 1 (.slice (some ⟨g, 0, none⟩) n cap) n xs)
    (k : Nat) (X : Int) (hx : a.eval x = .int .i64 X) (hX : X = (k : Int)) (hk : k ≤ 1000) (hn : n ≤ 1000000) (hbase : base ≤ w.heap.size)
    (h : ∀ v' w', w'.ownsRow base e 1 v' (n + k) (xs ++ List.replicate k (.int .u8 0)) → w.grownBy w' (some g) → wpList P ops Q rest (a.put o.dst v') w') : wpList P ops Q (o :: rest) a w := by
  subst hX
  refine wpList_plain hgd fun K hK => ?_
  obtain ⟨v', w', hr, h2, h3⟩ := run_append_zeros (P := P) w base t ti o.type e i ht hti hi hz hsize hby g n cap xs hown k hk hn hbase
  unfold Oper.wp execOp
  simp only [ho, resolve, invoke, builtin, Sem.run_bind, Sem.run_pure, Result.andThen_ok, List.map_toArray, List.map_cons, List.map_nil, hs, hx, hr]
  exact hK _ _ (h v' w' h2 h3)

theorem co_zeros (p : List UInt8) (k : Nat) : co (p ++ List.replicate k 0) = co p := by
  funext i
  by_cases h : i < p.length
  · exact co_append_lt h
  · rw [co_append_ge (by omega), co_replicate, co_ge (by omega)]
theorem vb_zeros (p : List UInt8) (k : Nat) : (p ++ List.replicate k 0).map vb = p.map vb ++ List.replicate k (.int .u8 0) := by
  rw [List.map_append, List.map_replicate]; rfl

end Go.Proofs.Ytjojcdikkgnfgaa.Gf
