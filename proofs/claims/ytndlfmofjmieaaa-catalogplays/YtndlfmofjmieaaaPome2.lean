/- TEXTS JOINED: WdInts, MpI, MpS. -/
import Derived.Test.YtndlfmofjmieaaaPome1
import Derived.Maps.OwnSet
import Derived.Maps.Ext
import Derived.Maps.OwnOps
namespace Go.Proofs.Ytndlfmofjmieaaa.Gf
set_option linter.unusedVariables false
set_option linter.unusedSimpArgs false
open Go.RowKit
theorem ints_ext {xs ys : List Int} (hl : xs.length = ys.length) (h : ∀ i, i < xs.length → xs.getD i 0 = ys.getD i 0) : xs = ys := by
  refine List.ext_getElem hl fun i h1 h2 => ?_
  have := h i h1
  simpa [List.getD, h1, h2] using this
set_option maxRecDepth 100000 in
set_option maxHeartbeats 1000000 in
theorem rints_any {va vb : Value} {xs ys : List Int} {w : World} (ha : RdI w va xs) (hb : RdI w vb ys) (hl : xs.length ≤ 1000000) (hl2 : ys.length ≤ 1000000) :
    Calls Try.prog 26 #[va, vb] w fun e w' => e = .returned (.bool (decide (xs = ys))) ∧ Below w.heap.size w w' := by
  obtain ⟨a1, c1, rfl⟩ := ha.form
  obtain ⟨a2, c2, rfl⟩ := hb.form
  by_cases hlen : xs.length = ys.length
  · have hn : (((xs.length : Nat) : Int) != ((ys.length : Nat) : Int)) = false := by simp [hlen]
    have hlen' : Hid _ := hlen
    clear hlen
    go_enter Try.func26, Try.ntmps26
    go_wp2
    go_loopw [5] (fun i wr => ∃ k : Nat, k ≤ xs.length ∧ i = .int .i64 k ∧ Hid (∀ j, j < k → xs.getD j 0 = ys.getD j 0) ∧ Below w.heap.size w wr) (fun i _ => xs.length - (intOf i).toNat)
    case atStart => exact ⟨0, by omega, rfl, fun j hj => by omega, Below.refl _ _⟩
    case round =>
      obtain ⟨k, hk, rfl, hs, hB⟩ := hrel
      by_cases hlt : k < xs.length
      · obtain ⟨b1, o1, rfl, _, k1⟩ := (ha.below hB).at hlt
        obtain ⟨b2, o2, rfl, _, k2⟩ := (hb.below hB).at (show k < ys.length by have := hlen'.out; omega)
        have hlt1 : (k : Int) < (xs.length : Int) := by omega
        have hlt2 : (k : Int) < (ys.length : Int) := by have := hlen'.out; omega
        by_cases e : xs.getD k 0 = ys.getD k 0
        · have HS : Hid (∀ j, j < k + 1 → xs.getD j 0 = ys.getD j 0) := fun j hj => by
            by_cases e2 : j = k
            · rw [e2]; exact e
            · exact hs.out j (by omega)
          rw [e] at k1
          generalize ys.getD k 0 = y at k1 k2
          clear e hs ha hb
          go_wp2_with fail
          try go_quiet (fail)
          try go_wp2
          go_roundw
          case rel => exact ⟨k + 1, by omega, by go_num, HS, by first | exact hB | exact hB.drewN _⟩
          case measure => simp [intOf]; omega
        · have hne : (xs.getD k 0 != ys.getD k 0) = true := bne_iff_ne.2 e
          have E : Hid (decide (xs = ys) = false) := decide_eq_false fun q => e (by rw [q])
          generalize ys.getD k 0 = y at k2 hne
          generalize xs.getD k 0 = x at k1 hne
          clear e hs ha hb
          go_wp2_with fail
          try go_quiet (fail)
          try go_wp2
          go_ret
          exact ⟨by rw [E.out]; rfl, by first | exact hB | exact hB.drewN _⟩
      · have hge : ¬ (k : Int) < (xs.length : Int) := by omega
        have E : Hid (decide (xs = ys) = true) := decide_eq_true (ints_ext hlen'.out fun i hi => hs.out i (by omega))
        clear hs ha hb
        go_wp2
        go_ret
        exact ⟨by rw [E.out]; rfl, hB⟩
  · have hn : (((xs.length : Nat) : Int) != ((ys.length : Nat) : Int)) = true := by simp; omega
    have E : Hid (decide (xs = ys) = false) := decide_eq_false fun q => hlen (by rw [q])
    clear ha hb hlen
    go_enter Try.func26, Try.ntmps26
    go_wp2
    go_ret
    exact ⟨by rw [E.out]; rfl, Below.refl _ _⟩
end Go.Proofs.Ytndlfmofjmieaaa.Gf

namespace Go.Proofs.Ytndlfmofjmieaaa.Gf
set_option linter.unusedVariables false
set_option linter.unusedSimpArgs false
open Go.RowKit
open Go.Maps (Keyed)
open Go.ChangeMaps Go.MapKept
/-- an element reads as itself -/
def RV (v : Value) : Option (DataW Value × List MemPlace) := some (.held v, [])
theorem RV_inv {v : Value} {d : DataW Value} {ps : List MemPlace} (h : RV v = some (d, ps)) : d = .held v := by
  unfold RV at h
  simp at h
  exact h.1.symm
theorem own_tight {P : Program} {K b n : Nat} {w : World} {R : Value → Option (DataW Value × List MemPlace)} {D : DataW Value} (h : w.ownsMap P K R b n D) : w.ownsMap P K R b (Maps.size D) D := by
  obtain ⟨es, clock, hb, F, hs, rfl⟩ := h
  refine ⟨es, clock, hb, F, ?_, rfl⟩
  simp [Maps.size, length_sorted]
end Go.Proofs.Ytndlfmofjmieaaa.Gf

namespace Go.Proofs.Ytndlfmofjmieaaa.Gf
set_option linter.unusedVariables false
set_option linter.unusedSimpArgs false
open Go.RowKit
open Go.Maps (Keyed)
open Go.ChangeMaps Go.MapKept
def MapS (P : Program) (K : TypeId) (w : World) (b : Nat) (f : List UInt8 → Option Value) : Prop :=
  ∃ D, w.ownsMap P K RV b (Maps.size D) D ∧ (∀ kl, Maps.has D kl = true → ∃ d, kl = .string d) ∧
    (∀ d, (Maps.has D (.string d) = false ∧ f d = none) ∨ ∃ v, f d = some v ∧ Maps.has D (.string d) = true ∧ ∀ z, D.atKey (.string d) z = .held v)
def strV (d : List UInt8) : Value := .string ⟨d.toArray⟩
theorem keyS {P : Program} {K : TypeId} (hk : P.underlying K = some .string) {d : List UInt8} (hd : d.length ≤ maxLen) : keyOf P K (strV d) = some (.string d) := by
  have h2 : (⟨d.toArray⟩ : ByteArray).size ≤ maxLen := by show d.toArray.size ≤ _; simpa using hd
  unfold keyOf strV
  rw [hk]
  simp only
  unfold mapKey
  rw [hk]
  simp [h2]
theorem MapS.made (P : Program) (K : TypeId) (w : World) : MapS P K (w.alloc (.map #[] 0)) w.heap.size (fun _ => none) :=
  ⟨.map [], World.ownsMap_made w P K RV, fun kl h => by simp [Maps.has] at h, fun x => Or.inl ⟨rfl, rfl⟩⟩
theorem MapS.lt {P : Program} {K b : Nat} {w : World} {f : List UInt8 → Option Value} (h : MapS P K w b f) : b < w.heap.size := by
  obtain ⟨D, h, _⟩ := h
  exact h.lt
theorem MapS.of_block {P : Program} {K b : Nat} {w w' : World} {f : List UInt8 → Option Value} (h : MapS P K w b f) (he : w'.heap[b]? = w.heap[b]?) : MapS P K w' b f := by
  obtain ⟨D, ⟨es, clock, hb, r⟩, r2⟩ := h
  exact ⟨D, ⟨es, clock, he.trans hb, r⟩, r2⟩
theorem MapS.below {P : Program} {K b : Nat} {w w' : World} {f : List UInt8 → Option Value} (h : MapS P K w b f) (hb : Below w.heap.size w w') : MapS P K w' b f := h.of_block (hb.block b h.lt)
theorem MapS.congr {P : Program} {K b : Nat} {w : World} {f g : List UInt8 → Option Value} (h : MapS P K w b f) (e : ∀ x, f x = g x) : MapS P K w b g := by
  have : f = g := funext e
  subst this
  exact h
/-- as many as there are keys -/
theorem mapS_size {P : Program} {K b n : Nat} {w : World} {f : List UInt8 → Option Value} {D : DataW Value} (law : Keyed P K) (h1 : w.ownsMap P K RV b n D) (h2 : ∀ kl, Maps.has D kl = true → ∃ d, kl = .string d)
    (h3 : ∀ d, (Maps.has D (.string d) = false ∧ f d = none) ∨ ∃ v, f d = some v ∧ Maps.has D (.string d) = true ∧ ∀ z, D.atKey (.string d) z = .held v) {LK : List (List UInt8)} (hn : LK.Nodup) (hl : ∀ d, d ∈ LK ↔ (f d).isSome = true) : Maps.size D = LK.length := by
  have hh : ∀ d, Maps.has D (.string d) = true ↔ d ∈ LK := fun d => by
    rw [hl]
    rcases h3 d with ⟨q1, q2⟩ | ⟨v, q1, q2, _⟩
    · rw [q1, q2]; simp
    · rw [q1, q2]; simp
  obtain ⟨es, rfl, hp⟩ := h1.tidy law
  have hk : ∀ p ∈ es, ∃ d, p.1 = .string d ∧ d ∈ LK := fun p hp1 => by
    have q : Maps.has (.map es) p.1 = true := by
      rw [Maps.has_eq, List.any_eq_true]
      refine ⟨p, hp1, WideAt.sameKey_self ?_⟩
      obtain ⟨es', hD, _, hl⟩ := h1.canon law
      simp at hD
      subst hD
      exact hl p hp1
    obtain ⟨d, e⟩ := h2 _ q
    rw [e] at q
    exact ⟨d, e, (hh d).1 q⟩
  let g : Lit × DataW Value → List UInt8 := fun p => match p.1 with | .string d => d | _ => []
  have k1 : (es.map g).Nodup := by
    rw [List.Nodup, List.pairwise_map]
    refine hp.imp_of_mem ?_
    intro a b ha hb hne e
    obtain ⟨x, hx, _⟩ := hk a ha
    obtain ⟨y, hy, _⟩ := hk b hb
    apply hne
    have e' : x = y := by simpa [g, hx, hy] using e
    rw [hx, hy, e']
  have k2 : List.Perm (es.map g) LK := by
    refine (List.perm_ext_iff_of_nodup k1 hn).2 fun d => ?_
    rw [List.mem_map]
    constructor
    · rintro ⟨p, hp1, rfl⟩
      obtain ⟨x, hx, hm⟩ := hk p hp1
      have : g p = x := by simp [g, hx]
      rw [this]; exact hm
    · intro hd
      have q := (hh d).2 hd
      rw [Maps.has_eq, List.any_eq_true] at q
      obtain ⟨p, hp1, q2⟩ := q
      obtain ⟨x, hx, hm⟩ := hk p hp1
      refine ⟨p, hp1, ?_⟩
      have e : g p = x := by simp [g, hx]
      rw [e]
      have q3 : p.1.sameKey (.string d) = true := q2
      rw [hx] at q3
      by_cases w : x = d
      · exact w
      · rw [Maps.sameKey_ne (fun k => w (by simpa using k))] at q3
        cases q3
  have := k2.length_eq
  rw [List.length_map] at this
  exact this
/-- 'v, ok := m[k]' -/
theorem MapS.look_ok {P : Program} {K b t e : Nat} {w : World} {f : List UInt8 → Option Value} (h : MapS P K w b f) (law : Keyed P K) (ht : P.underlying t = some (.map K e)) {z : Value} (hz : (zeroValue e).run P w = .ok z w) {x : List UInt8} (hk : keyOf P K (strV x) = some (.string x)) :
    (Instr.lookup t (.map (some b)) (strV x) true).run P w = .ok (.tuple #[(f x).getD z, .bool (f x).isSome]) w := by
  obtain ⟨D, h1, h2, h3⟩ := h
  obtain ⟨v, ps, hr, hv⟩ := h1.look_ok law ht hz (zd := .held z) (zp := []) rfl hk
  rw [hr]
  have hv' := RV_inv hv
  rcases h3 x with ⟨hh, e⟩ | ⟨u, e, hh, ha⟩
  · rw [Maps.atKey_of_not_has hh] at hv'
    simp at hv'
    rw [e, hh, hv']
    rfl
  · rw [ha] at hv'
    simp at hv'
    rw [e, hh, hv']
    rfl
/-- 'm[k]' -/
theorem MapS.look {P : Program} {K b t e : Nat} {w : World} {f : List UInt8 → Option Value} (h : MapS P K w b f) (law : Keyed P K) (ht : P.underlying t = some (.map K e)) {z : Value} (hz : (zeroValue e).run P w = .ok z w) {x : List UInt8} (hk : keyOf P K (strV x) = some (.string x)) :
    (Instr.lookup t (.map (some b)) (strV x) false).run P w = .ok ((f x).getD z) w := by
  obtain ⟨D, h1, h2, h3⟩ := h
  obtain ⟨v, ps, hr, hv⟩ := h1.lookup law ht hz (zd := .held z) (zp := []) rfl hk
  rw [hr]
  have hv' := RV_inv hv
  rcases h3 x with ⟨hh, e⟩ | ⟨u, e, hh, ha⟩
  · rw [Maps.atKey_of_not_has hh] at hv'
    simp at hv'
    rw [e, hv']
    rfl
  · rw [ha] at hv'
    simp at hv'
    rw [e, hv']
    rfl
/-- 'len(m)' -/
theorem MapS.len {P : Program} {K b t e : Nat} {w : World} {f : List UInt8 → Option Value} (h : MapS P K w b f) (law : Keyed P K) (ht : P.underlying t = some (.map K e)) (ty : TypeId) {LK : List (List UInt8)} (hn : LK.Nodup) (hl : ∀ d, d ∈ LK ↔ (f d).isSome = true) :
    (Builtin.len_ #[t] ty #[.map (some b)]).run P w = .ok (.int .i64 (LK.length : Nat)) w := by
  obtain ⟨D, h1, h2, h3⟩ := h
  rw [h1.len ht ty, mapS_size law h1 h2 h3 hn hl]
def putS (f : List UInt8 → Option Value) (x : List UInt8) (v : Value) (y : List UInt8) : Option Value := if y = x then some v else f y
def delS (f : List UInt8 → Option Value) (x : List UInt8) (y : List UInt8) : Option Value := if y = x then none else f y
/-- 'm[k] = v' -/
theorem MapS.store {P : Program} {K b t e : Nat} {w : World} {f : List UInt8 → Option Value} (h : MapS P K w b f) (law : Keyed P K) (ht : P.underlying t = some (.map K e)) {LK : List (List UInt8)} (hn : LK.Nodup) (hl : ∀ d, d ∈ LK ↔ (f d).isSome = true) (hS : LK.length < maxLen) {x : List UInt8} (hk : keyOf P K (strV x) = some (.string x)) (v : Value) :
    ∃ w', (Instr.mapUpdate t (.map (some b)) (strV x) v).run P w = .ok () w' ∧ MapS P K w' b (putS f x v) ∧ w.mapTurned w' b := by
  obtain ⟨D, h1, h2, h3⟩ := h
  obtain ⟨w', hr, ho, hm⟩ := h1.store law ht (by rw [mapS_size law h1 h2 h3 hn hl]; exact hS) (val := v) (d := .held v) (ps := []) hk rfl
  refine ⟨w', hr, ⟨_, own_tight ho, fun kl hh => ?_, fun y => ?_⟩, hm⟩
  · by_cases e : kl = .string x
    · exact ⟨x, e⟩
    · rw [Maps.has_put_other e] at hh
      exact h2 kl hh
  · unfold putS
    by_cases e : y = x
    · subst e
      exact Or.inr ⟨v, if_pos rfl, Maps.has_put_same h1.isMap (law.key hk) _, fun z => Maps.atKey_put_same h1.isMap (law.key hk) _ z⟩
    · have hne : Lit.string y ≠ .string x := fun h => e (by simpa using h)
      rw [if_neg e, Maps.has_put_other hne]
      rcases h3 y with h | ⟨u, a1, a2, a3⟩
      · exact Or.inl h
      · exact Or.inr ⟨u, a1, a2, fun z => by rw [Maps.atKey_put_other hne]; exact a3 z⟩
/-- 'delete(m, k)' -/
theorem MapS.drop {P : Program} {K b t e : Nat} {w : World} {f : List UInt8 → Option Value} (h : MapS P K w b f) (law : Keyed P K) (ht : P.underlying t = some (.map K e)) {x : List UInt8} (hk : keyOf P K (strV x) = some (.string x)) (ty : TypeId) :
    ∃ w', (Builtin.delete_ #[t, K] ty #[.map (some b), strV x]).run P w = .ok (.tuple #[]) w' ∧ MapS P K w' b (delS f x) ∧ w.mapTurned w' b := by
  obtain ⟨D, h1, h2, h3⟩ := h
  obtain ⟨w', hr, ho, hm⟩ := h1.drop law ht hk ty
  refine ⟨w', hr, ⟨_, own_tight ho, fun kl hh => ?_, fun y => ?_⟩, hm⟩
  · by_cases e : kl = .string x
    · subst e
      rw [Maps.has_del_same] at hh
      cases hh
    · rw [Maps.has_del_other e] at hh
      exact h2 kl hh
  · unfold delS
    by_cases e : y = x
    · subst e
      exact Or.inl ⟨Maps.has_del_same, if_pos rfl⟩
    · have hne : Lit.string y ≠ .string x := fun h => e (by simpa using h)
      rw [if_neg e, Maps.has_del_other hne]
      rcases h3 y with h | ⟨u, a1, a2, a3⟩
      · exact Or.inl h
      · exact Or.inr ⟨u, a1, a2, fun z => by rw [Maps.atKey_del_other hne]; exact a3 z⟩
end Go.Proofs.Ytndlfmofjmieaaa.Gf
