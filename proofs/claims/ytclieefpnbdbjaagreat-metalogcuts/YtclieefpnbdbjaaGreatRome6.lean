/- TEXTS JOINED: BcC, MpI. -/
import Derived.Laws.CopyOwn
import Derived.Deep.AppendLies
import Derived.Lib.SliceRun
import Derived.Test.YtclieefpnbdbjaaGreatRome1
import Derived.Maps.OwnSet
import Derived.Maps.Ext
namespace Go.Proofs.YtclieefpnbdbjaaGreat.Gf
set_option linter.unusedVariables false
set_option linter.unusedSimpArgs false
open Go.RowKit
theorem own_new12 (w : World) (e : TypeId) : (w.alloc (.cells #[] e)).ownsRow w.heap.size e 1 (.slice (some ⟨w.heap.size, 0, none⟩) 0 0) 0 [] := World.ownsRow_made w #[] 0 (Nat.le_refl _) (Nat.zero_le _) rfl
set_option maxRecDepth 100000 in
theorem bclone_own {p : List UInt8} {w : World} {a : Addr} {c : Nat} (hp : Rd w (.slice (some a) p.length c) p) (hl : p.length ≤ 100000) : Calls Tryz.prog 151 #[.slice (some a) p.length c] w fun e w' => ∃ v, e = .returned v ∧ w'.ownsRow w.heap.size 5 1 v p.length (p.map vb) ∧ Below w.heap.size w w' := by
  obtain ⟨i0, hi, hz0, hz1, hz2⟩ := info_parts info_u8
  have qT : ∀ (w : World) (a : Option Addr) (n c n' c' : Nat), (binOp .eql 42 (.slice a n c) (.slice none n' c')).run Tryz.prog w = .ok (.bool a.isNone) w := fun w a n c n' c' => Lib.run_eql_slice_nil w _ _ a n c n' c' Tryz.underlying42
  have B1 : Below w.heap.size w (w.alloc (.cells #[] 5)) := (Below.refl _ _).alloc (Nat.le_refl _) _
  have O1 : (w.alloc (.cells #[] 5)).ownsRow w.heap.size 5 1 (.slice (some ⟨w.heap.size, 0, none⟩) 0 0) 0 [] := own_new12 w _
  have hp1 := hp.below B1
  have hsz : w.heap.size ≤ (w.alloc (.cells #[] 5)).heap.size := B1.size
  go_enter Tryz.func151, Tryz.ntmps151
  go_wp2_with (at_builtin; go_loud (refine wpList_append_rd _ rfl (.tmp 5) (.tmp 6) 42 rfl w.heap.size 5 i0 Tryz.underlying42 hi hz0 hz1 hz2 (.slice (some ⟨w.heap.size, 0, none⟩) 0 0) 0 [] rfl O1 (.slice (some a) p.length c) p rfl hp1 (by omega) hsz ?_); intro v' w9 hv9 hg9)
  have HB : Hid (Below w.heap.size w w9) := B1.grown hg9 hsz (fun q hq => by cases hq; exact Nat.le_refl _)
  have HO : Hid (w9.ownsRow w.heap.size 5 1 v' p.length (p.map vb)) := by
    show w9.ownsRow _ _ _ _ _ _
    rw [Nat.zero_add, List.nil_append] at hv9
    exact hv9
  clear hv9 hg9 B1 O1 hp1 hp qT
  go_wp2
  go_ret
  exact ⟨v', rfl, HO.out, HB.out⟩
theorem bclone_nil {w : World} : Calls Tryz.prog 151 #[.slice none 0 0] w fun e w' => e = .returned (.slice none 0 0) ∧ w' = w := by
  have qT : ∀ (w : World) (a : Option Addr) (n c n' c' : Nat), (binOp .eql 42 (.slice a n c) (.slice none n' c')).run Tryz.prog w = .ok (.bool a.isNone) w := fun w a n c n' c' => Lib.run_eql_slice_nil w _ _ a n c n' c' Tryz.underlying42
  go_enter Tryz.func151, Tryz.ntmps151
  go_wp2
  go_ret
  exact ⟨rfl, rfl⟩
end Go.Proofs.YtclieefpnbdbjaaGreat.Gf

namespace Go.Proofs.YtclieefpnbdbjaaGreat.Gf
set_option linter.unusedVariables false
set_option linter.unusedSimpArgs false
open Go.RowKit
open Go.Maps (Keyed)
open Go.ChangeMaps Go.MapKept
/-- an element reads as itself -/
def RV (v : Value) : Option (DataW Value × List MemPlace) := some (.held v, [])
theorem RV_inv {v : Value} {d : DataW Value} {ps : List MemPlace} (h : RV v = some (d, ps)) : d = .held v := by
  unfold RV at h
  simp at h
  exact h.1.symm
def MapI (P : Program) (K : TypeId) (w : World) (b S : Nat) (f : Int → Option Value) : Prop :=
  ∃ D, w.ownsMap P K RV b S D ∧ (∀ kl, Maps.has D kl = true → ∃ x : Int, kl = .int .i64 x ∧ 0 ≤ x ∧ x < (S : Int)) ∧
    (∀ x : Int, (Maps.has D (.int .i64 x) = false ∧ f x = none) ∨ ∃ v, f x = some v ∧ Maps.has D (.int .i64 x) = true ∧ ∀ z, D.atKey (.int .i64 x) z = .held v)
/-- no more numbers than there are -/
theorem pigeon : ∀ (S : Nat) (l : List Nat), l.Nodup → (∀ x ∈ l, x < S) → l.length ≤ S
  | 0, l, _, h => by
    cases l with
    | nil => exact Nat.le_refl _
    | cons a l => have := h a (by simp); omega
  | S + 1, l, hn, h => by
    have h1 := pigeon S (l.erase S) (hn.erase S) (fun x hx => by
      have hx1 := h x (List.mem_of_mem_erase hx)
      have hx2 : x ≠ S := fun e => by
        subst e
        exact (List.Nodup.not_mem_erase hn) hx
      omega)
    have h2 := List.length_erase (l := l) (a := S)
    split at h2 <;> omega
theorem own_tight {P : Program} {K b n : Nat} {w : World} {R : Value → Option (DataW Value × List MemPlace)} {D : DataW Value} (h : w.ownsMap P K R b n D) : w.ownsMap P K R b (Maps.size D) D := by
  obtain ⟨es, clock, hb, F, hs, rfl⟩ := h
  refine ⟨es, clock, hb, F, ?_, rfl⟩
  simp [Maps.size, length_sorted]
theorem tight_S {P : Program} {K b n S : Nat} {w : World} {D : DataW Value} (law : Keyed P K) (h : w.ownsMap P K RV b n D) (hk : ∀ kl, Maps.has D kl = true → ∃ x : Int, kl = .int .i64 x ∧ 0 ≤ x ∧ x < (S : Int)) : w.ownsMap P K RV b S D := by
  refine (own_tight h).mono ?_
  obtain ⟨es, rfl, hp⟩ := h.tidy law
  have hin : ∀ p ∈ es, ∃ x : Int, p.1 = .int .i64 x ∧ 0 ≤ x ∧ x < (S : Int) := by
    intro p hp1
    refine hk p.1 ?_
    rw [Maps.has_eq, List.any_eq_true]
    refine ⟨p, hp1, WideAt.sameKey_self ?_⟩
    obtain ⟨es', hD, _, hl⟩ := h.canon law
    simp at hD
    subst hD
    exact hl p hp1
  let g : Lit × DataW Value → Nat := fun p => match p.1 with | .int _ x => x.toNat | _ => 0
  have h1 : (es.map g).Nodup := by
    rw [List.Nodup, List.pairwise_map]
    refine hp.imp_of_mem ?_
    intro a b ha hb hne e
    obtain ⟨x, hx, hx0, _⟩ := hin a ha
    obtain ⟨y, hy, hy0, _⟩ := hin b hb
    apply hne
    have e' : x.toNat = y.toNat := by simpa [g, hx, hy] using e
    rw [hx, hy]
    congr 1
    omega
  have h2 := pigeon S (es.map g) h1 (by
    intro n hn
    obtain ⟨p, hp1, rfl⟩ := List.mem_map.1 hn
    obtain ⟨x, hx, hx0, hxS⟩ := hin p hp1
    simp only [g, hx]
    omega)
  rw [List.length_map] at h2
  exact h2
theorem MapI.made (P : Program) (K : TypeId) (w : World) (S : Nat) : MapI P K (w.alloc (.map #[] 0)) w.heap.size S (fun _ => none) :=
  ⟨.map [], (World.ownsMap_made w P K RV).mono (Nat.zero_le _), fun kl h => by simp [Maps.has] at h, fun x => Or.inl ⟨rfl, rfl⟩⟩
theorem MapI.lt {P : Program} {K b S : Nat} {w : World} {f : Int → Option Value} (h : MapI P K w b S f) : b < w.heap.size := by
  obtain ⟨D, h, _⟩ := h
  exact h.lt
theorem MapI.of_block {P : Program} {K b S : Nat} {w w' : World} {f : Int → Option Value} (h : MapI P K w b S f) (he : w'.heap[b]? = w.heap[b]?) : MapI P K w' b S f := by
  obtain ⟨D, ⟨es, clock, hb, r⟩, r2⟩ := h
  exact ⟨D, ⟨es, clock, he.trans hb, r⟩, r2⟩
theorem MapI.below {P : Program} {K b S : Nat} {w w' : World} {f : Int → Option Value} (h : MapI P K w b S f) (hb : Below w.heap.size w w') : MapI P K w' b S f := h.of_block (hb.block b h.lt)
theorem MapI.congr {P : Program} {K b S : Nat} {w : World} {f g : Int → Option Value} (h : MapI P K w b S f) (e : ∀ x, f x = g x) : MapI P K w b S g := by
  have : f = g := funext e
  subst this
  exact h
/-- 'v, ok := m[k]' -/
theorem MapI.look_ok {P : Program} {K b S t e : Nat} {w : World} {f : Int → Option Value} (h : MapI P K w b S f) (law : Keyed P K) (ht : P.underlying t = some (.map K e)) {z : Value} (hz : (zeroValue e).run P w = .ok z w) {x : Int} (hk : keyOf P K (.int .i64 x) = some (.int .i64 x)) :
    (Instr.lookup t (.map (some b)) (.int .i64 x) true).run P w = .ok (.tuple #[(f x).getD z, .bool (f x).isSome]) w := by
  obtain ⟨D, h1, h2, h3⟩ := h
  obtain ⟨v, ps, hr, hv⟩ := h1.look_ok law ht hz (zd := .held z) (zp := []) rfl hk
  rw [hr]
  have hv' := RV_inv hv
  rcases h3 x with ⟨hh, e⟩ | ⟨u, e, hh, ha⟩
  · rw [Maps.atKey_of_not_has hh] at hv'
    simp at hv'
    rw [e, hh, hv']
    rfl
  · rw [ha] at hv'
    simp at hv'
    rw [e, hh, hv']
    rfl
/-- 'm[k]' -/
theorem MapI.look {P : Program} {K b S t e : Nat} {w : World} {f : Int → Option Value} (h : MapI P K w b S f) (law : Keyed P K) (ht : P.underlying t = some (.map K e)) {z : Value} (hz : (zeroValue e).run P w = .ok z w) {x : Int} (hk : keyOf P K (.int .i64 x) = some (.int .i64 x)) :
    (Instr.lookup t (.map (some b)) (.int .i64 x) false).run P w = .ok ((f x).getD z) w := by
  obtain ⟨D, h1, h2, h3⟩ := h
  obtain ⟨v, ps, hr, hv⟩ := h1.lookup law ht hz (zd := .held z) (zp := []) rfl hk
  rw [hr]
  have hv' := RV_inv hv
  rcases h3 x with ⟨hh, e⟩ | ⟨u, e, hh, ha⟩
  · rw [Maps.atKey_of_not_has hh] at hv'
    simp at hv'
    rw [e, hv']
    rfl
  · rw [ha] at hv'
    simp at hv'
    rw [e, hv']
    rfl
def putI (f : Int → Option Value) (x : Int) (v : Value) (y : Int) : Option Value := if y = x then some v else f y
def delI (f : Int → Option Value) (x : Int) (y : Int) : Option Value := if y = x then none else f y
/-- 'm[k] = v' -/
theorem MapI.store {P : Program} {K b S t e : Nat} {w : World} {f : Int → Option Value} (h : MapI P K w b S f) (law : Keyed P K) (ht : P.underlying t = some (.map K e)) (hS : S < maxLen) {x : Int} (hk : keyOf P K (.int .i64 x) = some (.int .i64 x)) (h0 : 0 ≤ x) (hx : x < (S : Int)) (v : Value) :
    ∃ w', (Instr.mapUpdate t (.map (some b)) (.int .i64 x) v).run P w = .ok () w' ∧ MapI P K w' b S (putI f x v) ∧ w.mapTurned w' b := by
  obtain ⟨D, h1, h2, h3⟩ := h
  obtain ⟨w', hr, ho, hm⟩ := h1.store law ht hS (val := v) (d := .held v) (ps := []) hk rfl
  have hk2 : ∀ kl, Maps.has (D.put (.int .i64 x) (.held v)) kl = true → ∃ y : Int, kl = .int .i64 y ∧ 0 ≤ y ∧ y < (S : Int) := by
    intro kl hh
    by_cases e : kl = .int .i64 x
    · exact ⟨x, e, h0, hx⟩
    · rw [Maps.has_put_other e] at hh
      exact h2 kl hh
  refine ⟨w', hr, ⟨_, tight_S law ho hk2, hk2, fun y => ?_⟩, hm⟩
  unfold putI
  by_cases e : y = x
  · subst e
    exact Or.inr ⟨v, if_pos rfl, Maps.has_put_same h1.isMap (show WideAt.IsKeyLit (.int .i64 y) from trivial) _, fun z => Maps.atKey_put_same h1.isMap (show WideAt.IsKeyLit (.int .i64 y) from trivial) _ z⟩
  · have hne : Lit.int .i64 y ≠ .int .i64 x := fun h => e (by simpa using h)
    rw [if_neg e, Maps.has_put_other hne]
    rcases h3 y with h | ⟨u, a1, a2, a3⟩
    · exact Or.inl h
    · exact Or.inr ⟨u, a1, a2, fun z => by rw [Maps.atKey_put_other hne]; exact a3 z⟩
/-- 'delete(m, k)' -/
theorem MapI.drop {P : Program} {K b S t e : Nat} {w : World} {f : Int → Option Value} (h : MapI P K w b S f) (law : Keyed P K) (ht : P.underlying t = some (.map K e)) {x : Int} (hk : keyOf P K (.int .i64 x) = some (.int .i64 x)) (ty : TypeId) :
    ∃ w', (Builtin.delete_ #[t, K] ty #[.map (some b), .int .i64 x]).run P w = .ok (.tuple #[]) w' ∧ MapI P K w' b S (delI f x) ∧ w.mapTurned w' b := by
  obtain ⟨D, h1, h2, h3⟩ := h
  obtain ⟨w', hr, ho, hm⟩ := h1.drop law ht hk ty
  refine ⟨w', hr, ⟨_, ho, fun kl hh => ?_, fun y => ?_⟩, hm⟩
  · by_cases e : kl = .int .i64 x
    · subst e
      rw [Maps.has_del_same] at hh
      cases hh
    · rw [Maps.has_del_other e] at hh
      exact h2 kl hh
  · unfold delI
    by_cases e : y = x
    · subst e
      exact Or.inl ⟨Maps.has_del_same, if_pos rfl⟩
    · have hne : Lit.int .i64 y ≠ .int .i64 x := fun h => e (by simpa using h)
      rw [if_neg e, Maps.has_del_other hne]
      rcases h3 y with h | ⟨u, a1, a2, a3⟩
      · exact Or.inl h
      · exact Or.inr ⟨u, a1, a2, fun z => by rw [Maps.atKey_del_other hne]; exact a3 z⟩
/-- 'clear(m)' -/
theorem MapI.clear {P : Program} {K b S t e : Nat} {w : World} {f : Int → Option Value} (h : MapI P K w b S f) (ht : P.underlying t = some (.map K e)) (ty : TypeId) :
    ∃ w', (Builtin.clear_ #[t] ty #[.map (some b)]).run P w = .ok (.tuple #[]) w' ∧ MapI P K w' b S (fun _ => none) ∧ w.mapTurned w' b := by
  obtain ⟨D, ⟨es, clock, hb, F, hs, rfl⟩, h2, h3⟩ := h
  refine ⟨setBlock w b (.map #[] clock), ?_, ⟨.map [], ⟨#[], clock, heap_setBlock_same hb _, ⟨by simp, stamped_empty _, by simp⟩, Nat.zero_le _, rfl⟩, fun kl h => by simp [Maps.has] at h, fun x => Or.inl ⟨rfl, rfl⟩⟩, ⟨es, clock, #[], clock, hb, rfl⟩⟩
  simp [Builtin.clear_, run_underlying ht, MapKept.run_getObj_map hb, MapKept.run_setObj_map _ hb, Result.andThen, setBlock]
theorem mapTurned_block {w w' : World} {b c : Nat} (h : w.mapTurned w' b) (hc : c ≠ b) : w'.heap[c]? = w.heap[c]? := by
  obtain ⟨es, clock, es', clock', hb, rfl⟩ := h
  exact heap_setBlock_other hb _ hc
end Go.Proofs.YtclieefpnbdbjaaGreat.Gf
