/- TEXTS JOINED: DkTurn, MpI, DkAt, PoAppend, BcC, DkCA, DkSe, DkCB. -/
import Derived.Test.YtpijncnpicgjeaaTome2
import Derived.Test.YtpijncnpicgjeaaTome1
import Derived.Maps.OwnSet
import Derived.Maps.Ext
import Derived.Laws.AppendOwnNone
import Derived.Lib.SliceRun
import Derived.Deep.RegionHeld3
/-
  WORLDS IN WHICH SOME BLOCKS (those of which a predicate holds) HAVE TURNED, AND OTHERS WERE LAID. No program's function is named here.
-/

namespace Go.Proofs.Ytpijncnpicgjeaa.Gf
set_option linter.unusedVariables false
set_option linter.unusedSimpArgs false
open Go.RowKit

structure TurnG (G : Nat → Prop) (w w' : World) : Prop where
  os : w'.os = w.os
  tape : w'.tape = w.tape
  output : w'.output = w.output
  size : w.heap.size ≤ w'.heap.size
  block : ∀ k, k < w.heap.size → ¬ G k → w'.heap[k]? = w.heap[k]?
theorem TurnG.refl (G : Nat → Prop) (w : World) : TurnG G w w := ⟨rfl, rfl, rfl, Nat.le_refl _, fun _ _ _ => rfl⟩
theorem TurnG.trans {G : Nat → Prop} {a b c : World} (h : TurnG G a b) (k : TurnG G b c) : TurnG G a c :=
  ⟨k.os.trans h.os, k.tape.trans h.tape, k.output.trans h.output, Nat.le_trans h.size k.size, fun i hi hg => (k.block i (Nat.lt_of_lt_of_le hi h.size) hg).trans (h.block i hi hg)⟩
theorem Below.turnG {w w' : World} (h : Below w.heap.size w w') (G : Nat → Prop) : TurnG G w w' := ⟨h.os, h.tape, h.output, h.size, fun k hk _ => h.block k hk⟩
theorem Only.turnG {g : Nat} {G : Nat → Prop} {w w' : World} (h : Only g w w') (hg : G g) : TurnG G w w' :=
  ⟨h.os, h.tape, h.output, by rw [h.size]; exact Nat.le_refl _, fun k _ hk => h.block k (fun e => hk (by rw [e]; exact hg))⟩
theorem TurnG.drewN {G : Nat → Prop} {a w : World} (h : TurnG G a w) (n : Nat) : TurnG G a (w.drewN n) := ⟨h.os, h.tape, h.output, h.size, h.block⟩
theorem TurnG.drew {G : Nat → Prop} {a w : World} (h : TurnG G a w) : TurnG G a w.drew := ⟨h.os, h.tape, h.output, h.size, h.block⟩
theorem TurnG.below {G : Nat → Prop} {B : Nat} {w w' : World} (h : TurnG G w w') (hg : ∀ g, G g → B ≤ g) (hB : B ≤ w.heap.size) : Below B w w' :=
  ⟨h.os, h.tape, h.output, h.size, fun k hk => h.block k (by omega) (fun e => by have := hg k e; omega)⟩
theorem TurnG.cell {G : Nat → Prop} {w w' : World} (h : TurnG G w w') {p : Addr} (hs : p.block < w.heap.size) (hp : ¬ G p.block) : w'.cell? p = w.cell? p := World.cell?_of_block (w := w) (h.block p.block hs hp)
theorem TurnG.frozen {G : Nat → Prop} {w w' : World} (h : TurnG G w w') {p : Addr} (hs : p.block < w.heap.size) (hp : ¬ G p.block) : w'.frozen? p = w.frozen? p := World.frozen?_of_block (w := w) (h.block p.block hs hp)

/-- one disk's blocks: only they have turned, and those that came to them are new -/
structure Grew (G : Nat → Prop) (w : World) (G' : Nat → Prop) (w' : World) : Prop where
  turn : TurnG G w w'
  grow : ∀ k, G' k → G k ∨ w.heap.size ≤ k
theorem Grew.refl (G : Nat → Prop) (w : World) : Grew G w G w := ⟨TurnG.refl G w, fun _ h => Or.inl h⟩
theorem Grew.trans {G G' G'' : Nat → Prop} {a b c : World} (h : Grew G a G' b) (k : Grew G' b G'' c) : Grew G a G'' c :=
  ⟨⟨k.turn.os.trans h.turn.os, k.turn.tape.trans h.turn.tape, k.turn.output.trans h.turn.output, Nat.le_trans h.turn.size k.turn.size, fun i hi hg =>
    (k.turn.block i (Nat.lt_of_lt_of_le hi h.turn.size) (fun e => (h.grow i e).elim hg (fun h1 => by omega))).trans (h.turn.block i hi hg)⟩,
   fun i hi => by
    rcases k.grow i hi with h1 | h1
    · exact h.grow i h1
    · exact Or.inr (Nat.le_trans h.turn.size h1)⟩
theorem Grew.of_turn {G : Nat → Prop} {w w' : World} (h : TurnG G w w') : Grew G w G w' := ⟨h, fun _ h => Or.inl h⟩
theorem Grew.of_below {G : Nat → Prop} {w w' : World} (h : Below w.heap.size w w') : Grew G w G w' := Grew.of_turn (Below.turnG h G)
theorem Grew.base {G G' : Nat → Prop} {w w' : World} {B : Nat} (h : Grew G w G' w') (hg : ∀ k, G k → B ≤ k) (hB : B ≤ w.heap.size) : ∀ k, G' k → B ≤ k := fun k hk => by
  rcases h.grow k hk with h1 | h1
  · exact hg k h1
  · omega
theorem Grew.below {G G' : Nat → Prop} {w w' : World} {B : Nat} (h : Grew G w G' w') (hg : ∀ k, G k → B ≤ k) (hB : B ≤ w.heap.size) : Below B w w' := h.turn.below hg hB
theorem Grew.off {G G' : Nat → Prop} {w w' : World} (h : Grew G w G' w') {k : Nat} (hk : k < w.heap.size) (hg : ¬ G k) : ¬ G' k := fun e => by
  rcases h.grow k e with h1 | h1
  · exact hg h1
  · omega

/-- a slice that lies in none of the blocks -/
def ApartG (G : Nat → Prop) (v : Value) : Prop := ∀ x n c, v = .slice (some x) n c → n = 0 ∨ ¬ G x.block
theorem Rd.turnG {G : Nat → Prop} {w w' : World} {v : Value} {p : List UInt8} (h : Rd w v p) (ha : ApartG G v) (ho : TurnG G w w') : Rd w' v p := by
  rcases h with h | ⟨b, off, cap, h1, h2, h3, h4, h5, h6⟩
  · exact Or.inl h
  · have hb : ¬ G b := by
      rcases ha _ _ _ h2 with e | e
      · exact absurd (List.length_eq_zero_iff.1 e) h1
      · exact e
    exact Or.inr ⟨b, off, cap, h1, h2, h3, h4, Nat.lt_of_lt_of_le h5 ho.size, fun i hi => (ho.cell (p := ⟨b, off + i, none⟩) h5 hb).trans (h6 i hi)⟩
theorem Rd.lay {w : World} {v : Value} {p : List UInt8} (h : Rd w v p) {x : Addr} {n c : Nat} (e : v = .slice (some x) n c) : n = 0 ∨ x.block < w.heap.size := by
  rcases h with ⟨a, c', _, e2, _⟩ | ⟨b, off, cap, h1, h2, h3, h4, h5, h6⟩
  · subst e2; simp at e; exact Or.inl e.2.1.symm
  · subst h2; simp at e; obtain ⟨rfl, rfl, rfl⟩ := e; exact Or.inr h5
/-- it stays apart -/
theorem ApartG.grew {G G' : Nat → Prop} {w w' : World} {v : Value} {p : List UInt8} (ha : ApartG G v) (h : Rd w v p) (g : Grew G w G' w') : ApartG G' v := by
  intro x n c e
  rcases ha x n c e with h1 | h1
  · exact Or.inl h1
  · rcases h.lay e with h2 | h2
    · exact Or.inl h2
    · exact Or.inr (g.off h2 h1)
theorem Rd.grew {G G' : Nat → Prop} {w w' : World} {v : Value} {p : List UInt8} (h : Rd w v p) (ha : ApartG G v) (g : Grew G w G' w') : Rd w' v p := h.turnG ha g.turn
/-- one that was there before the blocks were laid -/
theorem Rd.apartG {w : World} {v : Value} {p : List UInt8} {G : Nat → Prop} (h : Rd w v p) (hg : ∀ g, G g → w.heap.size ≤ g) : ApartG G v := by
  intro x n c e
  rcases h.lay e with h2 | h2
  · exact Or.inl h2
  · exact Or.inr (fun h => by have := hg _ h; omega)
/-- one that was laid behind them -/
theorem ApartG.own {w : World} {base e n : Nat} {v : Value} {xs : List Value} {G : Nat → Prop} (h : w.ownsRow base e 1 v n xs) (hg : ∀ g, G g → g < base) : ApartG G v := by
  intro x m c ev
  obtain ⟨_, ⟨hv, hn⟩ | ⟨g, cap, cur, hv, hgb, _⟩⟩ := h
  · rw [hv] at ev; simp at ev
  · rw [hv] at ev
    simp at ev
    obtain ⟨rfl, _, _⟩ := ev
    exact Or.inr (fun h => by have := hg g h; omega)
theorem ApartG.nil (G : Nat → Prop) (c : Nat) (a : Option Addr) : ApartG G (.slice a 0 c) := fun x n c' e => by simp at e; exact Or.inl e.2.1.symm
theorem owns_block {w w' : World} {base e size n : Nat} {v : Value} {xs : List Value} (h : w.ownsRow base e size v n xs) (hb : ∀ g, v.ownBlock = some g → w'.heap[g]? = w.heap[g]?) : w'.ownsRow base e size v n xs := by
  obtain ⟨h0, h | ⟨g, cap, cur, hv, hg, hh, r⟩⟩ := h
  · exact ⟨h0, Or.inl h⟩
  · refine ⟨h0, Or.inr ⟨g, cap, cur, hv, hg, ?_, r⟩⟩
    rw [hb g (by rw [hv]; rfl)]
    exact hh
theorem owns_at {w : World} {base e size n b o c : Nat} {xs : List Value} (h : w.ownsRow base e size (.slice (some ⟨b, o, none⟩) n c) n xs) : base ≤ b ∧ b < w.heap.size := by
  obtain ⟨h0, h | ⟨g, cap, cur, hv, hg, hh, r⟩⟩ := h
  · simp at h
  · simp at hv
    obtain ⟨⟨rfl, _⟩, _⟩ := hv
    exact ⟨hg, (Array.getElem?_eq_some_iff.1 hh).1⟩

end Go.Proofs.Ytpijncnpicgjeaa.Gf

/-
  MAPS KEYED BY INTEGERS, WHATEVER THEIR ELEMENTS: 'MapI P K w b S f': block b is a map, its keys are 0 to S - 1 at most, and f tells what stands at each. No program's function is named here.
-/


namespace Go.Proofs.Ytpijncnpicgjeaa.Gf
set_option linter.unusedVariables false
set_option linter.unusedSimpArgs false
open Go.RowKit
open Go.Maps (Keyed)
open Go.ChangeMaps Go.MapKept

/-- an element reads as itself -/
def RV (v : Value) : Option (DataW Value × List MemPlace) := some (.held v, [])
theorem RV_inv {v : Value} {d : DataW Value} {ps : List MemPlace} (h : RV v = some (d, ps)) : d = .held v := by
  unfold RV at h
  simp at h
  exact h.1.symm

def MapI (P : Program) (K : TypeId) (w : World) (b S : Nat) (f : Int → Option Value) : Prop :=
  ∃ D, w.ownsMap P K RV b S D ∧ (∀ kl, Maps.has D kl = true → ∃ x : Int, kl = .int .i64 x ∧ 0 ≤ x ∧ x < (S : Int)) ∧
    (∀ x : Int, (Maps.has D (.int .i64 x) = false ∧ f x = none) ∨ ∃ v, f x = some v ∧ Maps.has D (.int .i64 x) = true ∧ ∀ z, D.atKey (.int .i64 x) z = .held v)

/-- no more numbers than there are -/
theorem pigeon : ∀ (S : Nat) (l : List Nat), l.Nodup → (∀ x ∈ l, x < S) → l.length ≤ S
  | 0, l, _, h => by
    cases l with
    | nil => exact Nat.le_refl _
    | cons a l => have := h a (by simp); omega
  | S + 1, l, hn, h => by
    have h1 := pigeon S (l.erase S) (hn.erase S) (fun x hx => by
      have hx1 := h x (List.mem_of_mem_erase hx)
      have hx2 : x ≠ S := fun e => by
        subst e
        exact (List.Nodup.not_mem_erase hn) hx
      omega)
    have h2 := List.length_erase (l := l) (a := S)
    split at h2 <;> omega

theorem own_tight {P : Program} {K b n : Nat} {w : World} {R : Value → Option (DataW Value × List MemPlace)} {D : DataW Value} (h : w.ownsMap P K R b n D) : w.ownsMap P K R b (Maps.size D) D := by
  obtain ⟨es, clock, hb, F, hs, rfl⟩ := h
  refine ⟨es, clock, hb, F, ?_, rfl⟩
  simp [Maps.size, length_sorted]

theorem tight_S {P : Program} {K b n S : Nat} {w : World} {D : DataW Value} (law : Keyed P K) (h : w.ownsMap P K RV b n D) (hk : ∀ kl, Maps.has D kl = true → ∃ x : Int, kl = .int .i64 x ∧ 0 ≤ x ∧ x < (S : Int)) : w.ownsMap P K RV b S D := by
  refine (own_tight h).mono ?_
  obtain ⟨es, rfl, hp⟩ := h.tidy law
  have hin : ∀ p ∈ es, ∃ x : Int, p.1 = .int .i64 x ∧ 0 ≤ x ∧ x < (S : Int) := by
    intro p hp1
    refine hk p.1 ?_
    rw [Maps.has_eq, List.any_eq_true]
    refine ⟨p, hp1, WideAt.sameKey_self ?_⟩
    obtain ⟨es', hD, _, hl⟩ := h.canon law
    simp at hD
    subst hD
    exact hl p hp1
  let g : Lit × DataW Value → Nat := fun p => match p.1 with | .int _ x => x.toNat | _ => 0
  have h1 : (es.map g).Nodup := by
    rw [List.Nodup, List.pairwise_map]
    refine hp.imp_of_mem ?_
    intro a b ha hb hne e
    obtain ⟨x, hx, hx0, _⟩ := hin a ha
    obtain ⟨y, hy, hy0, _⟩ := hin b hb
    apply hne
    have e' : x.toNat = y.toNat := by simpa [g, hx, hy] using e
    rw [hx, hy]
    congr 1
    omega
  have h2 := pigeon S (es.map g) h1 (by
    intro n hn
    obtain ⟨p, hp1, rfl⟩ := List.mem_map.1 hn
    obtain ⟨x, hx, hx0, hxS⟩ := hin p hp1
    simp only [g, hx]
    omega)
  rw [List.length_map] at h2
  exact h2

theorem MapI.made (P : Program) (K : TypeId) (w : World) (S : Nat) : MapI P K (w.alloc (.map #[] 0)) w.heap.size S (fun _ => none) :=
  ⟨.map [], (World.ownsMap_made w P K RV).mono (Nat.zero_le _), fun kl h => by simp [Maps.has] at h, fun x => Or.inl ⟨rfl, rfl⟩⟩
theorem MapI.lt {P : Program} {K b S : Nat} {w : World} {f : Int → Option Value} (h : MapI P K w b S f) : b < w.heap.size := by
  obtain ⟨D, h, _⟩ := h
  exact h.lt
theorem MapI.of_block {P : Program} {K b S : Nat} {w w' : World} {f : Int → Option Value} (h : MapI P K w b S f) (he : w'.heap[b]? = w.heap[b]?) : MapI P K w' b S f := by
  obtain ⟨D, ⟨es, clock, hb, r⟩, r2⟩ := h
  exact ⟨D, ⟨es, clock, he.trans hb, r⟩, r2⟩
theorem MapI.below {P : Program} {K b S : Nat} {w w' : World} {f : Int → Option Value} (h : MapI P K w b S f) (hb : Below w.heap.size w w') : MapI P K w' b S f := h.of_block (hb.block b h.lt)
theorem MapI.congr {P : Program} {K b S : Nat} {w : World} {f g : Int → Option Value} (h : MapI P K w b S f) (e : ∀ x, f x = g x) : MapI P K w b S g := by
  have : f = g := funext e
  subst this
  exact h
/-- what is not there -/
theorem MapI.out {P : Program} {K b S : Nat} {w : World} {f : Int → Option Value} (h : MapI P K w b S f) {x : Int} (hx : ¬ (0 ≤ x ∧ x < (S : Int))) : f x = none := by
  obtain ⟨D, _, h2, h3⟩ := h
  rcases h3 x with ⟨_, e⟩ | ⟨v, _, hh, _⟩
  · exact e
  · obtain ⟨y, e, h4⟩ := h2 _ hh
    simp at e
    subst e
    exact absurd h4 hx

/-- 'v, ok := m[k]' -/
theorem MapI.look_ok {P : Program} {K b S t e : Nat} {w : World} {f : Int → Option Value} (h : MapI P K w b S f) (law : Keyed P K) (ht : P.underlying t = some (.map K e)) {z : Value} (hz : (zeroValue e).run P w = .ok z w) {x : Int} (hk : keyOf P K (.int .i64 x) = some (.int .i64 x)) :
    (Instr.lookup t (.map (some b)) (.int .i64 x) true).run P w = .ok (.tuple #[(f x).getD z, .bool (f x).isSome]) w := by
  obtain ⟨D, h1, h2, h3⟩ := h
  obtain ⟨v, ps, hr, hv⟩ := h1.look_ok law ht hz (zd := .held z) (zp := []) rfl hk
  rw [hr]
  have hv' := RV_inv hv
  rcases h3 x with ⟨hh, e⟩ | ⟨u, e, hh, ha⟩
  · rw [Maps.atKey_of_not_has hh] at hv'
    simp at hv'
    rw [e, hh, hv']
    rfl
  · rw [ha] at hv'
    simp at hv'
    rw [e, hh, hv']
    rfl
/-- 'm[k]' -/
theorem MapI.look {P : Program} {K b S t e : Nat} {w : World} {f : Int → Option Value} (h : MapI P K w b S f) (law : Keyed P K) (ht : P.underlying t = some (.map K e)) {z : Value} (hz : (zeroValue e).run P w = .ok z w) {x : Int} (hk : keyOf P K (.int .i64 x) = some (.int .i64 x)) :
    (Instr.lookup t (.map (some b)) (.int .i64 x) false).run P w = .ok ((f x).getD z) w := by
  obtain ⟨D, h1, h2, h3⟩ := h
  obtain ⟨v, ps, hr, hv⟩ := h1.lookup law ht hz (zd := .held z) (zp := []) rfl hk
  rw [hr]
  have hv' := RV_inv hv
  rcases h3 x with ⟨hh, e⟩ | ⟨u, e, hh, ha⟩
  · rw [Maps.atKey_of_not_has hh] at hv'
    simp at hv'
    rw [e, hv']
    rfl
  · rw [ha] at hv'
    simp at hv'
    rw [e, hv']
    rfl
def putI (f : Int → Option Value) (x : Int) (v : Value) (y : Int) : Option Value := if y = x then some v else f y
def delI (f : Int → Option Value) (x : Int) (y : Int) : Option Value := if y = x then none else f y
/-- 'm[k] = v' -/
theorem MapI.store {P : Program} {K b S t e : Nat} {w : World} {f : Int → Option Value} (h : MapI P K w b S f) (law : Keyed P K) (ht : P.underlying t = some (.map K e)) (hS : S < maxLen) {x : Int} (hk : keyOf P K (.int .i64 x) = some (.int .i64 x)) (h0 : 0 ≤ x) (hx : x < (S : Int)) (v : Value) :
    ∃ w', (Instr.mapUpdate t (.map (some b)) (.int .i64 x) v).run P w = .ok () w' ∧ MapI P K w' b S (putI f x v) ∧ w.mapTurned w' b := by
  obtain ⟨D, h1, h2, h3⟩ := h
  obtain ⟨w', hr, ho, hm⟩ := h1.store law ht hS (val := v) (d := .held v) (ps := []) hk rfl
  have hk2 : ∀ kl, Maps.has (D.put (.int .i64 x) (.held v)) kl = true → ∃ y : Int, kl = .int .i64 y ∧ 0 ≤ y ∧ y < (S : Int) := by
    intro kl hh
    by_cases e : kl = .int .i64 x
    · exact ⟨x, e, h0, hx⟩
    · rw [Maps.has_put_other e] at hh
      exact h2 kl hh
  refine ⟨w', hr, ⟨_, tight_S law ho hk2, hk2, fun y => ?_⟩, hm⟩
  unfold putI
  by_cases e : y = x
  · subst e
    exact Or.inr ⟨v, if_pos rfl, Maps.has_put_same h1.isMap (show WideAt.IsKeyLit (.int .i64 y) from trivial) _, fun z => Maps.atKey_put_same h1.isMap (show WideAt.IsKeyLit (.int .i64 y) from trivial) _ z⟩
  · have hne : Lit.int .i64 y ≠ .int .i64 x := fun h => e (by simpa using h)
    rw [if_neg e, Maps.has_put_other hne]
    rcases h3 y with h | ⟨u, a1, a2, a3⟩
    · exact Or.inl h
    · exact Or.inr ⟨u, a1, a2, fun z => by rw [Maps.atKey_put_other hne]; exact a3 z⟩
/-- 'delete(m, k)' -/
theorem MapI.drop {P : Program} {K b S t e : Nat} {w : World} {f : Int → Option Value} (h : MapI P K w b S f) (law : Keyed P K) (ht : P.underlying t = some (.map K e)) {x : Int} (hk : keyOf P K (.int .i64 x) = some (.int .i64 x)) (ty : TypeId) :
    ∃ w', (Builtin.delete_ #[t, K] ty #[.map (some b), .int .i64 x]).run P w = .ok (.tuple #[]) w' ∧ MapI P K w' b S (delI f x) ∧ w.mapTurned w' b := by
  obtain ⟨D, h1, h2, h3⟩ := h
  obtain ⟨w', hr, ho, hm⟩ := h1.drop law ht hk ty
  refine ⟨w', hr, ⟨_, ho, fun kl hh => ?_, fun y => ?_⟩, hm⟩
  · by_cases e : kl = .int .i64 x
    · subst e
      rw [Maps.has_del_same] at hh
      cases hh
    · rw [Maps.has_del_other e] at hh
      exact h2 kl hh
  · unfold delI
    by_cases e : y = x
    · subst e
      exact Or.inl ⟨Maps.has_del_same, if_pos rfl⟩
    · have hne : Lit.int .i64 y ≠ .int .i64 x := fun h => e (by simpa using h)
      rw [if_neg e, Maps.has_del_other hne]
      rcases h3 y with h | ⟨u, a1, a2, a3⟩
      · exact Or.inl h
      · exact Or.inr ⟨u, a1, a2, fun z => by rw [Maps.atKey_del_other hne]; exact a3 z⟩
/-- 'clear(m)' -/
theorem MapI.clear {P : Program} {K b S t e : Nat} {w : World} {f : Int → Option Value} (h : MapI P K w b S f) (ht : P.underlying t = some (.map K e)) (ty : TypeId) :
    ∃ w', (Builtin.clear_ #[t] ty #[.map (some b)]).run P w = .ok (.tuple #[]) w' ∧ MapI P K w' b S (fun _ => none) ∧ w.mapTurned w' b := by
  obtain ⟨D, ⟨es, clock, hb, F, hs, rfl⟩, h2, h3⟩ := h
  refine ⟨setBlock w b (.map #[] clock), ?_, ⟨.map [], ⟨#[], clock, heap_setBlock_same hb _, ⟨by simp, stamped_empty _, by simp⟩, Nat.zero_le _, rfl⟩, fun kl h => by simp [Maps.has] at h, fun x => Or.inl ⟨rfl, rfl⟩⟩, ⟨es, clock, #[], clock, hb, rfl⟩⟩
  simp [Builtin.clear_, run_underlying ht, MapKept.run_getObj_map hb, MapKept.run_setObj_map _ hb, Result.andThen, setBlock]
theorem mapTurned_block {w w' : World} {b c : Nat} (h : w.mapTurned w' b) (hc : c ≠ b) : w'.heap[c]? = w.heap[c]? := by
  obtain ⟨es, clock, es', clock', hb, rfl⟩ := h
  exact heap_setBlock_other hb _ hc

end Go.Proofs.Ytpijncnpicgjeaa.Gf

/-
  A DISK OF THE PROGRAM IN MEMORY (package disk): its four cells, its two maps, the bytes of each sector in a block of their own: 'DkIn w db lb wb B C G d'; 'DiskAt w db G d'.
-/


namespace Go.Proofs.Ytpijncnpicgjeaa.Gf
set_option linter.unusedVariables false
set_option linter.unusedSimpArgs false
open Go.RowKit
open Go.Maps (Keyed)
open Go.ChangeMaps Go.MapKept

/-- a side of a disk: what waits (true), or what lasts -/
def sideD (d : DkS) (q : Bool) : Int → Option (List UInt8) := if q = true then d.wait else d.last
def setD (d : DkS) (q : Bool) (f : Int → Option (List UInt8)) : DkS := if q = true then { d with wait := f } else { d with last := f }
theorem setD_s (d : DkS) (q : Bool) (f : Int → Option (List UInt8)) : (setD d q f).s = d.s := by cases q <;> rfl
theorem setD_dead (d : DkS) (q : Bool) (f : Int → Option (List UInt8)) : (setD d q f).dead = d.dead := by cases q <;> rfl
theorem side_set (d : DkS) (q : Bool) (f : Int → Option (List UInt8)) : sideD (setD d q f) q = f := by cases q <;> rfl
theorem side_other (d : DkS) {q r : Bool} (h : r ≠ q) (f : Int → Option (List UInt8)) : sideD (setD d q f) r = sideD d r := by cases q <;> cases r <;> first | rfl | exact absurd rfl h
def valI (f : Int → Option (List UInt8)) (B C : Int → Nat) (x : Int) : Option Value := (f x).map fun p => .slice (some ⟨B x, 0, none⟩) p.length (C x)
def delB (f : Int → Option (List UInt8)) (x : Int) : Int → Option (List UInt8) := fun y => if y = x then none else f y
def updQ (B : Bool → Int → Nat) (q : Bool) (a : Int) (g : Nat) : Bool → Int → Nat := fun r x => if r = q ∧ x = a then g else B r x
theorem updQ_at (B : Bool → Int → Nat) (q : Bool) (a : Int) (g : Nat) : updQ B q a g q a = g := if_pos ⟨rfl, rfl⟩
theorem updQ_ne (B : Bool → Int → Nat) {q r : Bool} {a x : Int} (h : ¬ (r = q ∧ x = a)) (g : Nat) : updQ B q a g r x = B r x := if_neg h
theorem valI_put (f : Int → Option (List UInt8)) (B C : Bool → Int → Nat) (q : Bool) (a : Int) (g c : Nat) (p : List UInt8) (x : Int) :
    valI (putB f a p) (updQ B q a g q) (updQ C q a c q) x = putI (valI f (B q) (C q)) a (.slice (some ⟨g, 0, none⟩) p.length c) x := by
  unfold valI putB putI
  by_cases h : x = a
  · subst h
    rw [if_pos rfl, if_pos rfl, updQ_at, updQ_at]
    rfl
  · rw [if_neg h, if_neg h, updQ_ne B (fun e => h e.2), updQ_ne C (fun e => h e.2)]
theorem valI_other (f : Int → Option (List UInt8)) (B C : Bool → Int → Nat) {q r : Bool} (h : r ≠ q) (a : Int) (g c : Nat) (x : Int) : valI f (updQ B q a g r) (updQ C q a c r) x = valI f (B r) (C r) x := by
  unfold valI
  rw [updQ_ne B (fun e => h e.1), updQ_ne C (fun e => h e.1)]
theorem valI_del (f : Int → Option (List UInt8)) (B C : Int → Nat) (a x : Int) : valI (delB f a) B C x = delI (valI f B C) a x := by
  unfold valI delB delI
  by_cases h : x = a
  · rw [if_pos h, if_pos h]; rfl
  · rw [if_neg h, if_neg h]

structure DkM (w : World) (db : Nat) (mb : Bool → Nat) (B C : Bool → Int → Nat) (G : Nat → Prop) (d : DkS) : Prop where
  c0 : w.cell? ⟨db, 0, none⟩ = some (.int .i64 (d.s : Int))
  c1 : w.cell? ⟨db, 1, none⟩ = some (.bool d.dead)
  c2 : w.cell? ⟨db, 2, none⟩ = some (.map (some (mb false)))
  c3 : w.cell? ⟨db, 3, none⟩ = some (.map (some (mb true)))
  fz : w.frozen? ⟨db, 1, none⟩ = false
  mp : ∀ q, MapI Try.prog 3 w (mb q) d.s (valI (sideD d q) (B q) (C q))
  row : ∀ q x p, sideD d q x = some p → w.ownsRow 0 5 1 (.slice (some ⟨B q x, 0, none⟩) p.length (C q x)) p.length (p.map vb)
  gd : G db
  gm : ∀ q, G (mb q)
  gb : ∀ q x p, sideD d q x = some p → G (B q x)
  lt : ∀ k, G k → k < w.heap.size
  lw : mb false ≠ mb true
  ins : ∀ q, InS d.s (sideD d q)
  s1 : 1 ≤ d.s
  s2 : d.s ≤ 4096
def InjD (d : DkS) (B : Bool → Int → Nat) : Prop := ∀ q x p r y p', sideD d q x = some p → sideD d r y = some p' → B q x = B r y → q = r ∧ x = y
def DkIn (w : World) (db : Nat) (mb : Bool → Nat) (B C : Bool → Int → Nat) (G : Nat → Prop) (d : DkS) : Prop := DkM w db mb B C G d ∧ InjD d B ∧ d.Ok
def DiskAt (w : World) (db : Nat) (G : Nat → Prop) (d : DkS) : Prop := ∃ mb B C, DkIn w db mb B C G d

theorem keyed_int : Keyed Try.prog 3 := Maps.int_keyed (q := .i64) (by kernel_rfl)
theorem under_map : Try.prog.underlying 90 = some (.map 3 32) := by kernel_rfl
theorem zero_bytes (w : World) : (zeroValue 32).run Try.prog w = .ok (.slice none 0 0) w := by kernel_rfl
theorem key_int {x : Int} (h : (Lit.int .i64 x).wf = true) : keyOf Try.prog 3 (.int .i64 x) = some (.int .i64 x) := by
  have : Try.prog.underlying 3 = some (.int .i64) := by kernel_rfl
  simp [keyOf, this, mapKey, h]

theorem MapI.isMap {P : Program} {K b S : Nat} {w : World} {f : Int → Option Value} (h : MapI P K w b S f) : ∃ es clock, w.heap[b]? = some (.map es clock) := by
  obtain ⟨D, ⟨es, clock, hb, _⟩, _⟩ := h
  exact ⟨es, clock, hb⟩
theorem MapI.noCell {P : Program} {K b S : Nat} {w : World} {f : Int → Option Value} (h : MapI P K w b S f) (o : Nat) : w.cell? ⟨b, o, none⟩ = none := by
  obtain ⟨es, clock, hb⟩ := h.isMap
  unfold World.cell?
  rw [hb]
theorem row_cells {w : World} {e g n c : Nat} {xs : List Value} (h : w.ownsRow 0 e 1 (.slice (some ⟨g, 0, none⟩) n c) n xs) : ∃ cur, w.heap[g]? = some (.cells cur e (0, 0)) := by
  obtain ⟨h0, h | ⟨g', cap, cur, hv, hg, hh, r⟩⟩ := h
  · simp at h
  · simp at hv
    obtain ⟨rfl, _⟩ := hv
    exact ⟨cur, hh⟩
section
variable {w w' : World} {db : Nat} {mb : Bool → Nat} {B C : Bool → Int → Nat} {G : Nat → Prop} {d : DkS}
theorem DkM.db_ne (h : DkM w db mb B C G d) (q : Bool) : db ≠ mb q := fun e => by
  have h1 := (h.mp q).noCell 0
  rw [← e, h.c0] at h1
  cases h1
theorem DkM.row_ne (h : DkM w db mb B C G d) {q : Bool} {x : Int} {p : List UInt8} (hp : sideD d q x = some p) (r : Bool) : B q x ≠ mb r := fun e => by
  obtain ⟨cur, h1⟩ := row_cells (h.row q x p hp)
  obtain ⟨es, clock, h2⟩ := (h.mp r).isMap
  rw [e, h2] at h1
  cases h1
theorem DkM.row_db (h : DkM w db mb B C G d) {q : Bool} {x : Int} {p : List UInt8} (hp : sideD d q x = some p) : B q x ≠ db := fun e => by
  have h1 := Rd.owned (h.row q x p hp)
  have h2 := h.ins q x p hp
  rcases h1 with ⟨_, _, h3, _⟩ | ⟨b, off, cap, h3, h4, _, _, _, h5⟩
  · rw [h3] at h2; simp at h2
  · have h6 := h5 0 (by omega)
    simp at h4
    obtain ⟨⟨rfl, rfl⟩, _⟩ := h4
    rw [e, Nat.add_zero, h.c0] at h6
    simp at h6
theorem DkM.mb_ne (h : DkM w db mb B C G d) {q r : Bool} (e : q ≠ r) : mb q ≠ mb r := by
  have := h.lw
  cases q <;> cases r <;> first | exact absurd rfl e | assumption | exact Ne.symm this
/-- blocks of the disk that have not turned -/
theorem DkM.keep (h : DkM w db mb B C G d) (hk : ∀ k, G k → w'.heap[k]? = w.heap[k]?) (hs : w.heap.size ≤ w'.heap.size) : DkM w' db mb B C G d where
  c0 := (World.cell?_of_block (w := w) (hk db h.gd)).trans h.c0
  c1 := (World.cell?_of_block (w := w) (hk db h.gd)).trans h.c1
  c2 := (World.cell?_of_block (w := w) (hk db h.gd)).trans h.c2
  c3 := (World.cell?_of_block (w := w) (hk db h.gd)).trans h.c3
  fz := (World.frozen?_of_block (w := w) (hk db h.gd)).trans h.fz
  mp := fun q => (h.mp q).of_block (hk _ (h.gm q))
  row := fun q x p hp => owns_block (h.row q x p hp) (fun g hg => by
    cases hg
    exact hk _ (h.gb q x p hp))
  gd := h.gd
  gm := h.gm
  gb := h.gb
  lt := fun k hk => Nat.lt_of_lt_of_le (h.lt k hk) hs
  lw := h.lw
  ins := h.ins
  s1 := h.s1
  s2 := h.s2
theorem DkM.below (h : DkM w db mb B C G d) (hb : Below w.heap.size w w') : DkM w' db mb B C G d := h.keep (fun k hk => hb.block k (h.lt k hk)) hb.size
theorem DiskAt.below (h : DiskAt w db G d) (hb : Below w.heap.size w w') : DiskAt w' db G d := by
  obtain ⟨mb, B, C, h1, h2, h3⟩ := h
  exact ⟨mb, B, C, h1.below hb, h2, h3⟩
theorem DiskAt.keep (h : DiskAt w db G d) (hk : ∀ k, G k → w'.heap[k]? = w.heap[k]?) (hs : w.heap.size ≤ w'.heap.size) : DiskAt w' db G d := by
  obtain ⟨mb, B, C, h1, h2, h3⟩ := h
  exact ⟨mb, B, C, h1.keep hk hs, h2, h3⟩
theorem DiskAt.ok (h : DiskAt w db G d) : d.Ok := by
  obtain ⟨mb, B, C, h1, h2, h3⟩ := h
  exact h3
theorem DiskAt.lt (h : DiskAt w db G d) : ∀ k, G k → k < w.heap.size := by
  obtain ⟨mb, B, C, h1, h2, h3⟩ := h
  exact h1.lt

theorem mapTurned_os {b : Nat} (h : w.mapTurned w' b) : w'.os = w.os ∧ w'.tape = w.tape ∧ w'.output = w.output ∧ w'.heap.size = w.heap.size := by
  obtain ⟨es, clock, es', clock', hb, rfl⟩ := h
  refine ⟨rfl, rfl, rfl, ?_⟩
  simp [setBlock]
theorem mapTurned_turnG {b : Nat} (h : w.mapTurned w' b) (hg : G b) : TurnG G w w' := by
  obtain ⟨h1, h2, h3, h4⟩ := mapTurned_os h
  exact ⟨h1, h2, h3, by rw [h4]; exact Nat.le_refl _, fun k _ hk => mapTurned_block h (fun e => hk (by rw [e]; exact hg))⟩
theorem InS.del {s : Nat} {f : Int → Option (List UInt8)} (h : InS s f) (x : Int) : InS s (delB f x) := by
  intro y b e
  unfold delB at e
  by_cases hy : y = x
  · rw [if_pos hy] at e; cases e
  · rw [if_neg hy] at e; exact h y b e

/-- a map of the disk has turned; its other parts stand -/
theorem DkM.turned (h : DkM w db mb B C G d) {q : Bool} (ht : w.mapTurned w' (mb q)) {B' C' : Bool → Int → Nat} {f : Int → Option (List UInt8)} (G' : Nat → Prop) (hG : ∀ k, G k → G' k) (hlt : ∀ k, G' k → k < w.heap.size)
    (hm : MapI Try.prog 3 w' (mb q) d.s (valI f (B' q) (C' q))) (hB : ∀ r, r ≠ q → ∀ x, B' r x = B r x) (hC : ∀ r, r ≠ q → ∀ x, C' r x = C r x) (hf : InS d.s f)
    (hr : ∀ x p, f x = some p → G' (B' q x) ∧ w.ownsRow 0 5 1 (.slice (some ⟨B' q x, 0, none⟩) p.length (C' q x)) p.length (p.map vb)) : DkM w' db mb B' C' G' (setD d q f) := by
  have hb : ∀ k, k ≠ mb q → w'.heap[k]? = w.heap[k]? := fun k hk => mapTurned_block ht hk
  have hs := (mapTurned_os ht).2.2.2
  have hdb := hb db (h.db_ne q)
  have hne : ∀ {g n c : Nat} {xs : List Value}, w.ownsRow 0 5 1 (.slice (some ⟨g, 0, none⟩) n c) n xs → g ≠ mb q := fun ho e => by
    obtain ⟨cur, h1⟩ := row_cells ho
    obtain ⟨es, clock, h2⟩ := (h.mp q).isMap
    rw [e, h2] at h1
    cases h1
  have rr : ∀ r x p, sideD (setD d q f) r x = some p → G' (B' r x) ∧ w.ownsRow 0 5 1 (.slice (some ⟨B' r x, 0, none⟩) p.length (C' r x)) p.length (p.map vb) := by
    intro r x p hp
    by_cases e : r = q
    · subst e
      rw [side_set] at hp
      exact hr x p hp
    · rw [side_other d e] at hp
      rw [hB r e, hC r e]
      exact ⟨hG _ (h.gb r x p hp), h.row r x p hp⟩
  refine ⟨?_, ?_, ?_, ?_, ?_, fun r => ?_, fun r x p hp => ?_, hG _ h.gd, fun r => hG _ (h.gm r), fun r x p hp => (rr r x p hp).1, fun k hk => by rw [hs]; exact hlt k hk, h.lw, fun r => ?_, ?_, ?_⟩
  · rw [setD_s]; exact (World.cell?_of_block (w := w) hdb).trans h.c0
  · rw [setD_dead]; exact (World.cell?_of_block (w := w) hdb).trans h.c1
  · exact (World.cell?_of_block (w := w) hdb).trans h.c2
  · exact (World.cell?_of_block (w := w) hdb).trans h.c3
  · exact (World.frozen?_of_block (w := w) hdb).trans h.fz
  · rw [setD_s]
    by_cases e : r = q
    · subst e
      rw [side_set]
      exact hm
    · rw [side_other d e, show B' r = B r from funext (hB r e), show C' r = C r from funext (hC r e)]
      exact (h.mp r).of_block (hb _ (h.mb_ne e))
  · have h1 := (rr r x p hp).2
    exact owns_block h1 (fun g hg => by
      cases hg
      exact hb _ (hne h1))
  · rw [setD_s]
    by_cases e : r = q
    · subst e; rw [side_set]; exact hf
    · rw [side_other d e]; exact h.ins r
  · rw [setD_s]; exact h.s1
  · rw [setD_s]; exact h.s2
/-- 'm[a] = bytes' -/
theorem DkM.put (h : DkM w db mb B C G d) (q : Bool) {a : Int} {p : List UInt8} {g c : Nat} (ha : (Lit.int .i64 a).wf = true) (h0 : 0 ≤ a) (h1 : a < (d.s : Int)) (hp : 1 ≤ p.length ∧ p.length ≤ 4108) (hr : w.ownsRow 0 5 1 (.slice (some ⟨g, 0, none⟩) p.length c) p.length (p.map vb)) :
    ∃ w', (Instr.mapUpdate 90 (.map (some (mb q))) (.int .i64 a) (.slice (some ⟨g, 0, none⟩) p.length c)).run Try.prog w = .ok () w' ∧ w.mapTurned w' (mb q) ∧ DkM w' db mb (updQ B q a g) (updQ C q a c) (fun k => G k ∨ k = g) (setD d q (putB (sideD d q) a p)) := by
  have hs2 := h.s2
  obtain ⟨w', hrun, hm, ht⟩ := (h.mp q).store keyed_int under_map (by unfold maxLen; omega) (key_int ha) h0 h1 (.slice (some ⟨g, 0, none⟩) p.length c)
  refine ⟨w', hrun, ht, h.turned ht _ (fun k => Or.inl) (fun k hk => ?_) (hm.congr fun x => (valI_put _ B C q a g c p x).symm) (fun r e x => updQ_ne B (fun h => e h.1) g) (fun r e x => updQ_ne C (fun h => e h.1) c) ((h.ins q).put h0 h1 hp.1 hp.2) (fun x p' hx => ?_)⟩
  · rcases hk with hk | rfl
    · exact h.lt k hk
    · exact (owns_at hr).2
  · unfold putB at hx
    by_cases e : x = a
    · subst e
      rw [if_pos rfl] at hx
      cases hx
      rw [updQ_at, updQ_at]
      exact ⟨Or.inr rfl, hr⟩
    · rw [if_neg e] at hx
      rw [updQ_ne B (fun h => e h.2), updQ_ne C (fun h => e h.2)]
      exact ⟨Or.inl (h.gb q x p' hx), h.row q x p' hx⟩
/-- 'delete(m, a)' -/
theorem DkM.del (h : DkM w db mb B C G d) (q : Bool) {a : Int} (ha : (Lit.int .i64 a).wf = true) (ty : TypeId) :
    ∃ w', (Builtin.delete_ #[90, 3] ty #[.map (some (mb q)), .int .i64 a]).run Try.prog w = .ok (.tuple #[]) w' ∧ w.mapTurned w' (mb q) ∧ DkM w' db mb B C G (setD d q (delB (sideD d q) a)) := by
  obtain ⟨w', hrun, hm, ht⟩ := (h.mp q).drop keyed_int under_map (key_int ha) ty
  refine ⟨w', hrun, ht, h.turned ht G (fun k => id) h.lt (hm.congr fun x => (valI_del _ (B q) (C q) a x).symm) (fun r e x => rfl) (fun r e x => rfl) ((h.ins q).del a) (fun x p' hx => ?_)⟩
  unfold delB at hx
  by_cases e : x = a
  · rw [if_pos e] at hx; cases hx
  · rw [if_neg e] at hx
    exact ⟨h.gb q x p' hx, h.row q x p' hx⟩
/-- 'clear(m)' -/
theorem DkM.clear (h : DkM w db mb B C G d) (q : Bool) (ty : TypeId) :
    ∃ w', (Builtin.clear_ #[90] ty #[.map (some (mb q))]).run Try.prog w = .ok (.tuple #[]) w' ∧ w.mapTurned w' (mb q) ∧ DkM w' db mb B C G (setD d q noneI) := by
  obtain ⟨w', hrun, hm, ht⟩ := (h.mp q).clear under_map ty
  exact ⟨w', hrun, ht, h.turned ht G (fun k => id) h.lt (hm.congr fun x => rfl) (fun r e x => rfl) (fun r e x => rfl) (InS.none _) (fun x p' hx => by cases hx)⟩
/-- 'v, ok := m[a]' -/
theorem DkM.look_ok (h : DkM w db mb B C G d) (q : Bool) {a : Int} (ha : (Lit.int .i64 a).wf = true) :
    (Instr.lookup 90 (.map (some (mb q))) (.int .i64 a) true).run Try.prog w = .ok (.tuple #[(valI (sideD d q) (B q) (C q) a).getD (.slice none 0 0), .bool (valI (sideD d q) (B q) (C q) a).isSome]) w :=
  (h.mp q).look_ok keyed_int under_map (zero_bytes w) (key_int ha)
theorem DkM.look (h : DkM w db mb B C G d) (q : Bool) {a : Int} (ha : (Lit.int .i64 a).wf = true) :
    (Instr.lookup 90 (.map (some (mb q))) (.int .i64 a) false).run Try.prog w = .ok ((valI (sideD d q) (B q) (C q) a).getD (.slice none 0 0)) w :=
  (h.mp q).look keyed_int under_map (zero_bytes w) (key_int ha)
end

end Go.Proofs.Ytpijncnpicgjeaa.Gf

/-
  A LAW ON A BUILTIN: 'append(s, p...)', s a row of the call's own, p whatever slice of bytes (nil, empty, or not): the bytes of p behind those of s. Made of the library's laws on append; no program's function is named here.
-/

namespace Go.Proofs.Ytpijncnpicgjeaa.Gf
set_option linter.unusedVariables false
set_option linter.unusedSimpArgs false
open Go.RowKit

theorem wpList_append_rd {P : Program} (w : World) {ops : Array Oper} {rest : List Oper} {o : Oper} {a : Act} {Q : Exit → Act → World → Prop} (hgd : o.guard = none) (s x : Operand) (t : TypeId)
    (ho : o.op = .call { callee := .builtin .append, args := #[s, x], argTypes := #[t, t] })
    (base : Nat) (e : TypeId) (i : TypeInfo) (ht : P.underlying t = some (.slice e)) (hi : P.info? e = some i) (hz : i.zero = some (.int .u8 0)) (hsize : i.size = 1) (hby : i.bytes = 1)
    (v : Value) (n : Nat) (xs : List Value) (hs : a.eval s = v) (hown : w.ownsRow base e 1 v n xs) (va : Value) (p : List UInt8) (hx : a.eval x = va) (hr : Rd w va p) (hl : n + p.length ≤ 1000000) (hbase : base ≤ w.heap.size)
    (h : ∀ v' w', w'.ownsRow base e 1 v' (n + p.length) (xs ++ p.map vb) → w.grownBy w' v.ownBlock → wpList P ops Q rest (a.put o.dst v') w') : wpList P ops Q (o :: rest) a w := by
  rcases hr with ⟨ao, cap, rfl, rfl, hc, hn⟩ | ⟨b, off, cap, hp0, rfl, h1, h2, h3, hpc⟩
  · rcases ao with _ | ad
    · have := hn rfl
      subst this
      refine wpList_append_own_none hgd s x t ho base e i 1 ht hi v n xs hs hown hx ?_
      exact h v w (by simpa using hown) (World.grownBy.refl _ _)
    · refine wpList_append_own w hgd s x t ho base e i (.int .u8 0) 1 1 ht hi hz hsize hby rfl (by decide) v n xs hs hown ad 0 cap [] hx rfl (by intro j u hj; simp at hj) (by intro u hu; simp at hu) (by unfold maxLen; omega) (by omega) hbase ?_
      intro v' w' ho' hg' _
      exact h v' w' (by simpa using ho') hg'
  · refine wpList_append_own w hgd s x t ho base e i (.int .u8 0) 1 1 ht hi hz hsize hby rfl (by decide) v n xs hs hown ⟨b, off, none⟩ p.length cap ((p.take p.length).map vb) hx (by simp) (news_of hpc) (vb_one _) (by unfold maxLen; omega) (by omega) hbase ?_
    intro v' w' ho' hg' _
    exact h v' w' (by simpa using ho') hg'

end Go.Proofs.Ytpijncnpicgjeaa.Gf

/-
  'bytes.Clone' BY CONTRACT: a row of the call's own; of none none.
-/



namespace Go.Proofs.Ytpijncnpicgjeaa.Gf
set_option linter.unusedVariables false
set_option linter.unusedSimpArgs false
open Go.RowKit

theorem own_new12 (w : World) (e : TypeId) : (w.alloc (.cells #[] e)).ownsRow w.heap.size e 1 (.slice (some ⟨w.heap.size, 0, none⟩) 0 0) 0 [] := World.ownsRow_made w #[] 0 (Nat.le_refl _) (Nat.zero_le _) rfl
set_option maxRecDepth 100000 in
theorem bclone_own {p : List UInt8} {w : World} {a : Addr} {c : Nat} (hp : Rd w (.slice (some a) p.length c) p) (hl : p.length ≤ 100000) : Calls Try.prog 67 #[.slice (some a) p.length c] w fun e w' => ∃ v, e = .returned v ∧ w'.ownsRow w.heap.size 5 1 v p.length (p.map vb) ∧ Below w.heap.size w w' := by
  obtain ⟨i0, hi, hz0, hz1, hz2⟩ := info_parts info_u8
  have qT : ∀ (w : World) (a : Option Addr) (n c n' c' : Nat), (binOp .eql 32 (.slice a n c) (.slice none n' c')).run Try.prog w = .ok (.bool a.isNone) w := fun w a n c n' c' => Lib.run_eql_slice_nil w _ _ a n c n' c' Try.underlying32
  have B1 : Below w.heap.size w (w.alloc (.cells #[] 5)) := (Below.refl _ _).alloc (Nat.le_refl _) _
  have O1 : (w.alloc (.cells #[] 5)).ownsRow w.heap.size 5 1 (.slice (some ⟨w.heap.size, 0, none⟩) 0 0) 0 [] := own_new12 w _
  have hp1 := hp.below B1
  have hsz : w.heap.size ≤ (w.alloc (.cells #[] 5)).heap.size := B1.size
  go_enter Try.func67, Try.ntmps67
  go_wp2_with (at_builtin; go_loud (refine wpList_append_rd _ rfl (.tmp 5) (.tmp 6) 32 rfl w.heap.size 5 i0 Try.underlying32 hi hz0 hz1 hz2 (.slice (some ⟨w.heap.size, 0, none⟩) 0 0) 0 [] rfl O1 (.slice (some a) p.length c) p rfl hp1 (by omega) hsz ?_); intro v' w9 hv9 hg9)
  have HB : Hid (Below w.heap.size w w9) := B1.grown hg9 hsz (fun q hq => by cases hq; exact Nat.le_refl _)
  have HO : Hid (w9.ownsRow w.heap.size 5 1 v' p.length (p.map vb)) := by
    show w9.ownsRow _ _ _ _ _ _
    rw [Nat.zero_add, List.nil_append] at hv9
    exact hv9
  clear hv9 hg9 B1 O1 hp1 hp qT
  go_wp2
  go_ret
  exact ⟨v', rfl, HO.out, HB.out⟩
theorem bclone_nil {w : World} : Calls Try.prog 67 #[.slice none 0 0] w fun e w' => e = .returned (.slice none 0 0) ∧ w' = w := by
  have qT : ∀ (w : World) (a : Option Addr) (n c n' c' : Nat), (binOp .eql 32 (.slice a n c) (.slice none n' c')).run Try.prog w = .ok (.bool a.isNone) w := fun w a n c n' c' => Lib.run_eql_slice_nil w _ _ a n c n' c' Try.underlying32
  go_enter Try.func67, Try.ntmps67
  go_wp2
  go_ret
  exact ⟨rfl, rfl⟩
end Go.Proofs.Ytpijncnpicgjeaa.Gf

/-
  THE PROGRAM's DISK BY CONTRACT (package disk): its inner functions that make no memory: refusal, refusalAt, newest, settle, empty; Dead.
-/

namespace Go.Proofs.Ytpijncnpicgjeaa.Gf
set_option linter.unusedVariables false
set_option linter.unusedSimpArgs false
open Go.RowKit
open Go.Maps (Keyed)

theorem dref_any {w : World} {db : Nat} {x : Bool} (c1 : w.cell? ⟨db, 1, none⟩ = some (.bool x)) : Calls Try.prog 69 #[.pointer (some ⟨db, 0, none⟩)] w fun e w' => e = .returned (.int .i64 (if x = true then 120 else 0)) ∧ w' = w := by
  cases x
  · go_enter Try.func69, Try.ntmps69
    go_wp2
    go_ret
    exact ⟨rfl, rfl⟩
  · go_enter Try.func69, Try.ntmps69
    go_wp2
    go_ret
    exact ⟨rfl, rfl⟩
theorem dref_nil {w : World} : Calls Try.prog 69 #[.pointer none] w fun e w' => e = .returned (.int .i64 1) ∧ w' = w := by
  go_enter Try.func69, Try.ntmps69
  go_wp2
  go_ret
  exact ⟨rfl, rfl⟩
theorem drat_any {w : World} {db : Nat} {d : DkS} {a : Int} (c0 : w.cell? ⟨db, 0, none⟩ = some (.int .i64 (d.s : Int))) (c1 : w.cell? ⟨db, 1, none⟩ = some (.bool d.dead)) : Calls Try.prog 66 #[.pointer (some ⟨db, 0, none⟩), .int .i64 a] w fun e w' => e = .returned (.int .i64 (faX d a)) ∧ w' = w := by
  have K := @dref_any w db d.dead c1
  cases hd : d.dead with
  | true =>
    have e := faX_dead hd a
    rw [hd] at K
    simp only [if_true] at K
    rw [e]
    clear e
    go_enter Try.func66, Try.ntmps66
    go_wp2_with fail
    refine K.mono ?_
    rintro _ _ ⟨rfl, rfl⟩
    go_wp2
    go_ret
    exact ⟨rfl, rfl⟩
  | false =>
    rw [hd] at K
    simp only [Bool.false_eq_true, if_false] at K
    by_cases h0 : 0 ≤ a
    · have h0' : ¬ a < 0 := by omega
      by_cases h1 : a < (d.s : Int)
      · have e := faX_ok hd ⟨h0, h1⟩
        have h1' : ¬ a ≥ (d.s : Int) := by omega
        rw [e]
        clear e
        go_enter Try.func66, Try.ntmps66
        go_wp2_with fail
        refine K.mono ?_
        rintro _ _ ⟨rfl, rfl⟩
        go_wp2
        go_ret
        exact ⟨rfl, rfl⟩
      · have e := faX_out hd (a := a) (fun h => h1 h.2)
        have h1' : a ≥ (d.s : Int) := by omega
        rw [e]
        clear e
        go_enter Try.func66, Try.ntmps66
        go_wp2_with fail
        refine K.mono ?_
        rintro _ _ ⟨rfl, rfl⟩
        go_wp2
        go_ret
        exact ⟨rfl, rfl⟩
    · have e := faX_out hd (a := a) (fun h => h0 h.1)
      have h0' : a < 0 := by omega
      rw [e]
      clear e
      go_enter Try.func66, Try.ntmps66
      go_wp2_with fail
      refine K.mono ?_
      rintro _ _ ⟨rfl, rfl⟩
      go_wp2
      go_ret
      exact ⟨rfl, rfl⟩
theorem drat_nil {w : World} {a : Int} : Calls Try.prog 66 #[.pointer none, .int .i64 a] w fun e w' => e = .returned (.int .i64 1) ∧ w' = w := by
  have K := @dref_nil w
  go_enter Try.func66, Try.ntmps66
  go_wp2_with fail
  refine K.mono ?_
  rintro _ _ ⟨rfl, rfl⟩
  go_wp2
  go_ret
  exact ⟨rfl, rfl⟩
theorem ddead_any {w : World} {db : Nat} {x : Bool} (c1 : w.cell? ⟨db, 1, none⟩ = some (.bool x)) : Calls Try.prog 49 #[.pointer (some ⟨db, 0, none⟩)] w fun e w' => e = .returned (.bool x) ∧ w' = w := by
  go_enter Try.func49, Try.ntmps49
  go_wp2
  go_ret
  exact ⟨rfl, rfl⟩
theorem ddead_nil {w : World} : Calls Try.prog 49 #[.pointer none] w fun e w' => e = .returned (.bool false) ∧ w' = w := by
  go_enter Try.func49, Try.ntmps49
  go_wp2
  go_ret
  exact ⟨rfl, rfl⟩

/-- what Read tells of a place, in the disk's own memory -/
def newV (d : DkS) (B C : Bool → Int → Nat) (a : Int) : Value := match d.wait a with | some p => .slice (some ⟨B true a, 0, none⟩) p.length (C true a) | none => (valI d.last (B false) (C false) a).getD (.slice none 0 0)
section
variable {w : World} {db : Nat} {mb : Bool → Nat} {B C : Bool → Int → Nat} {G : Nat → Prop} {d : DkS}
theorem dnew_any (h : DkM w db mb B C G d) {a : Int} (ha : (Lit.int .i64 a).wf = true) : Calls Try.prog 68 #[.pointer (some ⟨db, 0, none⟩), .int .i64 a] w fun e w' => e = .returned (newV d B C a) ∧ w' = w := by
  have c2 := h.c2
  have c3 := h.c3
  have L1 := h.look_ok true ha
  have L2 := h.look false ha
  have e1 : sideD d true = d.wait := rfl
  have e2 : sideD d false = d.last := rfl
  rw [e1] at L1
  rw [e2] at L2
  clear e1 e2
  unfold newV
  cases hw : d.wait a with
  | some p =>
    have e3 : valI d.wait (B true) (C true) a = some (.slice (some ⟨B true a, 0, none⟩) p.length (C true a)) := by unfold valI; rw [hw]; rfl
    rw [e3] at L1
    simp only [Option.getD_some, Option.isSome_some] at L1
    clear e3 hw h ha
    go_enter Try.func68, Try.ntmps68
    go_wp2
    go_ret
    exact ⟨rfl, rfl⟩
  | none =>
    have e3 : valI d.wait (B true) (C true) a = none := by unfold valI; rw [hw]; rfl
    rw [e3] at L1
    simp only [Option.getD_none, Option.isSome_none] at L1
    clear e3 hw h ha
    obtain ⟨v, hv⟩ : ∃ v, v = (valI d.last (B false) (C false) a).getD (.slice none 0 0) := ⟨_, rfl⟩
    simp only
    rw [← hv] at L2 ⊢
    clear hv
    go_enter Try.func68, Try.ntmps68
    go_wp2
    go_ret
    exact ⟨rfl, rfl⟩
/-- what waits at a place lasts -/
def seS (d : DkS) (a : Int) (p : List UInt8) : DkS := { d with last := putB d.last a p, wait := delB d.wait a }
theorem dset_hit (h : DkM w db mb B C G d) {a : Int} (ha : (Lit.int .i64 a).wf = true) {p : List UInt8} (hp : d.wait a = some p) {w1 w2 : World}
    (r1 : (Instr.mapUpdate 90 (.map (some (mb false))) (.int .i64 a) (.slice (some ⟨B true a, 0, none⟩) p.length (C true a))).run Try.prog w = .ok () w1) (t1 : w.mapTurned w1 (mb false))
    (r2 : (Builtin.delete_ #[90, 3] 0 #[.map (some (mb true)), .int .i64 a]).run Try.prog w1 = .ok (.tuple #[]) w2) :
    Calls Try.prog 70 #[.pointer (some ⟨db, 0, none⟩), .int .i64 a] w fun e w' => e = .returned (.tuple #[]) ∧ w' = w2 := by
  have c2 := h.c2
  have c3 := h.c3
  have L1 := h.look_ok true ha
  have e1 : sideD d true = d.wait := rfl
  have e3 : valI d.wait (B true) (C true) a = some (.slice (some ⟨B true a, 0, none⟩) p.length (C true a)) := by unfold valI; rw [hp]; rfl
  rw [e1, e3] at L1
  simp only [Option.getD_some, Option.isSome_some] at L1
  have c3b := (World.cell?_of_block (w := w) (a := ⟨db, 3, none⟩) (mapTurned_block t1 (h.db_ne false))).trans h.c3
  clear e1 e3 hp h ha t1
  go_enter Try.func70, Try.ntmps70
  go_wp2
  go_end0
  exact ⟨rfl, rfl⟩
theorem dset_miss (h : DkM w db mb B C G d) {a : Int} (ha : (Lit.int .i64 a).wf = true) (hp : d.wait a = none) :
    Calls Try.prog 70 #[.pointer (some ⟨db, 0, none⟩), .int .i64 a] w fun e w' => e = .returned (.tuple #[]) ∧ w' = w := by
  have c2 := h.c2
  have c3 := h.c3
  have L1 := h.look_ok true ha
  have e1 : sideD d true = d.wait := rfl
  have e3 : valI d.wait (B true) (C true) a = none := by unfold valI; rw [hp]; rfl
  rw [e1, e3] at L1
  simp only [Option.getD_none, Option.isSome_none] at L1
  clear e1 e3 hp h ha
  go_enter Try.func70, Try.ntmps70
  go_wp2
  go_end0
  exact ⟨rfl, rfl⟩
theorem demp_any (h : DkM w db mb B C G d) {w1 w2 : World}
    (r1 : (Builtin.clear_ #[90] 0 #[.map (some (mb false))]).run Try.prog w = .ok (.tuple #[]) w1) (t1 : w.mapTurned w1 (mb false))
    (r2 : (Builtin.clear_ #[90] 0 #[.map (some (mb true))]).run Try.prog w1 = .ok (.tuple #[]) w2) :
    Calls Try.prog 72 #[.pointer (some ⟨db, 0, none⟩)] w fun e w' => e = .returned (.tuple #[]) ∧ w' = w2 := by
  have c2 := h.c2
  have c3 := h.c3
  have c3b := (World.cell?_of_block (w := w) (a := ⟨db, 3, none⟩) (mapTurned_block t1 (h.db_ne false))).trans h.c3
  clear h t1
  go_enter Try.func72, Try.ntmps72
  go_wp2
  go_end0
  exact ⟨rfl, rfl⟩
end
end Go.Proofs.Ytpijncnpicgjeaa.Gf

/-
  WHAT A DISK's MEMORY IS BEHIND A SECTOR THAT IS SETTLED, WRITTEN, CHANGED, BEHIND A CRASH, A FAILURE. (No program's function is named here.)
-/

namespace Go.Proofs.Ytpijncnpicgjeaa.Gf
set_option linter.unusedVariables false
set_option linter.unusedSimpArgs false
open Go.RowKit
open Go.Maps (Keyed)
open Go.ChangeMaps Go.MapKept

section
variable {w w' : World} {db : Nat} {mb : Bool → Nat} {B C : Bool → Int → Nat} {G : Nat → Prop} {d : DkS}
theorem DkM.reG (h : DkM w db mb B C G d) {G' : Nat → Prop} (h1 : ∀ k, G k → G' k) (h2 : ∀ k, G' k → k < w.heap.size) : DkM w db mb B C G' d :=
  ⟨h.c0, h.c1, h.c2, h.c3, h.fz, h.mp, h.row, h1 _ h.gd, fun q => h1 _ (h.gm q), fun q x p hp => h1 _ (h.gb q x p hp), h2, h.lw, h.ins, h.s1, h.s2⟩
theorem Ok.of_sides {e : DkS} (s1 : 1 ≤ e.s) (s2 : e.s ≤ 4096) (hi : ∀ q, InS e.s (sideD e q)) (hd : e.dead = true → e.last = noneI ∧ e.wait = noneI) : e.Ok :=
  ⟨s1, s2, hi false, hi true, fun h => (hd h).1, fun h => (hd h).2⟩
/-- 'settle' -/
theorem DkIn.settle (h : DkIn w db mb B C G d) {a : Int} (ha : (Lit.int .i64 a).wf = true) {p : List UInt8} (hp : d.wait a = some p) :
    ∃ w1 w2, (Instr.mapUpdate 90 (.map (some (mb false))) (.int .i64 a) (.slice (some ⟨B true a, 0, none⟩) p.length (C true a))).run Try.prog w = .ok () w1 ∧ w.mapTurned w1 (mb false) ∧
      (Builtin.delete_ #[90, 3] 0 #[.map (some (mb true)), .int .i64 a]).run Try.prog w1 = .ok (.tuple #[]) w2 ∧ w1.mapTurned w2 (mb true) ∧
      DkIn w2 db mb (updQ B false a (B true a)) (updQ C false a (C true a)) G (seS d a p) := by
  obtain ⟨hm, hi, ho⟩ := h
  have hb := ho.iw a p hp
  have hps : sideD d true a = some p := hp
  obtain ⟨w1, r1, t1, m1⟩ := hm.put false ha hb.1 hb.2.1 ⟨hb.2.2.1, hb.2.2.2⟩ (hm.row true a p hps)
  obtain ⟨w2, r2, t2, m2⟩ := m1.del true ha 0
  have e : setD (setD d false (putB (sideD d false) a p)) true (delB (sideD (setD d false (putB (sideD d false) a p)) true) a) = seS d a p := rfl
  rw [e] at m2
  have hg : G (B true a) := hm.gb true a p hps
  refine ⟨w1, w2, r1, t1, r2, t2, m2.reG (fun k hk => hk.elim id (fun e => by rw [e]; exact hg)) (fun k hk => m2.lt k (Or.inl hk)), ?_, ?_⟩
  · intro q x p1 r y p2 h1 h2 hB
    have key : ∀ q x p1, sideD (seS d a p) q x = some p1 → ∃ q' p', sideD d q' x = some p' ∧ updQ B false a (B true a) q x = B q' x ∧ ((q = false ∧ x = a ∧ q' = true) ∨ (¬ (q' = true ∧ x = a) ∧ q' = q)) := by
      intro q x p1 h1
      cases q with
      | false =>
        have h1' : putB d.last a p x = some p1 := h1
        unfold putB at h1'
        by_cases e : x = a
        · subst e
          exact ⟨true, p, hps, updQ_at B false x _, Or.inl ⟨rfl, rfl, rfl⟩⟩
        · rw [if_neg e] at h1'
          exact ⟨false, p1, h1', updQ_ne B (fun h => e h.2) _, Or.inr ⟨fun h => e h.2, rfl⟩⟩
      | true =>
        have h1' : delB d.wait a x = some p1 := h1
        unfold delB at h1'
        by_cases e : x = a
        · rw [if_pos e] at h1'; cases h1'
        · rw [if_neg e] at h1'
          exact ⟨true, p1, h1', updQ_ne B (fun h => e h.2) _, Or.inr ⟨fun h => e h.2, rfl⟩⟩
    obtain ⟨q', p1', k1, k2, k3⟩ := key q x p1 h1
    obtain ⟨r', p2', l1, l2, l3⟩ := key r y p2 h2
    rw [k2, l2] at hB
    obtain ⟨e1, e2⟩ := hi _ _ _ _ _ _ k1 l1 hB
    subst e1 e2
    refine ⟨?_, rfl⟩
    rcases k3 with ⟨a1, a2, a3⟩ | ⟨a1, a2⟩ <;> rcases l3 with ⟨b1, b2, b3⟩ | ⟨b1, b2⟩
    · rw [a1, b1]
    · exact absurd ⟨a3, a2⟩ b1
    · exact absurd ⟨b3, b2⟩ a1
    · rw [← a2, ← b2]
  · refine Ok.of_sides m2.s1 m2.s2 m2.ins (fun hd => ?_)
    have hd' : d.dead = true := hd
    rw [ho.dw hd'] at hp
    cases hp
/-- a sector is written -/
theorem DkIn.write (h : DkIn w db mb B C G d) {a : Int} (ha : (Lit.int .i64 a).wf = true) (hf : faX d a = 0) {p : List UInt8} (hp : OkB p) {g c : Nat} (hr : w.ownsRow 0 5 1 (.slice (some ⟨g, 0, none⟩) p.length c) p.length (p.map vb)) (hg : ¬ G g) :
    ∃ w', (Instr.mapUpdate 90 (.map (some (mb true))) (.int .i64 a) (.slice (some ⟨g, 0, none⟩) p.length c)).run Try.prog w = .ok () w' ∧ w.mapTurned w' (mb true) ∧
      DkIn w' db mb (updQ B true a g) (updQ C true a c) (fun k => G k ∨ k = g) (wrS d a p) := by
  obtain ⟨hm, hi, ho⟩ := h
  obtain ⟨f1, f2, f3⟩ := faX_zero hf
  obtain ⟨w1, r1, t1, m1⟩ := hm.put true ha f2 f3 hp hr
  have e : setD d true (putB (sideD d true) a p) = wrS d a p := by unfold wrS; rw [if_pos ⟨hf, hp⟩]; rfl
  rw [e] at m1
  refine ⟨w1, r1, t1, m1, ?_, wrS_ok ho a p⟩
  have key : ∀ q x p1, sideD (wrS d a p) q x = some p1 → (q = true ∧ x = a) ∨ (¬ (q = true ∧ x = a) ∧ sideD d q x = some p1) := by
    intro q x p1 h1
    rw [← e] at h1
    by_cases hq : q = true ∧ x = a
    · exact Or.inl hq
    · refine Or.inr ⟨hq, ?_⟩
      cases q with
      | false => exact h1
      | true =>
        have h1' : putB d.wait a p x = some p1 := h1
        unfold putB at h1'
        rw [if_neg (fun e => hq ⟨rfl, e⟩)] at h1'
        exact h1'
  intro q x p1 r y p2 h1 h2 hB
  rcases key q x p1 h1 with ⟨rfl, rfl⟩ | ⟨k1, k2⟩ <;> rcases key r y p2 h2 with ⟨rfl, rfl⟩ | ⟨l1, l2⟩
  · exact ⟨rfl, rfl⟩
  · rw [updQ_at, updQ_ne B l1] at hB
    exact absurd (hB ▸ hm.gb r y p2 l2) hg
  · rw [updQ_at, updQ_ne B k1] at hB
    exact absurd (hB ▸ hm.gb q x p1 k2) hg
  · rw [updQ_ne B k1, updQ_ne B l1] at hB
    exact hi _ _ _ _ _ _ k2 l2 hB
/-- nothing is left -/
theorem DkM.emptied (h : DkM w db mb B C G d) :
    ∃ w1 w2, (Builtin.clear_ #[90] 0 #[.map (some (mb false))]).run Try.prog w = .ok (.tuple #[]) w1 ∧ w.mapTurned w1 (mb false) ∧ (Builtin.clear_ #[90] 0 #[.map (some (mb true))]).run Try.prog w1 = .ok (.tuple #[]) w2 ∧ w1.mapTurned w2 (mb true) ∧
      DkIn w2 db mb B C G ⟨d.s, noneI, noneI, d.dead⟩ := by
  obtain ⟨w1, r1, t1, m1⟩ := h.clear false 0
  obtain ⟨w2, r2, t2, m2⟩ := m1.clear true 0
  refine ⟨w1, w2, r1, t1, r2, t2, m2, ?_, ⟨h.s1, h.s2, InS.none _, InS.none _, fun _ => rfl, fun _ => rfl⟩⟩
  intro q x p r y p' h1
  cases q <;> cases h1
/-- what waits is gone -/
theorem DkIn.unwait (h : DkIn w db mb B C G d) : ∃ w', (Builtin.clear_ #[90] 0 #[.map (some (mb true))]).run Try.prog w = .ok (.tuple #[]) w' ∧ w.mapTurned w' (mb true) ∧ DkIn w' db mb B C G { d with wait := noneI } := by
  obtain ⟨hm, hi, ho⟩ := h
  obtain ⟨w1, r1, t1, m1⟩ := hm.clear true 0
  refine ⟨w1, r1, t1, m1, ?_, ⟨ho.s1, ho.s2, ho.il, InS.none _, ho.dl, fun _ => rfl⟩⟩
  have key : ∀ q x p1, sideD { d with wait := noneI } q x = some p1 → sideD d q x = some p1 := by
    intro q x p1 h1
    cases q with
    | false => exact h1
    | true => cases h1
  intro q x p1 r y p2 h1 h2 hB
  exact hi _ _ _ _ _ _ (key _ _ _ h1) (key _ _ _ h2) hB
/-- the cell that tells whether it is dead -/
theorem DkM.kill (h : DkM w db mb B C G d) (x : Bool) : DkM (w.setCell ⟨db, 1, none⟩ (.bool x)) db mb B C G { d with dead := x } := by
  have hb : ∀ k, k ≠ db → (w.setCell ⟨db, 1, none⟩ (.bool x)).heap[k]? = w.heap[k]? := fun k hk => Below.heap_setCell w ⟨db, 1, none⟩ _ k hk
  have hc1 := h.c1
  have hfz := h.fz
  refine ⟨?_, ?_, ?_, ?_, ?_, fun q => (h.mp q).of_block (hb _ (h.db_ne q).symm), fun q y p hp => owns_block (h.row q y p hp) (fun g hg => by
    cases hg
    exact hb _ (h.row_db hp)), h.gd, h.gm, h.gb, fun k hk => by simpa using h.lt k hk, h.lw, h.ins, h.s1, h.s2⟩
  · rw [← h.c0]; simp [go_sem]
  · simp [go_sem, hc1]
  · rw [← h.c2]; simp [go_sem]
  · rw [← h.c3]; simp [go_sem]
  · simp [go_sem, hfz]
theorem setCell_turnG {b j : Nat} {v : Value} (hg : G b) : TurnG G w (w.setCell ⟨b, j, none⟩ v) := Only.turnG ((Only.refl b w).setCell j v) hg
end

/-- a place of keep: what waits there lasts -/
def seQ (d : DkS) (a : Int) : DkS := match d.wait a with | some p => seS d a p | none => d
theorem seQ_wait (d : DkS) (a x : Int) : (seQ d a).wait x = if x = a then none else d.wait x := by
  unfold seQ
  cases h : d.wait a with
  | some p => rfl
  | none =>
    by_cases e : x = a
    · rw [if_pos e, e]; exact h
    · rw [if_neg e]
theorem seQ_last (d : DkS) (a x : Int) : (seQ d a).last x = if x = a then overB d.wait d.last a else d.last x := by
  unfold seQ overB
  cases h : d.wait a with
  | some p => rfl
  | none =>
    by_cases e : x = a
    · rw [if_pos e, e]
    · rw [if_neg e]
theorem seQ_s (d : DkS) (a : Int) : (seQ d a).s = d.s := by unfold seQ; cases d.wait a <;> rfl
theorem seQ_dead (d : DkS) (a : Int) : (seQ d a).dead = d.dead := by unfold seQ; cases d.wait a <;> rfl
theorem keep_all : ∀ (L : List Int) (d : DkS), (L.foldl seQ d).s = d.s ∧ (L.foldl seQ d).dead = d.dead ∧ (∀ x, (L.foldl seQ d).last x = overB (onlyB d.wait L) d.last x)
  | [], d => ⟨rfl, rfl, fun x => by simp [overB, onlyB]⟩
  | a :: L, d => by
    obtain ⟨h1, h2, h3⟩ := keep_all L (seQ d a)
    refine ⟨h1.trans (seQ_s d a), h2.trans (seQ_dead d a), fun x => ?_⟩
    show ((L.foldl seQ (seQ d a)).last x) = _
    rw [h3]
    unfold overB onlyB
    rw [seQ_wait, seQ_last]
    unfold overB
    by_cases e : x = a
    · subst e
      cases hw : d.wait x <;> simp [hw]
    · by_cases hL : x ∈ L
      · simp [e, hL]
      · simp [e, hL]
theorem keep_crash (L : List Int) (d : DkS) : { L.foldl seQ d with wait := noneI } = crS d L := by
  obtain ⟨h1, h2, h3⟩ := keep_all L d
  unfold crS
  rw [DkS.mk.injEq]
  exact ⟨h1, funext h3, rfl, h2⟩

end Go.Proofs.Ytpijncnpicgjeaa.Gf

/-
  THE PROGRAM's DISK BY CONTRACT (package disk): Write, Read, Crash, Fail, Replace.
-/

namespace Go.Proofs.Ytpijncnpicgjeaa.Gf
set_option linter.unusedVariables false
set_option linter.unusedSimpArgs false
open Go.RowKit

/-- what a call on a disk leaves -/
def Leaves (w : World) (db : Nat) (G : Nat → Prop) (d' : DkS) (x : Value) (e : Ending) (w' : World) : Prop := e = .returned x ∧ ∃ G', DiskAt w' db G' d' ∧ Grew G w G' w'

theorem owns_form {w : World} {base e n : Nat} {v : Value} {xs : List Value} (h : w.ownsRow base e 1 v n xs) (hn : n ≠ 0) : ∃ g c, v = .slice (some ⟨g, 0, none⟩) n c ∧ base ≤ g ∧ w.ownsRow 0 e 1 (.slice (some ⟨g, 0, none⟩) n c) n xs := by
  obtain ⟨h0, h | ⟨g, cap, cur, hv, hg, hh, r⟩⟩ := h
  · exact absurd h.2 hn
  · exact ⟨g, cap, hv, hg, h0, Or.inr ⟨g, cap, cur, rfl, Nat.zero_le _, hh, r⟩⟩
section
variable {w : World} {db : Nat} {G : Nat → Prop} {d : DkS}
theorem DkIn.below {mb : Bool → Nat} {B C : Bool → Int → Nat} {w' : World} (h : DkIn w db mb B C G d) (hb : Below w.heap.size w w') : DkIn w' db mb B C G d := ⟨h.1.below hb, h.2⟩
set_option maxRecDepth 100000 in
set_option maxHeartbeats 1000000 in
theorem dwrite_any (h : DiskAt w db G d) {a : Int} (ha : (Lit.int .i64 a).wf = true) {v : Value} {p : List UInt8} (hp : Rd w v p) :
    Calls Try.prog 45 #[.pointer (some ⟨db, 0, none⟩), .int .i64 a, v] w (Leaves w db G (wrS d a p) (.int .i64 (wrX d a p))) := by
  obtain ⟨mb, B, C, hI⟩ := h
  have hM := hI.1
  have c3 := hM.c3
  have K := @drat_any w db d a hM.c0 hM.c1
  have hpl := hp.len
  obtain ⟨ad, cp, rfl⟩ := hp.form
  have REF : ∀ {x : Int} {w' : World}, wrS d a p = d → w' = w → Hid (∃ G', DiskAt w' db G' (wrS d a p) ∧ Grew G w G' w') := fun e1 e2 => by
    show ∃ G', _
    rw [e1, e2]
    exact ⟨G, ⟨mb, B, C, hI⟩, Grew.refl G w⟩
  by_cases hf : faX d a = 0
  · by_cases hb : OkB p
    · have eX : wrX d a p = 0 := by unfold wrX; rw [if_pos hf, if_pos hb]
      obtain ⟨hb1, hb2⟩ := hb
      have g1 : ¬ p.length = 0 := by omega
      have g2 : ¬ (p.length : Int) = 0 := by omega
      have g3 : ¬ 4108 < (p.length : Int) := by omega
      have q1 : ((p.length : Int) == 0) = false := beq_eq_false_iff_ne.2 g2
      have q3 : decide (4108 < (p.length : Int)) = false := decide_eq_false g3
      obtain ⟨b, off, rfl⟩ : ∃ b off, ad = some ⟨b, off, none⟩ := by
        rcases hp with ⟨_, _, h1, _⟩ | ⟨b, off, cap, _, h2, _⟩
        · rw [h1] at g1; exact absurd rfl g1
        · simp at h2; exact ⟨b, off, h2.1⟩
      have KC := @bclone_own p w ⟨b, off, none⟩ cp hp (by omega)
      rw [eX]
      rw [hf] at K
      go_enter Try.func45, Try.ntmps45
      go_wp2_with fail
      refine K.mono ?_
      rintro _ wq ⟨rfl, hwq⟩
      rw [hwq]
      clear hwq wq
      go_wp2_with fail
      have c3c : ∀ W, Below w.heap.size w W → W.cell? ⟨db, 3, none⟩ = some (.map (some (mb true))) := fun W hb => (hb.cell (p := ⟨db, 3, none⟩) (hM.lt db hM.gd)).trans c3
      go_region_held3 (fun wx => wx.cell? ⟨db, 3, none⟩ = some (.map (some (mb true)))) (first | exact c3 | assumption | exact c3c _ (by assumption)) (first
        | ((go_at_call 67; go_loud (refine (bclone_own (p := p) (by first | exact hp | exact hp.drewN 1) (by omega)).mono ?_); rintro _ w9 ⟨v9, rfl, R9, B9⟩; have C9 : Below w.heap.size w w9 := ⟨B9.os, B9.tape, B9.output, B9.size, B9.block⟩; obtain ⟨g9, k9, rfl, hg9, O9⟩ := owns_form R9 g1; have I9 := hI.below C9; obtain ⟨w8, r8, t8, I8⟩ := DkIn.write I9 ha hf ⟨hb1, hb2⟩ O9 (fun e => by have := hM.lt _ e; have h9 : w.heap.size ≤ g9 := hg9; omega); have D8 := I8.1.c3)))
      have FIN : Hid (∃ G', DiskAt w8 db G' (wrS d a p) ∧ Grew G w G' w8) := ⟨_, ⟨mb, _, _, I8⟩, (Below.turnG C9 G).trans (mapTurned_turnG t8 (hM.gm true)), fun k hk => hk.elim Or.inl (fun e => Or.inr (by rw [e]; exact hg9))⟩
      clear I8 t8 r8 I9 O9 hg9 R9 C9 B9 c3c KC K hp hI hM REF c3 D8
      go_wp2
      go_ret
      exact ⟨rfl, FIN.out⟩
    · have eX : wrX d a p = 1 := by unfold wrX; rw [if_pos hf, if_neg hb]
      have F := REF (x := 0) (w' := w) (by unfold wrS; rw [if_neg (fun h => hb h.2)]) rfl
      rw [hf] at K
      rw [eX]
      clear eX REF hI hM c3 hp
      by_cases g1 : p.length = 0
      · have q1 : ((p.length : Int) == 0) = true := by rw [g1]; rfl
        go_enter Try.func45, Try.ntmps45
        go_wp2_with fail
        refine K.mono ?_
        rintro _ wq ⟨rfl, hwq⟩
        rw [hwq]
        clear hwq wq K
        go_wp2
        go_ret
        exact ⟨rfl, F.out⟩
      · have g3 : 4108 < (p.length : Int) := by have : ¬ (1 ≤ p.length ∧ p.length ≤ 4108) := hb; omega
        have g2 : ¬ (p.length : Int) = 0 := by omega
        have q1 : ((p.length : Int) == 0) = false := beq_eq_false_iff_ne.2 g2
        have q3 : decide (4108 < (p.length : Int)) = true := decide_eq_true g3
        go_enter Try.func45, Try.ntmps45
        go_wp2_with fail
        refine K.mono ?_
        rintro _ wq ⟨rfl, hwq⟩
        rw [hwq]
        clear hwq wq K
        go_wp2
        go_ret
        exact ⟨rfl, F.out⟩
  · have eX : wrX d a p = faX d a := by unfold wrX; rw [if_neg hf]
    have F := REF (x := 0) (w' := w) (by unfold wrS; rw [if_neg (fun h => hf h.1)]) rfl
    rw [eX]
    obtain ⟨x, hx⟩ : ∃ x, x = faX d a := ⟨_, rfl⟩
    rw [← hx] at hf K ⊢
    clear eX REF hI hM c3 hp hx
    have q1 : (x == 0) = false := beq_eq_false_iff_ne.2 hf
    go_enter Try.func45, Try.ntmps45
    go_wp2_with fail
    refine K.mono ?_
    rintro _ wq ⟨rfl, hwq⟩
    rw [hwq]
    clear hwq wq K
    go_wp2
    go_ret
    exact ⟨rfl, F.out⟩
theorem dwrite_nil {w : World} {a : Int} {v : Value} : Calls Try.prog 45 #[.pointer none, .int .i64 a, v] w fun e w' => e = .returned (.int .i64 1) ∧ w' = w := by
  have K := @drat_nil w a
  go_enter Try.func45, Try.ntmps45
  go_wp2_with fail
  refine K.mono ?_
  rintro _ wq ⟨rfl, hwq⟩
  rw [hwq]
  clear hwq wq K
  go_wp2
  go_ret
  exact ⟨rfl, rfl⟩
end
end Go.Proofs.Ytpijncnpicgjeaa.Gf

