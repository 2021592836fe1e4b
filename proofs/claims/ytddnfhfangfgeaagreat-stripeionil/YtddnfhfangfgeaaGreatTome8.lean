/- TEXTS JOINED: DkAt, BcC, DkCA, DkSe, DkCB, DkCC, DkCF, DkCE, DkNew, DkLay, DkKeys. -/
import Derived.Test.YtddnfhfangfgeaaGreatTome2
import Derived.Test.YtddnfhfangfgeaaGreatTome6
import Derived.Test.YtddnfhfangfgeaaGreatTome7
import Derived.Test.YtddnfhfangfgeaaGreatTome3
import Derived.Test.YtddnfhfangfgeaaGreatTome1
import Derived.Lib.SliceRun
import Derived.Deep.RegionHeld3
import Derived.Maps.RangeWalk
import Derived.Shelf.SlIterI.Nil
import Derived.Shelf.SortM.Plain
import Derived.Shelf.SortM.SortNone
import Derived.Ground.GgzProg
import Derived.Ground.SlgmProg
namespace Go.Proofs.YtddnfhfangfgeaaGreat.Gf
set_option linter.unusedVariables false
set_option linter.unusedSimpArgs false
open Go.RowKit
open Go.Maps (Keyed)
open Go.ChangeMaps Go.MapKept
/-- a side of a disk: what waits (true), or what lasts -/
def sideD (d : DkS) (q : Bool) : Int → Option (List UInt8) := if q = true then d.wait else d.last
def setD (d : DkS) (q : Bool) (f : Int → Option (List UInt8)) : DkS := if q = true then { d with wait := f } else { d with last := f }
theorem setD_s (d : DkS) (q : Bool) (f : Int → Option (List UInt8)) : (setD d q f).s = d.s := by cases q <;> rfl
theorem setD_dead (d : DkS) (q : Bool) (f : Int → Option (List UInt8)) : (setD d q f).dead = d.dead := by cases q <;> rfl
theorem side_set (d : DkS) (q : Bool) (f : Int → Option (List UInt8)) : sideD (setD d q f) q = f := by cases q <;> rfl
theorem side_other (d : DkS) {q r : Bool} (h : r ≠ q) (f : Int → Option (List UInt8)) : sideD (setD d q f) r = sideD d r := by cases q <;> cases r <;> first | rfl | exact absurd rfl h
def valI (f : Int → Option (List UInt8)) (B C : Int → Nat) (x : Int) : Option Value := (f x).map fun p => .slice (some ⟨B x, 0, none⟩) p.length (C x)
def updQ (B : Bool → Int → Nat) (q : Bool) (a : Int) (g : Nat) : Bool → Int → Nat := fun r x => if r = q ∧ x = a then g else B r x
theorem updQ_at (B : Bool → Int → Nat) (q : Bool) (a : Int) (g : Nat) : updQ B q a g q a = g := if_pos ⟨rfl, rfl⟩
theorem updQ_ne (B : Bool → Int → Nat) {q r : Bool} {a x : Int} (h : ¬ (r = q ∧ x = a)) (g : Nat) : updQ B q a g r x = B r x := if_neg h
theorem valI_put (f : Int → Option (List UInt8)) (B C : Bool → Int → Nat) (q : Bool) (a : Int) (g c : Nat) (p : List UInt8) (x : Int) :
    valI (putB f a p) (updQ B q a g q) (updQ C q a c q) x = putI (valI f (B q) (C q)) a (.slice (some ⟨g, 0, none⟩) p.length c) x := by
  unfold valI putB putI
  by_cases h : x = a
  · subst h
    rw [if_pos rfl, if_pos rfl, updQ_at, updQ_at]
    rfl
  · rw [if_neg h, if_neg h, updQ_ne B (fun e => h e.2), updQ_ne C (fun e => h e.2)]
structure DkM (w : World) (db : Nat) (mb : Bool → Nat) (B C : Bool → Int → Nat) (G : Nat → Prop) (d : DkS) : Prop where
  c0 : w.cell? ⟨db, 0, none⟩ = some (.int .i64 (d.s : Int))
  c1 : w.cell? ⟨db, 1, none⟩ = some (.bool d.dead)
  c2 : w.cell? ⟨db, 2, none⟩ = some (.map (some (mb false)))
  c3 : w.cell? ⟨db, 3, none⟩ = some (.map (some (mb true)))
  fz : w.frozen? ⟨db, 1, none⟩ = false
  mp : ∀ q, MapI Tryz.prog 3 w (mb q) d.s (valI (sideD d q) (B q) (C q))
  row : ∀ q x p, sideD d q x = some p → w.ownsRow 0 5 1 (.slice (some ⟨B q x, 0, none⟩) p.length (C q x)) p.length (p.map vb)
  gd : G db
  gm : ∀ q, G (mb q)
  gb : ∀ q x p, sideD d q x = some p → G (B q x)
  lt : ∀ k, G k → k < w.heap.size
  lw : mb false ≠ mb true
  ins : ∀ q, InS d.s (sideD d q)
  s1 : 1 ≤ d.s
  s2 : d.s ≤ 4096
def InjD (d : DkS) (B : Bool → Int → Nat) : Prop := ∀ q x p r y p', sideD d q x = some p → sideD d r y = some p' → B q x = B r y → q = r ∧ x = y
def DkIn (w : World) (db : Nat) (mb : Bool → Nat) (B C : Bool → Int → Nat) (G : Nat → Prop) (d : DkS) : Prop := DkM w db mb B C G d ∧ InjD d B ∧ d.Ok
def DiskAt (w : World) (db : Nat) (G : Nat → Prop) (d : DkS) : Prop := ∃ mb B C, DkIn w db mb B C G d
theorem keyed_int : Keyed Tryz.prog 3 := Maps.int_keyed (q := .i64) (by kernel_rfl)
theorem under_map : Tryz.prog.underlying 119 = some (.map 3 36) := by kernel_rfl
theorem zero_bytes (w : World) : (zeroValue 36).run Tryz.prog w = .ok (.slice none 0 0) w := by kernel_rfl
theorem key_int {x : Int} (h : (Lit.int .i64 x).wf = true) : keyOf Tryz.prog 3 (.int .i64 x) = some (.int .i64 x) := by
  have : Tryz.prog.underlying 3 = some (.int .i64) := by kernel_rfl
  simp [keyOf, this, mapKey, h]
theorem MapI.isMap {P : Program} {K b S : Nat} {w : World} {f : Int → Option Value} (h : MapI P K w b S f) : ∃ es clock, w.heap[b]? = some (.map es clock) := by
  obtain ⟨D, ⟨es, clock, hb, _⟩, _⟩ := h
  exact ⟨es, clock, hb⟩
theorem MapI.noCell {P : Program} {K b S : Nat} {w : World} {f : Int → Option Value} (h : MapI P K w b S f) (o : Nat) : w.cell? ⟨b, o, none⟩ = none := by
  obtain ⟨es, clock, hb⟩ := h.isMap
  unfold World.cell?
  rw [hb]
theorem row_cells {w : World} {e g n c : Nat} {xs : List Value} (h : w.ownsRow 0 e 1 (.slice (some ⟨g, 0, none⟩) n c) n xs) : ∃ cur, w.heap[g]? = some (.cells cur e (0, 0)) := by
  obtain ⟨h0, h | ⟨g', cap, cur, hv, hg, hh, r⟩⟩ := h
  · simp at h
  · simp at hv
    obtain ⟨rfl, _⟩ := hv
    exact ⟨cur, hh⟩
section
variable {w w' : World} {db : Nat} {mb : Bool → Nat} {B C : Bool → Int → Nat} {G : Nat → Prop} {d : DkS}
theorem DkM.db_ne (h : DkM w db mb B C G d) (q : Bool) : db ≠ mb q := fun e => by
  have h1 := (h.mp q).noCell 0
  rw [← e, h.c0] at h1
  cases h1
theorem DkM.row_ne (h : DkM w db mb B C G d) {q : Bool} {x : Int} {p : List UInt8} (hp : sideD d q x = some p) (r : Bool) : B q x ≠ mb r := fun e => by
  obtain ⟨cur, h1⟩ := row_cells (h.row q x p hp)
  obtain ⟨es, clock, h2⟩ := (h.mp r).isMap
  rw [e, h2] at h1
  cases h1
theorem DkM.row_db (h : DkM w db mb B C G d) {q : Bool} {x : Int} {p : List UInt8} (hp : sideD d q x = some p) : B q x ≠ db := fun e => by
  have h1 := Rd.owned (h.row q x p hp)
  have h2 := h.ins q x p hp
  rcases h1 with ⟨_, _, h3, _⟩ | ⟨b, off, cap, h3, h4, _, _, _, h5⟩
  · rw [h3] at h2; simp at h2
  · have h6 := h5 0 (by omega)
    simp at h4
    obtain ⟨⟨rfl, rfl⟩, _⟩ := h4
    rw [e, Nat.add_zero, h.c0] at h6
    simp at h6
theorem DkM.mb_ne (h : DkM w db mb B C G d) {q r : Bool} (e : q ≠ r) : mb q ≠ mb r := by
  have := h.lw
  cases q <;> cases r <;> first | exact absurd rfl e | assumption | exact Ne.symm this
/-- blocks of the disk that have not turned -/
theorem DkM.keep (h : DkM w db mb B C G d) (hk : ∀ k, G k → w'.heap[k]? = w.heap[k]?) (hs : w.heap.size ≤ w'.heap.size) : DkM w' db mb B C G d where
  c0 := (World.cell?_of_block (w := w) (hk db h.gd)).trans h.c0
  c1 := (World.cell?_of_block (w := w) (hk db h.gd)).trans h.c1
  c2 := (World.cell?_of_block (w := w) (hk db h.gd)).trans h.c2
  c3 := (World.cell?_of_block (w := w) (hk db h.gd)).trans h.c3
  fz := (World.frozen?_of_block (w := w) (hk db h.gd)).trans h.fz
  mp := fun q => (h.mp q).of_block (hk _ (h.gm q))
  row := fun q x p hp => owns_block (h.row q x p hp) (fun g hg => by
    cases hg
    exact hk _ (h.gb q x p hp))
  gd := h.gd
  gm := h.gm
  gb := h.gb
  lt := fun k hk => Nat.lt_of_lt_of_le (h.lt k hk) hs
  lw := h.lw
  ins := h.ins
  s1 := h.s1
  s2 := h.s2
theorem DkM.below (h : DkM w db mb B C G d) (hb : Below w.heap.size w w') : DkM w' db mb B C G d := h.keep (fun k hk => hb.block k (h.lt k hk)) hb.size
theorem DiskAt.below (h : DiskAt w db G d) (hb : Below w.heap.size w w') : DiskAt w' db G d := by
  obtain ⟨mb, B, C, h1, h2, h3⟩ := h
  exact ⟨mb, B, C, h1.below hb, h2, h3⟩
theorem DiskAt.keep (h : DiskAt w db G d) (hk : ∀ k, G k → w'.heap[k]? = w.heap[k]?) (hs : w.heap.size ≤ w'.heap.size) : DiskAt w' db G d := by
  obtain ⟨mb, B, C, h1, h2, h3⟩ := h
  exact ⟨mb, B, C, h1.keep hk hs, h2, h3⟩
theorem DiskAt.ok (h : DiskAt w db G d) : d.Ok := by
  obtain ⟨mb, B, C, h1, h2, h3⟩ := h
  exact h3
theorem DiskAt.lt (h : DiskAt w db G d) : ∀ k, G k → k < w.heap.size := by
  obtain ⟨mb, B, C, h1, h2, h3⟩ := h
  exact h1.lt
theorem mapTurned_os {b : Nat} (h : w.mapTurned w' b) : w'.os = w.os ∧ w'.tape = w.tape ∧ w'.output = w.output ∧ w'.heap.size = w.heap.size := by
  obtain ⟨es, clock, es', clock', hb, rfl⟩ := h
  refine ⟨rfl, rfl, rfl, ?_⟩
  simp [setBlock]
theorem mapTurned_turnG {b : Nat} (h : w.mapTurned w' b) (hg : G b) : TurnG G w w' := by
  obtain ⟨h1, h2, h3, h4⟩ := mapTurned_os h
  exact ⟨h1, h2, h3, by rw [h4]; exact Nat.le_refl _, fun k _ hk => mapTurned_block h (fun e => hk (by rw [e]; exact hg))⟩
/-- a map of the disk has turned; its other parts stand -/
theorem DkM.turned (h : DkM w db mb B C G d) {q : Bool} (ht : w.mapTurned w' (mb q)) {B' C' : Bool → Int → Nat} {f : Int → Option (List UInt8)} (G' : Nat → Prop) (hG : ∀ k, G k → G' k) (hlt : ∀ k, G' k → k < w.heap.size)
    (hm : MapI Tryz.prog 3 w' (mb q) d.s (valI f (B' q) (C' q))) (hB : ∀ r, r ≠ q → ∀ x, B' r x = B r x) (hC : ∀ r, r ≠ q → ∀ x, C' r x = C r x) (hf : InS d.s f)
    (hr : ∀ x p, f x = some p → G' (B' q x) ∧ w.ownsRow 0 5 1 (.slice (some ⟨B' q x, 0, none⟩) p.length (C' q x)) p.length (p.map vb)) : DkM w' db mb B' C' G' (setD d q f) := by
  have hb : ∀ k, k ≠ mb q → w'.heap[k]? = w.heap[k]? := fun k hk => mapTurned_block ht hk
  have hs := (mapTurned_os ht).2.2.2
  have hdb := hb db (h.db_ne q)
  have hne : ∀ {g n c : Nat} {xs : List Value}, w.ownsRow 0 5 1 (.slice (some ⟨g, 0, none⟩) n c) n xs → g ≠ mb q := fun ho e => by
    obtain ⟨cur, h1⟩ := row_cells ho
    obtain ⟨es, clock, h2⟩ := (h.mp q).isMap
    rw [e, h2] at h1
    cases h1
  have rr : ∀ r x p, sideD (setD d q f) r x = some p → G' (B' r x) ∧ w.ownsRow 0 5 1 (.slice (some ⟨B' r x, 0, none⟩) p.length (C' r x)) p.length (p.map vb) := by
    intro r x p hp
    by_cases e : r = q
    · subst e
      rw [side_set] at hp
      exact hr x p hp
    · rw [side_other d e] at hp
      rw [hB r e, hC r e]
      exact ⟨hG _ (h.gb r x p hp), h.row r x p hp⟩
  refine ⟨?_, ?_, ?_, ?_, ?_, fun r => ?_, fun r x p hp => ?_, hG _ h.gd, fun r => hG _ (h.gm r), fun r x p hp => (rr r x p hp).1, fun k hk => by rw [hs]; exact hlt k hk, h.lw, fun r => ?_, ?_, ?_⟩
  · rw [setD_s]; exact (World.cell?_of_block (w := w) hdb).trans h.c0
  · rw [setD_dead]; exact (World.cell?_of_block (w := w) hdb).trans h.c1
  · exact (World.cell?_of_block (w := w) hdb).trans h.c2
  · exact (World.cell?_of_block (w := w) hdb).trans h.c3
  · exact (World.frozen?_of_block (w := w) hdb).trans h.fz
  · rw [setD_s]
    by_cases e : r = q
    · subst e
      rw [side_set]
      exact hm
    · rw [side_other d e, show B' r = B r from funext (hB r e), show C' r = C r from funext (hC r e)]
      exact (h.mp r).of_block (hb _ (h.mb_ne e))
  · have h1 := (rr r x p hp).2
    exact owns_block h1 (fun g hg => by
      cases hg
      exact hb _ (hne h1))
  · rw [setD_s]
    by_cases e : r = q
    · subst e; rw [side_set]; exact hf
    · rw [side_other d e]; exact h.ins r
  · rw [setD_s]; exact h.s1
  · rw [setD_s]; exact h.s2
/-- 'm[a] = bytes' -/
theorem DkM.put (h : DkM w db mb B C G d) (q : Bool) {a : Int} {p : List UInt8} {g c : Nat} (ha : (Lit.int .i64 a).wf = true) (h0 : 0 ≤ a) (h1 : a < (d.s : Int)) (hp : 1 ≤ p.length ∧ p.length ≤ 4108) (hr : w.ownsRow 0 5 1 (.slice (some ⟨g, 0, none⟩) p.length c) p.length (p.map vb)) :
    ∃ w', (Instr.mapUpdate 119 (.map (some (mb q))) (.int .i64 a) (.slice (some ⟨g, 0, none⟩) p.length c)).run Tryz.prog w = .ok () w' ∧ w.mapTurned w' (mb q) ∧ DkM w' db mb (updQ B q a g) (updQ C q a c) (fun k => G k ∨ k = g) (setD d q (putB (sideD d q) a p)) := by
  have hs2 := h.s2
  obtain ⟨w', hrun, hm, ht⟩ := (h.mp q).store keyed_int under_map (by unfold maxLen; omega) (key_int ha) h0 h1 (.slice (some ⟨g, 0, none⟩) p.length c)
  refine ⟨w', hrun, ht, h.turned ht _ (fun k => Or.inl) (fun k hk => ?_) (hm.congr fun x => (valI_put _ B C q a g c p x).symm) (fun r e x => updQ_ne B (fun h => e h.1) g) (fun r e x => updQ_ne C (fun h => e h.1) c) ((h.ins q).put h0 h1 hp.1 hp.2) (fun x p' hx => ?_)⟩
  · rcases hk with hk | rfl
    · exact h.lt k hk
    · exact (owns_at hr).2
  · unfold putB at hx
    by_cases e : x = a
    · subst e
      rw [if_pos rfl] at hx
      cases hx
      rw [updQ_at, updQ_at]
      exact ⟨Or.inr rfl, hr⟩
    · rw [if_neg e] at hx
      rw [updQ_ne B (fun h => e h.2), updQ_ne C (fun h => e h.2)]
      exact ⟨Or.inl (h.gb q x p' hx), h.row q x p' hx⟩
/-- 'clear(m)' -/
theorem DkM.clear (h : DkM w db mb B C G d) (q : Bool) (ty : TypeId) :
    ∃ w', (Builtin.clear_ #[119] ty #[.map (some (mb q))]).run Tryz.prog w = .ok (.tuple #[]) w' ∧ w.mapTurned w' (mb q) ∧ DkM w' db mb B C G (setD d q noneI) := by
  obtain ⟨w', hrun, hm, ht⟩ := (h.mp q).clear under_map ty
  exact ⟨w', hrun, ht, h.turned ht G (fun k => id) h.lt (hm.congr fun x => rfl) (fun r e x => rfl) (fun r e x => rfl) (InS.none _) (fun x p' hx => by cases hx)⟩
/-- 'v, ok := m[a]' -/
theorem DkM.look_ok (h : DkM w db mb B C G d) (q : Bool) {a : Int} (ha : (Lit.int .i64 a).wf = true) :
    (Instr.lookup 119 (.map (some (mb q))) (.int .i64 a) true).run Tryz.prog w = .ok (.tuple #[(valI (sideD d q) (B q) (C q) a).getD (.slice none 0 0), .bool (valI (sideD d q) (B q) (C q) a).isSome]) w :=
  (h.mp q).look_ok keyed_int under_map (zero_bytes w) (key_int ha)
theorem DkM.look (h : DkM w db mb B C G d) (q : Bool) {a : Int} (ha : (Lit.int .i64 a).wf = true) :
    (Instr.lookup 119 (.map (some (mb q))) (.int .i64 a) false).run Tryz.prog w = .ok ((valI (sideD d q) (B q) (C q) a).getD (.slice none 0 0)) w :=
  (h.mp q).look keyed_int under_map (zero_bytes w) (key_int ha)
end
end Go.Proofs.YtddnfhfangfgeaaGreat.Gf

namespace Go.Proofs.YtddnfhfangfgeaaGreat.Gf
set_option linter.unusedVariables false
set_option linter.unusedSimpArgs false
open Go.RowKit
theorem own_new12 (w : World) (e : TypeId) : (w.alloc (.cells #[] e)).ownsRow w.heap.size e 1 (.slice (some ⟨w.heap.size, 0, none⟩) 0 0) 0 [] := World.ownsRow_made w #[] 0 (Nat.le_refl _) (Nat.zero_le _) rfl
set_option maxRecDepth 100000 in
theorem bclone_own {p : List UInt8} {w : World} {a : Addr} {c : Nat} (hp : Rd w (.slice (some a) p.length c) p) (hl : p.length ≤ 100000) : Calls Tryz.prog 143 #[.slice (some a) p.length c] w fun e w' => ∃ v, e = .returned v ∧ w'.ownsRow w.heap.size 5 1 v p.length (p.map vb) ∧ Below w.heap.size w w' := by
  obtain ⟨i0, hi, hz0, hz1, hz2⟩ := info_parts info_u8
  have qT : ∀ (w : World) (a : Option Addr) (n c n' c' : Nat), (binOp .eql 36 (.slice a n c) (.slice none n' c')).run Tryz.prog w = .ok (.bool a.isNone) w := fun w a n c n' c' => Lib.run_eql_slice_nil w _ _ a n c n' c' Tryz.underlying36
  have B1 : Below w.heap.size w (w.alloc (.cells #[] 5)) := (Below.refl _ _).alloc (Nat.le_refl _) _
  have O1 : (w.alloc (.cells #[] 5)).ownsRow w.heap.size 5 1 (.slice (some ⟨w.heap.size, 0, none⟩) 0 0) 0 [] := own_new12 w _
  have hp1 := hp.below B1
  have hsz : w.heap.size ≤ (w.alloc (.cells #[] 5)).heap.size := B1.size
  go_enter Tryz.func143, Tryz.ntmps143
  go_wp2_with (at_builtin; go_loud (refine wpList_append_rd _ rfl (.tmp 5) (.tmp 6) 36 rfl w.heap.size 5 i0 Tryz.underlying36 hi hz0 hz1 hz2 (.slice (some ⟨w.heap.size, 0, none⟩) 0 0) 0 [] rfl O1 (.slice (some a) p.length c) p rfl hp1 (by omega) hsz ?_); intro v' w9 hv9 hg9)
  have HB : Hid (Below w.heap.size w w9) := B1.grown hg9 hsz (fun q hq => by cases hq; exact Nat.le_refl _)
  have HO : Hid (w9.ownsRow w.heap.size 5 1 v' p.length (p.map vb)) := by
    show w9.ownsRow _ _ _ _ _ _
    rw [Nat.zero_add, List.nil_append] at hv9
    exact hv9
  clear hv9 hg9 B1 O1 hp1 hp qT
  go_wp2
  go_ret
  exact ⟨v', rfl, HO.out, HB.out⟩
theorem bclone_nil {w : World} : Calls Tryz.prog 143 #[.slice none 0 0] w fun e w' => e = .returned (.slice none 0 0) ∧ w' = w := by
  have qT : ∀ (w : World) (a : Option Addr) (n c n' c' : Nat), (binOp .eql 36 (.slice a n c) (.slice none n' c')).run Tryz.prog w = .ok (.bool a.isNone) w := fun w a n c n' c' => Lib.run_eql_slice_nil w _ _ a n c n' c' Tryz.underlying36
  go_enter Tryz.func143, Tryz.ntmps143
  go_wp2
  go_ret
  exact ⟨rfl, rfl⟩
end Go.Proofs.YtddnfhfangfgeaaGreat.Gf

namespace Go.Proofs.YtddnfhfangfgeaaGreat.Gf
set_option linter.unusedVariables false
set_option linter.unusedSimpArgs false
open Go.RowKit
open Go.Maps (Keyed)
theorem dref_any {w : World} {db : Nat} {x : Bool} (c1 : w.cell? ⟨db, 1, none⟩ = some (.bool x)) : Calls Tryz.prog 131 #[.pointer (some ⟨db, 0, none⟩)] w fun e w' => e = .returned (.int .i64 (if x = true then 120 else 0)) ∧ w' = w := by
  cases x
  · go_enter Tryz.func131, Tryz.ntmps131
    go_wp2
    go_ret
    exact ⟨rfl, rfl⟩
  · go_enter Tryz.func131, Tryz.ntmps131
    go_wp2
    go_ret
    exact ⟨rfl, rfl⟩
theorem drat_any {w : World} {db : Nat} {d : DkS} {a : Int} (c0 : w.cell? ⟨db, 0, none⟩ = some (.int .i64 (d.s : Int))) (c1 : w.cell? ⟨db, 1, none⟩ = some (.bool d.dead)) : Calls Tryz.prog 91 #[.pointer (some ⟨db, 0, none⟩), .int .i64 a] w fun e w' => e = .returned (.int .i64 (faX d a)) ∧ w' = w := by
  have K := @dref_any w db d.dead c1
  cases hd : d.dead with
  | true =>
    have e := faX_dead hd a
    rw [hd] at K
    simp only [if_true] at K
    rw [e]
    clear e
    go_enter Tryz.func91, Tryz.ntmps91
    go_wp2_with fail
    refine K.mono ?_
    rintro _ _ ⟨rfl, rfl⟩
    go_wp2
    go_ret
    exact ⟨rfl, rfl⟩
  | false =>
    rw [hd] at K
    simp only [Bool.false_eq_true, if_false] at K
    by_cases h0 : 0 ≤ a
    · have h0' : ¬ a < 0 := by omega
      by_cases h1 : a < (d.s : Int)
      · have e := faX_ok hd ⟨h0, h1⟩
        have h1' : ¬ a ≥ (d.s : Int) := by omega
        rw [e]
        clear e
        go_enter Tryz.func91, Tryz.ntmps91
        go_wp2_with fail
        refine K.mono ?_
        rintro _ _ ⟨rfl, rfl⟩
        go_wp2
        go_ret
        exact ⟨rfl, rfl⟩
      · have e := faX_out hd (a := a) (fun h => h1 h.2)
        have h1' : a ≥ (d.s : Int) := by omega
        rw [e]
        clear e
        go_enter Tryz.func91, Tryz.ntmps91
        go_wp2_with fail
        refine K.mono ?_
        rintro _ _ ⟨rfl, rfl⟩
        go_wp2
        go_ret
        exact ⟨rfl, rfl⟩
    · have e := faX_out hd (a := a) (fun h => h0 h.1)
      have h0' : a < 0 := by omega
      rw [e]
      clear e
      go_enter Tryz.func91, Tryz.ntmps91
      go_wp2_with fail
      refine K.mono ?_
      rintro _ _ ⟨rfl, rfl⟩
      go_wp2
      go_ret
      exact ⟨rfl, rfl⟩
theorem ddead_any {w : World} {db : Nat} {x : Bool} (c1 : w.cell? ⟨db, 1, none⟩ = some (.bool x)) : Calls Tryz.prog 83 #[.pointer (some ⟨db, 0, none⟩)] w fun e w' => e = .returned (.bool x) ∧ w' = w := by
  go_enter Tryz.func83, Tryz.ntmps83
  go_wp2
  go_ret
  exact ⟨rfl, rfl⟩
/-- what Read tells of a place, in the disk's own memory -/
def newV (d : DkS) (B C : Bool → Int → Nat) (a : Int) : Value := match d.wait a with | some p => .slice (some ⟨B true a, 0, none⟩) p.length (C true a) | none => (valI d.last (B false) (C false) a).getD (.slice none 0 0)
section
variable {w : World} {db : Nat} {mb : Bool → Nat} {B C : Bool → Int → Nat} {G : Nat → Prop} {d : DkS}
theorem dnew_any (h : DkM w db mb B C G d) {a : Int} (ha : (Lit.int .i64 a).wf = true) : Calls Tryz.prog 92 #[.pointer (some ⟨db, 0, none⟩), .int .i64 a] w fun e w' => e = .returned (newV d B C a) ∧ w' = w := by
  have c2 := h.c2
  have c3 := h.c3
  have L1 := h.look_ok true ha
  have L2 := h.look false ha
  have e1 : sideD d true = d.wait := rfl
  have e2 : sideD d false = d.last := rfl
  rw [e1] at L1
  rw [e2] at L2
  clear e1 e2
  unfold newV
  cases hw : d.wait a with
  | some p =>
    have e3 : valI d.wait (B true) (C true) a = some (.slice (some ⟨B true a, 0, none⟩) p.length (C true a)) := by unfold valI; rw [hw]; rfl
    rw [e3] at L1
    simp only [Option.getD_some, Option.isSome_some] at L1
    clear e3 hw h ha
    go_enter Tryz.func92, Tryz.ntmps92
    go_wp2
    go_ret
    exact ⟨rfl, rfl⟩
  | none =>
    have e3 : valI d.wait (B true) (C true) a = none := by unfold valI; rw [hw]; rfl
    rw [e3] at L1
    simp only [Option.getD_none, Option.isSome_none] at L1
    clear e3 hw h ha
    obtain ⟨v, hv⟩ : ∃ v, v = (valI d.last (B false) (C false) a).getD (.slice none 0 0) := ⟨_, rfl⟩
    simp only
    rw [← hv] at L2 ⊢
    clear hv
    go_enter Tryz.func92, Tryz.ntmps92
    go_wp2
    go_ret
    exact ⟨rfl, rfl⟩
theorem demp_any (h : DkM w db mb B C G d) {w1 w2 : World}
    (r1 : (Builtin.clear_ #[119] 0 #[.map (some (mb false))]).run Tryz.prog w = .ok (.tuple #[]) w1) (t1 : w.mapTurned w1 (mb false))
    (r2 : (Builtin.clear_ #[119] 0 #[.map (some (mb true))]).run Tryz.prog w1 = .ok (.tuple #[]) w2) :
    Calls Tryz.prog 90 #[.pointer (some ⟨db, 0, none⟩)] w fun e w' => e = .returned (.tuple #[]) ∧ w' = w2 := by
  have c2 := h.c2
  have c3 := h.c3
  have c3b := (World.cell?_of_block (w := w) (a := ⟨db, 3, none⟩) (mapTurned_block t1 (h.db_ne false))).trans h.c3
  clear h t1
  go_enter Tryz.func90, Tryz.ntmps90
  go_wp2
  go_end0
  exact ⟨rfl, rfl⟩
end
end Go.Proofs.YtddnfhfangfgeaaGreat.Gf

namespace Go.Proofs.YtddnfhfangfgeaaGreat.Gf
set_option linter.unusedVariables false
set_option linter.unusedSimpArgs false
open Go.RowKit
open Go.Maps (Keyed)
open Go.ChangeMaps Go.MapKept
section
variable {w w' : World} {db : Nat} {mb : Bool → Nat} {B C : Bool → Int → Nat} {G : Nat → Prop} {d : DkS}
theorem Ok.of_sides {e : DkS} (s1 : 1 ≤ e.s) (s2 : e.s ≤ 4096) (hi : ∀ q, InS e.s (sideD e q)) (hd : e.dead = true → e.last = noneI ∧ e.wait = noneI) : e.Ok :=
  ⟨s1, s2, hi false, hi true, fun h => (hd h).1, fun h => (hd h).2⟩
/-- a sector is written -/
theorem DkIn.write (h : DkIn w db mb B C G d) {a : Int} (ha : (Lit.int .i64 a).wf = true) (hf : faX d a = 0) {p : List UInt8} (hp : OkB p) {g c : Nat} (hr : w.ownsRow 0 5 1 (.slice (some ⟨g, 0, none⟩) p.length c) p.length (p.map vb)) (hg : ¬ G g) :
    ∃ w', (Instr.mapUpdate 119 (.map (some (mb true))) (.int .i64 a) (.slice (some ⟨g, 0, none⟩) p.length c)).run Tryz.prog w = .ok () w' ∧ w.mapTurned w' (mb true) ∧
      DkIn w' db mb (updQ B true a g) (updQ C true a c) (fun k => G k ∨ k = g) (wrS d a p) := by
  obtain ⟨hm, hi, ho⟩ := h
  obtain ⟨f1, f2, f3⟩ := faX_zero hf
  obtain ⟨w1, r1, t1, m1⟩ := hm.put true ha f2 f3 hp hr
  have e : setD d true (putB (sideD d true) a p) = wrS d a p := by unfold wrS; rw [if_pos ⟨hf, hp⟩]; rfl
  rw [e] at m1
  refine ⟨w1, r1, t1, m1, ?_, wrS_ok ho a p⟩
  have key : ∀ q x p1, sideD (wrS d a p) q x = some p1 → (q = true ∧ x = a) ∨ (¬ (q = true ∧ x = a) ∧ sideD d q x = some p1) := by
    intro q x p1 h1
    rw [← e] at h1
    by_cases hq : q = true ∧ x = a
    · exact Or.inl hq
    · refine Or.inr ⟨hq, ?_⟩
      cases q with
      | false => exact h1
      | true =>
        have h1' : putB d.wait a p x = some p1 := h1
        unfold putB at h1'
        rw [if_neg (fun e => hq ⟨rfl, e⟩)] at h1'
        exact h1'
  intro q x p1 r y p2 h1 h2 hB
  rcases key q x p1 h1 with ⟨rfl, rfl⟩ | ⟨k1, k2⟩ <;> rcases key r y p2 h2 with ⟨rfl, rfl⟩ | ⟨l1, l2⟩
  · exact ⟨rfl, rfl⟩
  · rw [updQ_at, updQ_ne B l1] at hB
    exact absurd (hB ▸ hm.gb r y p2 l2) hg
  · rw [updQ_at, updQ_ne B k1] at hB
    exact absurd (hB ▸ hm.gb q x p1 k2) hg
  · rw [updQ_ne B k1, updQ_ne B l1] at hB
    exact hi _ _ _ _ _ _ k2 l2 hB
/-- nothing is left -/
theorem DkM.emptied (h : DkM w db mb B C G d) :
    ∃ w1 w2, (Builtin.clear_ #[119] 0 #[.map (some (mb false))]).run Tryz.prog w = .ok (.tuple #[]) w1 ∧ w.mapTurned w1 (mb false) ∧ (Builtin.clear_ #[119] 0 #[.map (some (mb true))]).run Tryz.prog w1 = .ok (.tuple #[]) w2 ∧ w1.mapTurned w2 (mb true) ∧
      DkIn w2 db mb B C G ⟨d.s, noneI, noneI, d.dead⟩ := by
  obtain ⟨w1, r1, t1, m1⟩ := h.clear false 0
  obtain ⟨w2, r2, t2, m2⟩ := m1.clear true 0
  refine ⟨w1, w2, r1, t1, r2, t2, m2, ?_, ⟨h.s1, h.s2, InS.none _, InS.none _, fun _ => rfl, fun _ => rfl⟩⟩
  intro q x p r y p' h1
  cases q <;> cases h1
/-- the cell that tells whether it is dead -/
theorem DkM.kill (h : DkM w db mb B C G d) (x : Bool) : DkM (w.setCell ⟨db, 1, none⟩ (.bool x)) db mb B C G { d with dead := x } := by
  have hb : ∀ k, k ≠ db → (w.setCell ⟨db, 1, none⟩ (.bool x)).heap[k]? = w.heap[k]? := fun k hk => Below.heap_setCell w ⟨db, 1, none⟩ _ k hk
  have hc1 := h.c1
  have hfz := h.fz
  refine ⟨?_, ?_, ?_, ?_, ?_, fun q => (h.mp q).of_block (hb _ (h.db_ne q).symm), fun q y p hp => owns_block (h.row q y p hp) (fun g hg => by
    cases hg
    exact hb _ (h.row_db hp)), h.gd, h.gm, h.gb, fun k hk => by simpa using h.lt k hk, h.lw, h.ins, h.s1, h.s2⟩
  · rw [← h.c0]; simp [go_sem]
  · simp [go_sem, hc1]
  · rw [← h.c2]; simp [go_sem]
  · rw [← h.c3]; simp [go_sem]
  · simp [go_sem, hfz]
theorem setCell_turnG {b j : Nat} {v : Value} (hg : G b) : TurnG G w (w.setCell ⟨b, j, none⟩ v) := Only.turnG ((Only.refl b w).setCell j v) hg
end
end Go.Proofs.YtddnfhfangfgeaaGreat.Gf

namespace Go.Proofs.YtddnfhfangfgeaaGreat.Gf
set_option linter.unusedVariables false
set_option linter.unusedSimpArgs false
open Go.RowKit
/-- what a call on a disk leaves -/
def Leaves (w : World) (db : Nat) (G : Nat → Prop) (d' : DkS) (x : Value) (e : Ending) (w' : World) : Prop := e = .returned x ∧ ∃ G', DiskAt w' db G' d' ∧ Grew G w G' w'
theorem owns_formD {w : World} {base e n : Nat} {v : Value} {xs : List Value} (h : w.ownsRow base e 1 v n xs) (hn : n ≠ 0) : ∃ g c, v = .slice (some ⟨g, 0, none⟩) n c ∧ base ≤ g ∧ w.ownsRow 0 e 1 (.slice (some ⟨g, 0, none⟩) n c) n xs := by
  obtain ⟨h0, h | ⟨g, cap, cur, hv, hg, hh, r⟩⟩ := h
  · exact absurd h.2 hn
  · exact ⟨g, cap, hv, hg, h0, Or.inr ⟨g, cap, cur, rfl, Nat.zero_le _, hh, r⟩⟩
section
variable {w : World} {db : Nat} {G : Nat → Prop} {d : DkS}
theorem DkIn.below {mb : Bool → Nat} {B C : Bool → Int → Nat} {w' : World} (h : DkIn w db mb B C G d) (hb : Below w.heap.size w w') : DkIn w' db mb B C G d := ⟨h.1.below hb, h.2⟩
set_option maxRecDepth 100000 in
set_option maxHeartbeats 1000000 in
theorem dwrite_any (h : DiskAt w db G d) {a : Int} (ha : (Lit.int .i64 a).wf = true) {v : Value} {p : List UInt8} (hp : Rd w v p) :
    Calls Tryz.prog 109 #[.pointer (some ⟨db, 0, none⟩), .int .i64 a, v] w (Leaves w db G (wrS d a p) (.int .i64 (wrX d a p))) := by
  obtain ⟨mb, B, C, hI⟩ := h
  have hM := hI.1
  have c3 := hM.c3
  have K := @drat_any w db d a hM.c0 hM.c1
  have hpl := hp.len
  obtain ⟨ad, cp, rfl⟩ := hp.form
  have REF : ∀ {x : Int} {w' : World}, wrS d a p = d → w' = w → Hid (∃ G', DiskAt w' db G' (wrS d a p) ∧ Grew G w G' w') := fun e1 e2 => by
    show ∃ G', _
    rw [e1, e2]
    exact ⟨G, ⟨mb, B, C, hI⟩, Grew.refl G w⟩
  by_cases hf : faX d a = 0
  · by_cases hb : OkB p
    · have eX : wrX d a p = 0 := by unfold wrX; rw [if_pos hf, if_pos hb]
      obtain ⟨hb1, hb2⟩ := hb
      have g1 : ¬ p.length = 0 := by omega
      have g2 : ¬ (p.length : Int) = 0 := by omega
      have g3 : ¬ 4108 < (p.length : Int) := by omega
      have q1 : ((p.length : Int) == 0) = false := beq_eq_false_iff_ne.2 g2
      have q3 : decide (4108 < (p.length : Int)) = false := decide_eq_false g3
      obtain ⟨b, off, rfl⟩ : ∃ b off, ad = some ⟨b, off, none⟩ := by
        rcases hp with ⟨_, _, h1, _⟩ | ⟨b, off, cap, _, h2, _⟩
        · rw [h1] at g1; exact absurd rfl g1
        · simp at h2; exact ⟨b, off, h2.1⟩
      have KC := @bclone_own p w ⟨b, off, none⟩ cp hp (by omega)
      rw [eX]
      rw [hf] at K
      go_enter Tryz.func109, Tryz.ntmps109
      go_wp2_with fail
      refine K.mono ?_
      rintro _ wq ⟨rfl, hwq⟩
      rw [hwq]
      clear hwq wq
      go_wp2_with fail
      have c3c : ∀ W, Below w.heap.size w W → W.cell? ⟨db, 3, none⟩ = some (.map (some (mb true))) := fun W hb => (hb.cell (p := ⟨db, 3, none⟩) (hM.lt db hM.gd)).trans c3
      go_region_held3 (fun wx => wx.cell? ⟨db, 3, none⟩ = some (.map (some (mb true)))) (first | exact c3 | assumption | exact c3c _ (by assumption)) (first
        | ((go_at_call 143; go_loud (refine (bclone_own (p := p) (by first | exact hp | exact hp.drewN 1) (by omega)).mono ?_); rintro _ w9 ⟨v9, rfl, R9, B9⟩; have C9 : Below w.heap.size w w9 := ⟨B9.os, B9.tape, B9.output, B9.size, B9.block⟩; obtain ⟨g9, k9, rfl, hg9, O9⟩ := owns_formD R9 g1; have I9 := hI.below C9; obtain ⟨w8, r8, t8, I8⟩ := DkIn.write I9 ha hf ⟨hb1, hb2⟩ O9 (fun e => by have := hM.lt _ e; have h9 : w.heap.size ≤ g9 := hg9; omega); have D8 := I8.1.c3)))
      have FIN : Hid (∃ G', DiskAt w8 db G' (wrS d a p) ∧ Grew G w G' w8) := ⟨_, ⟨mb, _, _, I8⟩, (Below.turnG C9 G).trans (mapTurned_turnG t8 (hM.gm true)), fun k hk => hk.elim Or.inl (fun e => Or.inr (by rw [e]; exact hg9))⟩
      clear I8 t8 r8 I9 O9 hg9 R9 C9 B9 c3c KC K hp hI hM REF c3 D8
      go_wp2
      go_ret
      exact ⟨rfl, FIN.out⟩
    · have eX : wrX d a p = 1 := by unfold wrX; rw [if_pos hf, if_neg hb]
      have F := REF (x := 0) (w' := w) (by unfold wrS; rw [if_neg (fun h => hb h.2)]) rfl
      rw [hf] at K
      rw [eX]
      clear eX REF hI hM c3 hp
      by_cases g1 : p.length = 0
      · have q1 : ((p.length : Int) == 0) = true := by rw [g1]; rfl
        go_enter Tryz.func109, Tryz.ntmps109
        go_wp2_with fail
        refine K.mono ?_
        rintro _ wq ⟨rfl, hwq⟩
        rw [hwq]
        clear hwq wq K
        go_wp2
        go_ret
        exact ⟨rfl, F.out⟩
      · have g3 : 4108 < (p.length : Int) := by have : ¬ (1 ≤ p.length ∧ p.length ≤ 4108) := hb; omega
        have g2 : ¬ (p.length : Int) = 0 := by omega
        have q1 : ((p.length : Int) == 0) = false := beq_eq_false_iff_ne.2 g2
        have q3 : decide (4108 < (p.length : Int)) = true := decide_eq_true g3
        go_enter Tryz.func109, Tryz.ntmps109
        go_wp2_with fail
        refine K.mono ?_
        rintro _ wq ⟨rfl, hwq⟩
        rw [hwq]
        clear hwq wq K
        go_wp2
        go_ret
        exact ⟨rfl, F.out⟩
  · have eX : wrX d a p = faX d a := by unfold wrX; rw [if_neg hf]
    have F := REF (x := 0) (w' := w) (by unfold wrS; rw [if_neg (fun h => hf h.1)]) rfl
    rw [eX]
    obtain ⟨x, hx⟩ : ∃ x, x = faX d a := ⟨_, rfl⟩
    rw [← hx] at hf K ⊢
    clear eX REF hI hM c3 hp hx
    have q1 : (x == 0) = false := beq_eq_false_iff_ne.2 hf
    go_enter Tryz.func109, Tryz.ntmps109
    go_wp2_with fail
    refine K.mono ?_
    rintro _ wq ⟨rfl, hwq⟩
    rw [hwq]
    clear hwq wq K
    go_wp2
    go_ret
    exact ⟨rfl, F.out⟩
end
end Go.Proofs.YtddnfhfangfgeaaGreat.Gf

namespace Go.Proofs.YtddnfhfangfgeaaGreat.Gf
set_option linter.unusedVariables false
set_option linter.unusedSimpArgs false
open Go.RowKit
section
variable {w : World} {db : Nat} {G : Nat → Prop} {d : DkS}
theorem own_none (w : World) (base e : Nat) : w.ownsRow base e 1 (.slice none 0 0) 0 [] := ⟨rfl, Or.inl ⟨rfl, rfl⟩⟩
/-- what Read answers -/
def Tells (w : World) (x : Int) (p : List UInt8) (e : Ending) (w' : World) : Prop := ∃ v, e = .returned (.tuple #[v, .int .i64 x]) ∧ w'.ownsRow w.heap.size 5 1 v p.length (p.map vb) ∧ Below w.heap.size w w'
theorem newV_rd {mb : Bool → Nat} {B C : Bool → Int → Nat} (h : DkM w db mb B C G d) (a : Int) : (newV d B C a = .slice none 0 0 ∧ atD d a = none) ∨ ∃ g c p, newV d B C a = .slice (some ⟨g, 0, none⟩) p.length c ∧ atD d a = some p ∧ Rd w (.slice (some ⟨g, 0, none⟩) p.length c) p ∧ p.length ≤ 4108 := by
  unfold newV atD valI
  cases hw : d.wait a with
  | some p => exact Or.inr ⟨B true a, C true a, p, rfl, rfl, Rd.owned (h.row true a p hw), (h.ins true a p hw).2.2.2⟩
  | none =>
    cases hl : d.last a with
    | none => exact Or.inl ⟨rfl, rfl⟩
    | some p => exact Or.inr ⟨B false a, C false a, p, rfl, rfl, Rd.owned (h.row false a p hl), (h.ins false a p hl).2.2.2⟩
set_option maxRecDepth 100000 in
set_option maxHeartbeats 1000000 in
theorem dread_any (h : DiskAt w db G d) {a : Int} (ha : (Lit.int .i64 a).wf = true) :
    Calls Tryz.prog 113 #[.pointer (some ⟨db, 0, none⟩), .int .i64 a] w (Tells w (faX d a) (rdB d a)) := by
  obtain ⟨mb, B, C, hI⟩ := h
  have hM := hI.1
  have K := @drat_any w db d a hM.c0 hM.c1
  have KN := dnew_any hM ha
  by_cases hf : faX d a = 0
  · have eR : rdB d a = (atD d a).getD [] := by unfold rdB; rw [if_pos hf]
    rw [hf] at K ⊢
    rw [eR]
    rcases newV_rd hM a with ⟨e1, e2⟩ | ⟨g, c, p, e1, e2, hR, hl⟩
    · rw [e1] at KN
      rw [e2]
      go_enter Tryz.func113, Tryz.ntmps113
      go_wp2_with fail
      refine K.mono ?_
      rintro _ wq ⟨rfl, hwq⟩
      rw [hwq]
      clear hwq wq K
      go_wp2_with fail
      refine KN.mono ?_
      rintro _ wq ⟨rfl, hwq⟩
      rw [hwq]
      clear hwq wq KN
      go_wp2_with fail
      refine (@bclone_nil w).mono ?_
      rintro _ wq ⟨rfl, hwq⟩
      rw [hwq]
      clear hwq wq
      go_wp2
      refine bodyPost_ret (v := .tuple #[.slice none 0 0, .int .i64 0]) (by simp [results, Tryz.results113, go_sem]) rfl ?_
      exact ⟨_, rfl, own_none _ _ _, Below.refl _ _⟩
    · rw [e1] at KN
      rw [e2]
      have KC := bclone_own hR (by omega)
      go_enter Tryz.func113, Tryz.ntmps113
      go_wp2_with fail
      refine K.mono ?_
      rintro _ wq ⟨rfl, hwq⟩
      rw [hwq]
      clear hwq wq K
      go_wp2_with fail
      refine KN.mono ?_
      rintro _ wq ⟨rfl, hwq⟩
      rw [hwq]
      clear hwq wq KN
      go_wp2_with fail
      refine KC.mono ?_
      rintro _ wq ⟨v, rfl, O1, B1⟩
      go_wp2
      refine bodyPost_ret (v := .tuple #[v, .int .i64 0]) (by simp [results, Tryz.results113, go_sem]) rfl ?_
      exact ⟨_, rfl, O1, B1⟩
  · have eR : rdB d a = [] := by unfold rdB; rw [if_neg hf]
    rw [eR]
    obtain ⟨x, hx⟩ : ∃ x, x = faX d a := ⟨_, rfl⟩
    rw [← hx] at hf K ⊢
    clear eR hI hM hx KN
    have q1 : (x == 0) = false := beq_eq_false_iff_ne.2 hf
    go_enter Tryz.func113, Tryz.ntmps113
    go_wp2_with fail
    refine K.mono ?_
    rintro _ wq ⟨rfl, hwq⟩
    rw [hwq]
    clear hwq wq K
    go_wp2
    refine bodyPost_ret (v := .tuple #[.slice none 0 0, .int .i64 x]) (by simp [results, Tryz.results113, go_sem]) rfl ?_
    exact ⟨_, rfl, own_none _ _ _, Below.refl _ _⟩
theorem dfail_any (h : DiskAt w db G d) : Calls Tryz.prog 57 #[.pointer (some ⟨db, 0, none⟩)] w (Leaves w db G (faS d) (.tuple #[])) := by
  obtain ⟨mb, B, C, hI⟩ := h
  have hM := hI.1
  have c1 := hM.c1
  have fz := hM.fz
  have M1 := hM.kill true
  obtain ⟨w1, w2, r1, t1, r2, t2, I2⟩ := M1.emptied
  have KE := demp_any M1 r1 t1 r2
  have FIN : Hid (∃ G', DiskAt w2 db G' (faS d) ∧ Grew G w G' w2) := ⟨G, ⟨mb, B, C, I2⟩, Grew.of_turn (((setCell_turnG hM.gd).trans (mapTurned_turnG t1 (hM.gm false))).trans (mapTurned_turnG t2 (hM.gm true)))⟩
  clear M1 hI hM r1 t1 r2 t2 I2
  go_enter Tryz.func57, Tryz.ntmps57
  go_wp2_with fail
  refine KE.mono ?_
  rintro _ wq ⟨rfl, hwq⟩
  rw [hwq]
  clear hwq wq KE
  go_wp2
  go_end0
  exact ⟨rfl, FIN.out⟩
theorem drepl_any (h : DiskAt w db G d) : Calls Tryz.prog 58 #[.pointer (some ⟨db, 0, none⟩)] w (Leaves w db G (reS d) (.tuple #[])) := by
  obtain ⟨mb, B, C, hI⟩ := h
  have hM := hI.1
  have c1 := hM.c1
  have fz := hM.fz
  have M1 := hM.kill false
  obtain ⟨w1, w2, r1, t1, r2, t2, I2⟩ := M1.emptied
  have KE := demp_any M1 r1 t1 r2
  have FIN : Hid (∃ G', DiskAt w2 db G' (reS d) ∧ Grew G w G' w2) := ⟨G, ⟨mb, B, C, I2⟩, Grew.of_turn (((setCell_turnG hM.gd).trans (mapTurned_turnG t1 (hM.gm false))).trans (mapTurned_turnG t2 (hM.gm true)))⟩
  clear M1 hI hM r1 t1 r2 t2 I2
  go_enter Tryz.func58, Tryz.ntmps58
  go_wp2_with fail
  refine KE.mono ?_
  rintro _ wq ⟨rfl, hwq⟩
  rw [hwq]
  clear hwq wq KE
  go_wp2
  go_end0
  exact ⟨rfl, FIN.out⟩
end
end Go.Proofs.YtddnfhfangfgeaaGreat.Gf



namespace Go.Proofs.YtddnfhfangfgeaaGreat.Gf
set_option linter.unusedVariables false
set_option linter.unusedSimpArgs false
open Go.RowKit
section
variable {w : World} {db : Nat} {G : Nat → Prop} {d : DkS} {mb : Bool → Nat} {B C : Bool → Int → Nat}
theorem owns_set {base e g c j : Nat} {p : List UInt8} (h : w.ownsRow base e 1 (.slice (some ⟨g, 0, none⟩) p.length c) p.length (p.map vb)) (y : UInt8) :
    (w.setCell ⟨g, j, none⟩ (vb y)).ownsRow base e 1 (.slice (some ⟨g, 0, none⟩) (p.set j y).length c) (p.set j y).length ((p.set j y).map vb) := by
  have e1 := (World.ownsRow.stored h j (vb y)).1
  rw [List.map_set, List.length_set]
  exact e1
/-- a byte of a sector is another one -/
theorem DkIn.change (h : DkIn w db mb B C G d) {q : Bool} {a : Int} {p : List UInt8} (hp : sideD d q a = some p) (j : Nat) (y : UInt8) (hd : d.dead = false) :
    DkIn (w.setCell ⟨B q a, j, none⟩ (vb y)) db mb B C G (setD d q (putB (sideD d q) a (p.set j y))) := by
  obtain ⟨hM, hi, ho⟩ := h
  have hb : ∀ k, k ≠ B q a → (w.setCell ⟨B q a, j, none⟩ (vb y)).heap[k]? = w.heap[k]? := fun k hk => Below.heap_setCell w ⟨B q a, j, none⟩ _ k hk
  have hdb := hb db (hM.row_db hp).symm
  have hv : ∀ r x, valI (sideD (setD d q (putB (sideD d q) a (p.set j y))) r) (B r) (C r) x = valI (sideD d r) (B r) (C r) x := by
    intro r x
    by_cases e : r = q
    · subst e
      rw [side_set]
      unfold valI putB
      by_cases ex : x = a
      · subst ex
        rw [if_pos rfl, hp]
        simp
      · rw [if_neg ex]
    · rw [side_other d e]
  have key : ∀ r x p1, sideD (setD d q (putB (sideD d q) a (p.set j y))) r x = some p1 → (r = q ∧ x = a ∧ p1 = p.set j y) ∨ (¬ (r = q ∧ x = a) ∧ sideD d r x = some p1) := by
    intro r x p1 h1
    by_cases e : r = q
    · subst e
      rw [side_set] at h1
      unfold putB at h1
      by_cases ex : x = a
      · rw [if_pos ex] at h1
        cases h1
        exact Or.inl ⟨rfl, ex, rfl⟩
      · rw [if_neg ex] at h1
        exact Or.inr ⟨fun h => ex h.2, h1⟩
    · rw [side_other d e] at h1
      exact Or.inr ⟨fun h => e h.1, h1⟩
  have hins : ∀ r, InS d.s (sideD (setD d q (putB (sideD d q) a (p.set j y))) r) := by
    intro r
    by_cases e : r = q
    · subst e
      rw [side_set]
      have h1 := hM.ins r a p hp
      exact (hM.ins r).put h1.1 h1.2.1 (by rw [List.length_set]; exact h1.2.2.1) (by rw [List.length_set]; exact h1.2.2.2)
    · rw [side_other d e]; exact hM.ins r
  refine ⟨⟨?_, ?_, ?_, ?_, ?_, fun r => ?_, fun r x p1 h1 => ?_, hM.gd, hM.gm, fun r x p1 h1 => ?_, fun k hk => by simpa using hM.lt k hk, hM.lw, fun r => ?_, ?_, ?_⟩, ?_, ?_⟩
  · rw [setD_s]; exact (World.cell?_of_block (w := w) hdb).trans hM.c0
  · rw [setD_dead]; exact (World.cell?_of_block (w := w) hdb).trans hM.c1
  · exact (World.cell?_of_block (w := w) hdb).trans hM.c2
  · exact (World.cell?_of_block (w := w) hdb).trans hM.c3
  · exact (World.frozen?_of_block (w := w) hdb).trans hM.fz
  · rw [setD_s]
    exact ((hM.mp r).of_block (hb _ (hM.row_ne hp r).symm)).congr fun x => (hv r x).symm
  · rcases key r x p1 h1 with ⟨rfl, rfl, rfl⟩ | ⟨h2, h3⟩
    · exact owns_set (hM.row r x p hp) y
    · exact owns_block (hM.row r x p1 h3) (fun g hg => by
        cases hg
        exact hb _ (fun e => h2 (hi _ _ _ _ _ _ h3 hp e)))
  · rcases key r x p1 h1 with ⟨rfl, rfl, rfl⟩ | ⟨h2, h3⟩
    · exact hM.gb r x p hp
    · exact hM.gb r x p1 h3
  · rw [setD_s]; exact hins r
  · rw [setD_s]; exact hM.s1
  · rw [setD_s]; exact hM.s2
  · intro r x p1 r' x' p2 h1 h2 hB
    have k1 : ∃ p', sideD d r x = some p' := by
      rcases key r x p1 h1 with ⟨rfl, rfl, _⟩ | ⟨_, h3⟩
      · exact ⟨p, hp⟩
      · exact ⟨p1, h3⟩
    have k2 : ∃ p', sideD d r' x' = some p' := by
      rcases key r' x' p2 h2 with ⟨rfl, rfl, _⟩ | ⟨_, h3⟩
      · exact ⟨p, hp⟩
      · exact ⟨p2, h3⟩
    obtain ⟨p1', k1⟩ := k1
    obtain ⟨p2', k2⟩ := k2
    exact hi _ _ _ _ _ _ k1 k2 hB
  · refine Ok.of_sides (by rw [setD_s]; exact hM.s1) (by rw [setD_s]; exact hM.s2) (fun r => by rw [setD_s]; exact hins r) (fun h => ?_)
    rw [setD_dead, hd] at h
    cases h
/-- which side it is that Read tells -/
theorem newV_side (h : DkM w db mb B C G d) (a : Int) : (newV d B C a = .slice none 0 0 ∧ atD d a = none) ∨ ∃ q p, newV d B C a = .slice (some ⟨B q a, 0, none⟩) p.length (C q a) ∧ sideD d q a = some p ∧ atD d a = some p ∧ ∀ at_ y, faX d a = 0 → coS d a at_ y = setD d q (putB (sideD d q) a (chB p at_ y)) := by
  unfold newV atD valI
  cases hw : d.wait a with
  | some p => exact Or.inr ⟨true, p, rfl, hw, rfl, fun at_ y hf => by unfold coS; rw [if_pos hf, hw]; rfl⟩
  | none =>
    cases hl : d.last a with
    | none => exact Or.inl ⟨rfl, rfl⟩
    | some p => exact Or.inr ⟨false, p, rfl, hl, rfl, fun at_ y hf => by unfold coS; rw [if_pos hf, hw, hl]; rfl⟩
set_option maxRecDepth 100000 in
set_option maxHeartbeats 1000000 in
theorem dcorr_any (h : DiskAt w db G d) {a at_ : Int} (ha : (Lit.int .i64 a).wf = true) (hat : (Lit.int .i64 at_).wf = true) (y : UInt8) :
    Calls Tryz.prog 59 #[.pointer (some ⟨db, 0, none⟩), .int .i64 a, .int .i64 at_, .int .u8 ((y.toNat : Nat) : Int)] w (Leaves w db G (coS d a at_ y) (.int .i64 (coX d a))) := by
  obtain ⟨mb, B, C, hI⟩ := h
  have hM := hI.1
  have K := @drat_any w db d a hM.c0 hM.c1
  have KN := dnew_any hM ha
  have REF : ∀ {w' : World}, coS d a at_ y = d → w' = w → Hid (∃ G', DiskAt w' db G' (coS d a at_ y) ∧ Grew G w G' w') := fun e1 e2 => by
    show ∃ G', _
    rw [e1, e2]
    exact ⟨G, ⟨mb, B, C, hI⟩, Grew.refl G w⟩
  by_cases hf : faX d a = 0
  · rw [hf] at K
    rcases newV_side hM a with ⟨e1, e2⟩ | ⟨q, p, e1, hp, e2, e3⟩
    · rw [e1] at KN
      have eX : coX d a = 1 := by unfold coX; rw [if_pos hf, if_pos e2]
      have eS : coS d a at_ y = d := by
        unfold coS atD at *
        rw [if_pos hf]
        cases hw : d.wait a with
        | some p => rw [hw] at e2; cases e2
        | none => rw [hw] at e2; simp only at e2 ⊢; rw [e2]
      have F := REF (w' := w) eS rfl
      rw [eX]
      clear eX eS REF hI hM e1 e2 hf hat ha
      go_enter Tryz.func59, Tryz.ntmps59
      go_wp2_with fail
      refine K.mono ?_
      rintro _ wq ⟨rfl, hwq⟩
      rw [hwq]
      clear hwq wq K
      go_wp2_with fail
      refine KN.mono ?_
      rintro _ wq ⟨rfl, hwq⟩
      rw [hwq]
      clear hwq wq KN
      go_wp2
      go_ret
      exact ⟨rfl, F.out⟩
    · rw [e1] at KN
      have eX : coX d a = 0 := by unfold coX; rw [if_pos hf, if_neg (by rw [e2]; simp)]
      have e3' := e3 at_ y hf
      have hdd := (faX_zero hf).1
      have hrow := hM.row q a p hp
      have hin := hM.ins q a p hp
      obtain ⟨j, hj⟩ : ∃ j, Hid (j = atN at_ p.length) := ⟨_, rfl⟩
      have hjl : j < p.length := by rw [hj.out]; exact Nat.mod_lt _ (by omega)
      have E : chB p at_ y = p.set j (co p j ^^^ y) := by unfold chB; rw [hj.out]
      have I2 := hI.change hp j (co p j ^^^ y) hdd
      rw [E] at e3'
      rw [← e3'] at I2
      have FIN : Hid (∃ G', DiskAt (w.setCell ⟨B q a, j, none⟩ (vb (co p j ^^^ y))) db G' (coS d a at_ y) ∧ Grew G w G' (w.setCell ⟨B q a, j, none⟩ (vb (co p j ^^^ y)))) := ⟨G, ⟨mb, B, C, I2⟩, Grew.of_turn (setCell_turnG (hM.gb q a p hp))⟩
      have cj : w.cell? ⟨B q a, j, none⟩ = some (.int .u8 (((co p j).toNat : Nat) : Int)) := by
        have := World.ownsRow.cellAt hrow j (by omega)
        rw [this, List.getElem?_map, List.getElem?_eq_getElem hjl, co_lt hjl]
        rfl
      have fj : w.frozen? ⟨B q a, j, none⟩ = false := World.ownsRow.frozenAt hrow j
      have X : bits .xor .u8 (((co p j).toNat : Nat) : Int) ((y.toNat : Nat) : Int) = (((co p j ^^^ y).toNat : Nat) : Int) := xor_u8 _ _
      have q1 : ((p.length : Int) == 0) = false := beq_eq_false_iff_ne.2 (by omega)
      rw [eX]
      clear eX REF hI hM e1 e2 e3 e3' I2 E hrow
      by_cases hneg : at_ < 0
      · obtain ⟨M, hM⟩ : ∃ M : Nat, at_ = -((M : Int) + 1) := ⟨(-(at_ + 1)).toNat, by omega⟩
        have hb := bounds_i64 hat
        have hjM : j = M % p.length := by rw [hj.out]; unfold atN; rw [if_pos hneg]; congr 1; omega
        have Z1 : wrap64 (at_ + 1) = -(M : Int) := by unfold wrap64; omega
        have Z2 : wrap64 (M : Int) = (M : Int) := by unfold wrap64; omega
        have T : ((M : Int)).tmod (p.length : Int) = (j : Int) := by rw [hjM]; exact (Int.ofNat_tmod M p.length).symm
        clear hjM hM hb hat hj
        go_enter Tryz.func59, Tryz.ntmps59
        go_wp2_with fail
        refine K.mono ?_
        rintro _ wq ⟨rfl, hwq⟩
        rw [hwq]
        clear hwq wq K
        go_wp2_with fail
        refine KN.mono ?_
        rintro _ wq ⟨rfl, hwq⟩
        rw [hwq]
        clear hwq wq KN
        go_wp2
        go_ret
        exact ⟨rfl, FIN.out⟩
      · obtain ⟨M, hM⟩ : ∃ M : Nat, at_ = (M : Int) := ⟨at_.toNat, by omega⟩
        have hjM : j = M % p.length := by rw [hj.out]; unfold atN; rw [if_neg hneg]; congr 1; omega
        subst hM
        have T : ((M : Int)).tmod (p.length : Int) = (j : Int) := by rw [hjM]; exact (Int.ofNat_tmod M p.length).symm
        clear hjM hat hj
        go_enter Tryz.func59, Tryz.ntmps59
        go_wp2_with fail
        refine K.mono ?_
        rintro _ wq ⟨rfl, hwq⟩
        rw [hwq]
        clear hwq wq K
        go_wp2_with fail
        refine KN.mono ?_
        rintro _ wq ⟨rfl, hwq⟩
        rw [hwq]
        clear hwq wq KN
        go_wp2
        go_ret
        exact ⟨rfl, FIN.out⟩
  · have eX : coX d a = faX d a := by unfold coX; rw [if_neg hf]
    have F := REF (w' := w) (by unfold coS; rw [if_neg hf]) rfl
    rw [eX]
    obtain ⟨x, hx⟩ : ∃ x, x = faX d a := ⟨_, rfl⟩
    rw [← hx] at hf K ⊢
    clear eX REF hI hM hx KN ha hat
    have q1 : (x == 0) = false := beq_eq_false_iff_ne.2 hf
    go_enter Tryz.func59, Tryz.ntmps59
    go_wp2_with fail
    refine K.mono ?_
    rintro _ wq ⟨rfl, hwq⟩
    rw [hwq]
    clear hwq wq K
    go_wp2
    go_ret
    exact ⟨rfl, F.out⟩
end
end Go.Proofs.YtddnfhfangfgeaaGreat.Gf

namespace Go.Proofs.YtddnfhfangfgeaaGreat.Gf
set_option linter.unusedVariables false
set_option linter.unusedSimpArgs false
open Go.RowKit
theorem new_at (w : World) {n : Int} (h1 : 1 ≤ n) (h2 : n ≤ 4096) (t : TypeId) :
    DiskAt (((w.alloc (.map #[] 0)).alloc (.map #[] 0)).alloc (.cells #[.int .i64 n, .bool false, .map (some w.heap.size), .map (some (w.heap.size + 1))] t)) (w.heap.size + 1 + 1) (fun k => w.heap.size ≤ k ∧ k < w.heap.size + 3) (newD n.toNat) := by
  have hn : ((n.toNat : Nat) : Int) = n := by omega
  obtain ⟨w1, hw1⟩ : ∃ w1, w1 = w.alloc (.map #[] 0) := ⟨_, rfl⟩
  obtain ⟨w2, hw2⟩ : ∃ w2, w2 = w1.alloc (.map #[] 0) := ⟨_, rfl⟩
  have s1 : w1.heap.size = w.heap.size + 1 := by rw [hw1]; simp
  have s2 : w2.heap.size = w.heap.size + 1 + 1 := by rw [hw2]; simp [s1]
  have m1 : MapI Tryz.prog 3 w1 w.heap.size n.toNat (fun _ => none) := by rw [hw1]; exact MapI.made _ _ w _
  have m2 : MapI Tryz.prog 3 w2 (w.heap.size + 1) n.toNat (fun _ => none) := by rw [hw2, ← s1]; exact MapI.made _ _ w1 _
  have b1 : Below w1.heap.size w1 w2 := by rw [hw2]; exact (Below.refl _ _).alloc (Nat.le_refl _) _
  have m1' := m1.below b1
  rw [← hw1, ← hw2, ← s2]
  obtain ⟨w3, hw3⟩ : ∃ w3, w3 = w2.alloc (.cells #[.int .i64 n, .bool false, .map (some w.heap.size), .map (some (w.heap.size + 1))] t) := ⟨_, rfl⟩
  have b2 : Below w2.heap.size w2 w3 := by rw [hw3]; exact (Below.refl _ _).alloc (Nat.le_refl _) _
  have m1'' := m1'.below b2
  have m2' := m2.below b2
  have s3 : w3.heap.size = w.heap.size + 3 := by rw [hw3]; simp [s2]
  have cc : ∀ i, w3.cell? ⟨w2.heap.size, i, none⟩ = (#[Value.int .i64 n, .bool false, .map (some w.heap.size), .map (some (w.heap.size + 1))])[i]? := fun i => by rw [hw3]; exact World.cell?_alloc_new _ _ _ _
  rw [← hw3]
  refine ⟨fun q => if q = true then w.heap.size + 1 else w.heap.size, fun _ _ => 0, fun _ _ => 0, ⟨?_, ?_, ?_, ?_, ?_, fun q => ?_, fun q x p hp => ?_, ⟨by omega, by omega⟩, fun q => ?_, fun q x p hp => ?_, fun k hk => by rw [s3]; exact hk.2, ?_, fun q => ?_, ?_, ?_⟩, ?_, newD_ok (by omega) (by omega)⟩
  · rw [cc]; show some (Value.int .i64 n) = _; rw [show (newD n.toNat).s = n.toNat from rfl, hn]
  · rw [cc]; rfl
  · rw [cc]; rfl
  · rw [cc]; rfl
  · rw [hw3]; simp [go_sem]
  · cases q
    · exact m1''
    · exact m2'
  · cases q <;> cases hp
  · cases q
    · exact ⟨Nat.le_refl _, by show w.heap.size < _; omega⟩
    · exact ⟨by show _ ≤ w.heap.size + 1; omega, by show w.heap.size + 1 < _; omega⟩
  · cases q <;> cases hp
  · show w.heap.size ≠ w.heap.size + 1
    omega
  · cases q <;> exact InS.none _
  · show 1 ≤ n.toNat
    omega
  · show n.toNat ≤ 4096
    omega
  · intro q x p r y p' h1
    cases q <;> cases h1
/-- a new disk -/
def NewsD (w : World) (n : Int) (e : Ending) (w' : World) : Prop := ∃ db G, e = .returned (.tuple #[.pointer (some ⟨db, 0, none⟩), .int .i64 0]) ∧ DiskAt w' db G (newD n.toNat) ∧ (∀ k, G k → w.heap.size ≤ k) ∧ Below w.heap.size w w'
theorem dmake_any {w : World} {n : Int} (h1 : 1 ≤ n) (h2 : n ≤ 4096) : Calls Tryz.prog 33 #[.int .i64 n] w (NewsD w n) := by
  have g1 : ¬ n < 1 := by omega
  have g2 : ¬ n > 4096 := by omega
  have MK : ∀ w : World, (Instr.makeMap 119 none).run Tryz.prog w = .ok (.map (some w.heap.size)) (w.alloc (.map #[] 0)) := fun w => by kernel_rfl
  go_enter Tryz.func33, Tryz.ntmps33
  go_wp2
  refine bodyPost_ret (v := .tuple #[.pointer (some ⟨w.heap.size + 1 + 1, 0, none⟩), .int .i64 0]) (by simp [results, Tryz.results33, go_sem]) rfl ?_
  refine ⟨_, _, rfl, new_at w h1 h2 _, fun k hk => hk.1, ?_⟩
  exact (((Below.refl _ _).alloc (Nat.le_refl _) _).alloc (by simp) _).alloc (by simp; omega) _
end Go.Proofs.YtddnfhfangfgeaaGreat.Gf

namespace Go.Proofs.YtddnfhfangfgeaaGreat.Gf
open Go.RowKit Go.Maps Go.Sort Go.Shelf
def laykeysA_ren : Go.Shelf.Ren := ⟨fun | 7 => 142 | 10 => 177 | n => n, fun | 23 => 119 | 26 => 3 | 3 => 36 | 28 => 183 | 0 => 0 | 27 => 182 | 33 => 161 | 4 => 4 | n => n, fun | n => n⟩
theorem laykeysA : Go.Proofs.SlLaysZI.n7 Tryz.prog laykeysA_ren where
  mixed := by kernel_rfl
  f7 := ⟨ "maps.Keys[map[int][]byte,int,[]byte]", by decide, Tryz.func142.trans (congrArg some (by kernel_rfl))⟩
  f10 := ⟨ "maps.Keys[map[int][]byte,int,[]byte]$1", by decide, Tryz.func177.trans (congrArg some (by kernel_rfl))⟩
  t0 := Tryz.underlying0
  a0 := Tryz.isAgg0
  z0 := Tryz.sizeOf0
  v0 := Tryz.zeroValue0
  t4 := Tryz.underlying4
  a4 := Tryz.isAgg4
  z4 := Tryz.sizeOf4
  v4 := Tryz.zeroValue4
  t23 := Tryz.underlying119
  a23 := Tryz.isAgg119
  z23 := Tryz.sizeOf119
  v23 := Tryz.zeroValue119
  t26 := Tryz.underlying3
  a26 := Tryz.isAgg3
  z26 := Tryz.sizeOf3
  v26 := Tryz.zeroValue3
  t27 := Tryz.underlying182
  a27 := Tryz.isAgg182
  z27 := Tryz.sizeOf182
  v27 := Tryz.zeroValue182
  t28 := Tryz.underlying183
  a28 := Tryz.isAgg183
  z28 := Tryz.sizeOf183
  v28 := Tryz.zeroValue183
  t33 := Tryz.underlying161
  a33 := Tryz.isAgg161
  z33 := Tryz.sizeOf161
  v33 := Tryz.zeroValue161
def laysortedA_ren : Go.Shelf.Ren := ⟨fun | 6 => 141 | 8 => 175 | 9 => 176 | 11 => 206 | 13 => 208 | 12 => 207 | 23 => 231 | 24 => 232 | 14 => 222 | 15 => 223 | 16 => 224 | 17 => 225 | 18 => 226 | 19 => 227 | 20 => 228 | 21 => 229 | 22 => 230 | 25 => 238 | 26 => 239 | 27 => 240 | 28 => 241 | 29 => 242 | 30 => 243 | 31 => 249 | n => n, fun | 26 => 3 | 28 => 183 | 24 => 45 | 0 => 0 | 3 => 3 | 37 => 118 | 48 => 165 | 50 => 251 | 4 => 4 | 40 => 243 | 39 => 242 | 45 => 247 | 5 => 5 | 9 => 9 | 51 => 255 | 55 => 259 | 57 => 265 | 58 => 266 | 33 => 161 | n => n, fun | n => n⟩
theorem laysortedA : Go.Proofs.SlLaysZI.n6 Tryz.prog laysortedA_ren where
  mixed := by kernel_rfl
  f6 := ⟨ "slices.Sorted[int]", by decide, Tryz.func141.trans (congrArg some (by kernel_rfl))⟩
  f8 := ⟨ "slices.Collect[int]", by decide, Tryz.func175.trans (congrArg some (by kernel_rfl))⟩
  f11 := ⟨ "slices.AppendSeq[[]int,int]", by decide, Tryz.func206.trans (congrArg some (by kernel_rfl))⟩
  t0 := Tryz.underlying0
  a0 := Tryz.isAgg0
  z0 := Tryz.sizeOf0
  v0 := Tryz.zeroValue0
  t24 := Tryz.underlying45
  a24 := Tryz.isAgg45
  z24 := Tryz.sizeOf45
  v24 := Tryz.zeroValue45
  t26 := Tryz.underlying3
  a26 := Tryz.isAgg3
  z26 := Tryz.sizeOf3
  v26 := Tryz.zeroValue3
  t28 := Tryz.underlying183
  a28 := Tryz.isAgg183
  z28 := Tryz.sizeOf183
  v28 := Tryz.zeroValue183
  i26 := by kernel_rfl
def laysortA_ren : Go.Shelf.Ren := ⟨fun | 5 => 176 | 8 => 208 | 7 => 207 | 19 => 231 | 20 => 232 | 10 => 222 | 11 => 223 | 12 => 224 | 13 => 225 | 14 => 226 | 15 => 227 | 16 => 228 | 17 => 229 | 18 => 230 | 30 => 238 | 31 => 239 | 32 => 240 | 33 => 241 | 34 => 242 | 35 => 243 | 40 => 249 | n => n, fun | 23 => 45 | 25 => 3 | 3 => 3 | 32 => 118 | 22 => 45 | 0 => 0 | 44 => 165 | 46 => 251 | 4 => 4 | 36 => 243 | 35 => 242 | 41 => 247 | 5 => 5 | 9 => 9 | 53 => 255 | 57 => 259 | 63 => 265 | 64 => 266 | n => n, fun | n => n⟩
theorem laysortA : Go.Proofs.SlLaysM.n5 Tryz.prog laysortA_ren where
  mixed := by kernel_rfl
  f5 := ⟨ "slices.Sort[[]int,int]", by decide, Tryz.func176.trans (congrArg some (by kernel_rfl))⟩
  f7 := ⟨ "slices.pdqsortOrdered[int]", by decide, Tryz.func207.trans (congrArg some (by kernel_rfl))⟩
  f8 := Tryz.func208.trans (congrArg some (by kernel_rfl))
  f10 := ⟨ "slices.insertionSortOrdered[int]", by decide, Tryz.func222.trans (congrArg some (by kernel_rfl))⟩
  f11 := ⟨ "slices.heapSortOrdered[int]", by decide, Tryz.func223.trans (congrArg some (by kernel_rfl))⟩
  f12 := ⟨ "slices.breakPatternsOrdered[int]", by decide, Tryz.func224.trans (congrArg some (by kernel_rfl))⟩
  f13 := ⟨ "slices.choosePivotOrdered[int]", by decide, Tryz.func225.trans (congrArg some (by kernel_rfl))⟩
  f14 := ⟨ "slices.reverseRangeOrdered[int]", by decide, Tryz.func226.trans (congrArg some (by kernel_rfl))⟩
  f15 := ⟨ "slices.partialInsertionSortOrdered[int]", by decide, Tryz.func227.trans (congrArg some (by kernel_rfl))⟩
  f16 := ⟨ "cmp.Less[int]", by decide, Tryz.func228.trans (congrArg some (by kernel_rfl))⟩
  f17 := ⟨ "slices.partitionEqualOrdered[int]", by decide, Tryz.func229.trans (congrArg some (by kernel_rfl))⟩
  f18 := ⟨ "slices.partitionOrdered[int]", by decide, Tryz.func230.trans (congrArg some (by kernel_rfl))⟩
  f19 := Tryz.func231.trans (congrArg some (by kernel_rfl))
  f20 := Tryz.func232.trans (congrArg some (by kernel_rfl))
  f30 := ⟨ "slices.siftDownOrdered[int]", by decide, Tryz.func238.trans (congrArg some (by kernel_rfl))⟩
  f31 := Tryz.func239.trans (congrArg some (by kernel_rfl))
  f32 := Tryz.func240.trans (congrArg some (by kernel_rfl))
  f33 := ⟨ "slices.medianAdjacentOrdered[int]", by decide, Tryz.func241.trans (congrArg some (by kernel_rfl))⟩
  f34 := ⟨ "slices.medianOrdered[int]", by decide, Tryz.func242.trans (congrArg some (by kernel_rfl))⟩
  f35 := ⟨ "cmp.isNaN[int]", by decide, Tryz.func243.trans (congrArg some (by kernel_rfl))⟩
  f40 := ⟨ "slices.order2Ordered[int]", by decide, Tryz.func249.trans (congrArg some (by kernel_rfl))⟩
  t0 := Tryz.underlying0
  a0 := Tryz.isAgg0
  z0 := Tryz.sizeOf0
  v0 := Tryz.zeroValue0
  t3 := Tryz.underlying3
  a3 := Tryz.isAgg3
  z3 := Tryz.sizeOf3
  v3 := Tryz.zeroValue3
  t4 := Tryz.underlying4
  a4 := Tryz.isAgg4
  z4 := Tryz.sizeOf4
  v4 := Tryz.zeroValue4
  t5 := Tryz.underlying5
  a5 := Tryz.isAgg5
  z5 := Tryz.sizeOf5
  v5 := Tryz.zeroValue5
  t9 := Tryz.underlying9
  a9 := Tryz.isAgg9
  z9 := Tryz.sizeOf9
  v9 := Tryz.zeroValue9
  t22 := Tryz.underlying45
  a22 := Tryz.isAgg45
  z22 := Tryz.sizeOf45
  v22 := Tryz.zeroValue45
  t23 := Tryz.underlying45
  a23 := Tryz.isAgg45
  z23 := Tryz.sizeOf45
  v23 := Tryz.zeroValue45
  t25 := Tryz.underlying3
  a25 := Tryz.isAgg3
  z25 := Tryz.sizeOf3
  v25 := Tryz.zeroValue3
  t32 := Tryz.underlying118
  a32 := Tryz.isAgg118
  z32 := Tryz.sizeOf118
  v32 := Tryz.zeroValue118
  t35 := Tryz.underlying242
  a35 := Tryz.isAgg242
  z35 := Tryz.sizeOf242
  v35 := Tryz.zeroValue242
  t36 := Tryz.underlying243
  a36 := Tryz.isAgg243
  z36 := Tryz.sizeOf243
  v36 := Tryz.zeroValue243
  t41 := Tryz.underlying247
  a41 := Tryz.isAgg247
  z41 := Tryz.sizeOf247
  v41 := Tryz.zeroValue247
  t44 := Tryz.underlying165
  a44 := Tryz.isAgg165
  z44 := Tryz.sizeOf165
  v44 := Tryz.zeroValue165
  t46 := Tryz.underlying251
  a46 := Tryz.isAgg251
  z46 := Tryz.sizeOf251
  v46 := Tryz.zeroValue251
  t53 := Tryz.underlying255
  a53 := Tryz.isAgg255
  z53 := Tryz.sizeOf255
  v53 := Tryz.zeroValue255
  t57 := Tryz.underlying259
  a57 := Tryz.isAgg259
  z57 := Tryz.sizeOf259
  v57 := Tryz.zeroValue259
  t63 := Tryz.underlying265
  a63 := Tryz.isAgg265
  z63 := Tryz.sizeOf265
  v63 := Tryz.zeroValue265
  t64 := Tryz.underlying266
  a64 := Tryz.isAgg266
  z64 := Tryz.sizeOf266
  v64 := Tryz.zeroValue266
end Go.Proofs.YtddnfhfangfgeaaGreat.Gf

namespace Go.Proofs.YtddnfhfangfgeaaGreat.Gf
set_option linter.unusedVariables false
set_option linter.unusedSimpArgs false
open Go.RowKit Go.Maps Go.Sort Go.Shelf
/-- the keys, rising -/
def keysL (f : Int → Option Value) (S : Nat) : List Int := ((List.range S).map fun i : Nat => (i : Int)).filter fun x => (f x).isSome
theorem keysL_mem {f : Int → Option Value} {S : Nat} {x : Int} : x ∈ keysL f S ↔ 0 ≤ x ∧ x < (S : Int) ∧ (f x).isSome = true := by
  unfold keysL
  rw [List.mem_filter, List.mem_map]
  constructor
  · rintro ⟨⟨i, hi, rfl⟩, h⟩
    rw [List.mem_range] at hi
    exact ⟨by omega, by omega, h⟩
  · rintro ⟨h0, h1, h2⟩
    exact ⟨⟨x.toNat, List.mem_range.2 (by omega), by omega⟩, h2⟩
theorem keysL_rising (f : Int → Option Value) (S : Nat) : (keysL f S).Pairwise (· < ·) := by
  unfold keysL
  refine List.Pairwise.filter _ ?_
  rw [List.pairwise_map]
  exact List.pairwise_lt_range.imp (fun h => by omega)
theorem keysL_nodup (f : Int → Option Value) (S : Nat) : (keysL f S).Nodup := (keysL_rising f S).imp (fun h => by omega)
theorem keysL_length (f : Int → Option Value) (S : Nat) : (keysL f S).length ≤ S := by
  unfold keysL
  have := List.length_filter_le (fun x => (f x).isSome) ((List.range S).map fun i : Nat => (i : Int))
  simpa using this
theorem sorted_keys {f : Int → Option Value} {S : Nat} {ss : List Int} (h : ss.Perm (keysL f S)) : ss.mergeSort (fun x y => decide (x ≤ y)) = keysL f S := by
  have tr : ∀ a b c : Int, decide (a ≤ b) = true → decide (b ≤ c) = true → decide (a ≤ c) = true := fun a b c h1 h2 => by simp only [decide_eq_true_eq] at *; omega
  have tO : ∀ a b : Int, (decide (a ≤ b) || decide (b ≤ a)) = true := fun a b => by simp only [Bool.or_eq_true, decide_eq_true_eq]; omega
  refine List.Perm.eq_of_pairwise (le := fun a b => decide (a ≤ b) = true) (fun a b _ _ h1 h2 => ?_) (List.pairwise_mergeSort tr tO ss) ((keysL_rising f S).imp (fun h => decide_eq_true (by omega))) ((List.mergeSort_perm ss _).trans h)
  simp only [decide_eq_true_eq] at h1 h2
  omega
theorem sortsA (m : Nat) : AnyZI.SortsIn Tryz.prog laysortedA_ren Fence.wide m :=
  ⟨fun blk off cap ss W hH hblk hsz => callsIn_wide.2 (AnyM.slices_Sort_int laysortA blk off cap ss W hH hblk hsz),
   fun p cap W => callsIn_wide.2 (AnyM.slices_Sort_int_none laysortA p cap W)⟩
theorem keys_call (mb : Option Nat) (W : World) : Calls Tryz.prog 142 #[.map mb] W fun e w' => e = .returned (.func (.func 177) #[] #[.pointer (some ⟨W.heap.size, 0, none⟩)]) ∧ w' = W.alloc (.cells #[.map mb] 119) :=
  (callsIn_wide (n := 5)).1 (AnyZI.keys_in laykeysA Fence.wide 5 trivial rfl mb W)
theorem sorted_call {w : World} {b S : Nat} {f : Int → Option Value} (h : MapI Tryz.prog 3 w b S f) (hS : S ≤ 4096) :
    Calls Tryz.prog 141 #[.func (.func 177) #[] #[.pointer (some ⟨w.heap.size, 0, none⟩)]] (w.alloc (.cells #[.map (some b)] 119)) fun e w' => ∃ v, e = .returned v ∧ w'.ownsRow w.heap.size 3 1 v (keysL f S).length ((keysL f S).map encZ) ∧ Below w.heap.size w w' := by
  have hbl := h.lt
  obtain ⟨D0, hown, hk, hf⟩ := h
  obtain ⟨es, hE, hp, hl⟩ := hown.entries keyed_int
  have hkI : ∀ p ∈ es, ∃ x, p.1 = .int .i64 x := by
    intro p hp1
    obtain ⟨x, e, _⟩ := hk p.1 (by
      rw [hE, Maps.has_eq, List.any_eq_true]
      exact ⟨p, hp1, WideAt.sameKey_self (hl p hp1)⟩)
    exact ⟨x, e⟩
  have hperm : (keysL f S).Perm (intKeys D0) := by
    rw [hE]
    refine perm_intKeys hp hkI (keysL_nodup f S) fun x => ?_
    rw [← hE, keysL_mem]
    rcases hf x with ⟨h1, h2⟩ | ⟨v, h1, h2, _⟩
    · rw [h1, h2]; simp
    · rw [h2, h1]
      obtain ⟨y, e, hy⟩ := hk _ h2
      simp at e
      subst e
      simp [hy]
  have hsz : Maps.size D0 ≤ 4096 := Nat.le_trans (by
    obtain ⟨es', clock, hb, F, hs, rfl⟩ := hown
    simp [Maps.size, length_sorted]
    exact hs) hS
  have hseq : SeqGives Fence.wide 2 Tryz.prog 177 #[.pointer (some ⟨w.heap.size, 0, none⟩)] encZ (fun ss => ss.Perm (intKeys D0)) (Maps.size D0) (w.alloc (.cells #[.map (some b)] 119)) :=
    AnyZI.keys_gives (ρ := laykeysA_ren) { laykeysA with } Fence.wide _ trivial rfl (by omega) w.heap.size b S D0 _ (by simp) (by simp) (by
      obtain ⟨es, clock, hb, Ft, hs, hD⟩ := hown
      exact ⟨es, clock, (Below.heap_alloc _ _ b hbl).trans hb, Ft, hs, hD⟩)
  have cS := AnyZI.sorted_in laysortedA Fence.wide 5 trivial trivial trivial trivial rfl (by omega) (sortsA _) (enters_of Tryz.func176 (by kernel_rfl) rfl) 177 #[.pointer (some ⟨w.heap.size, 0, none⟩)] trivial (enters_of Tryz.func177 (by kernel_rfl) rfl) _ _ (by unfold maxLen; omega) (by omega) _ hseq
  refine (Calls.mono ((callsIn_wide (n := 5)).1 cS) ?_)
  rintro e w' ⟨v, ss, rfl, hS, hrow, hnil, hb⟩
  refine ⟨v, rfl, ?_, ((Below.refl _ w).alloc (Nat.le_refl _) _).trans (hb.mono (by simp))⟩
  have hp2 := hS.trans hperm.symm
  have e1 := sorted_keys hp2
  rw [e1, hp2.length_eq] at hrow
  exact ownsRow_base hrow (by simp)
end Go.Proofs.YtddnfhfangfgeaaGreat.Gf

