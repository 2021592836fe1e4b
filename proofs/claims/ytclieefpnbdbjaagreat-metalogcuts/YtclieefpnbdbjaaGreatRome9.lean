/- TEXTS JOINED: SeCD, DkAt, DkAp, DkCA. -/
import Derived.Test.YtclieefpnbdbjaaGreatRome8
import Derived.Test.YtclieefpnbdbjaaGreatRome4
import Derived.Test.YtclieefpnbdbjaaGreatRome6
namespace Go.Proofs.YtclieefpnbdbjaaGreat.Gf
set_option linter.unusedVariables false
set_option linter.unusedSimpArgs false
open Go.RowKit
/-- .. in new memory -/
def MakesUF (w : World) (N : Nat) (D : List UInt8) (X : Int) (e : Ending) (w' : World) : Prop := ∃ v, e = .returned (.tuple #[.int .i64 (N : Int), v, .int .i64 X]) ∧ Rd w' v D ∧ FarV w v ∧ Below w.heap.size w w'
/-- a part of bytes -/
theorem Rd.cutS {w : World} {b off n c : Nat} {p : List UInt8} (h : Rd w (.slice (some ⟨b, off, none⟩) n c) p) {i m c' : Nat} (hm : i + m ≤ p.length) (hi : 0 < p.length) (hc : c' = c - i) : Rd w (.slice (some ⟨b, off + i, none⟩) m c') ((p.drop i).take m) := by
  rcases h with ⟨a, c0, e, _⟩ | ⟨b', off', c0, h1, h2, h3, h4, h5, h6⟩
  · subst e; simp at hi
  · simp at h2
    obtain ⟨⟨rfl, rfl⟩, rfl, rfl⟩ := h2
    subst hc
    have hl : ((p.drop i).take m).length = m := by rw [List.length_take, List.length_drop]; omega
    by_cases h0 : m = 0
    · subst h0
      exact Or.inl ⟨_, _, rfl, rfl, by omega, fun e => by cases e⟩
    · refine Or.inr ⟨b, off + i, c - i, fun e => by rw [e] at hl; simp at hl; omega, by rw [hl], by rw [hl]; omega, by omega, h5, fun j hj => ?_⟩
      rw [hl] at hj
      rw [co_take hj, co_drop0, Nat.add_assoc]
      exact h6 (i + j) (by omega)
set_option maxRecDepth 100000 in
set_option maxHeartbeats 4000000 in
theorem sunpack_far {a : Int} {v : Value} {p : List UInt8} {w : World} (hp : Rd w v p) (hl : p.length ≤ 100000) : Calls Tryz.prog 187 #[.int .i64 a, v] w (MakesUF w (upN a p) (upD a p) (upX a p)) := by
  by_cases h12 : 12 ≤ p.length
  · rcases hp.form with ⟨va, vc, rfl⟩
    rcases hp with ⟨a', c', rfl, _⟩ | ⟨b, o, c', hp0, e0, h1, h2, h3, hpc⟩
    · simp at h12
    simp at e0
    obtain ⟨rfl, rfl⟩ := e0
    have hp : Rd w (.slice (some ⟨b, o, none⟩) p.length vc) p := Or.inr ⟨b, o, vc, hp0, rfl, h1, h2, h3, hpc⟩
    clear hpc hp0
    have hlt : ¬ (p.length : Int) < 12 := by omega
    obtain ⟨n4, hn4⟩ : ∃ n4, Hid (n4 = p.length - 4) := ⟨_, rfl⟩
    have hn5 : n4 + 4 = p.length := by have := hn4.out; omega
    have g0 : (p.length : Int) - 4 = (n4 : Int) := by omega
    have gw : IntKind.i64.wrap (n4 : Int) = (n4 : Int) := by rw [IntKind.wrap_i64]; omega
    have g1 : (n4 : Int) ≤ (p.length : Int) := by omega
    have g2 : (8 : Int) ≤ (n4 : Int) := by omega
    have g3 : 8 ≤ n4 := by omega
    have g4 : n4 ≤ vc := by omega
    have g5 : (n4 : Int) ≤ (vc : Int) := by omega
    have g6 : ¬ vc = 8 := by omega
    have hda : Rd w (.slice (some ⟨b, o + 8, none⟩) (n4 - 8) (vc - 8)) (daS p) := hp.cutS (i := 8) (m := n4 - 8) (by omega) (by omega) rfl |> (by rw [show daS p = (p.drop 8).take (n4 - 8) by unfold daS; congr 1; omega]; exact ·)
    have hdl := daS_length p
    by_cases hk : OkSe a ((epS p : Nat) : Int) (daS p).length
    · have px := pa_ok hk
      rw [Int.toNat_natCast] at px
      have hpk : (pkS a.toNat (epS p) (daS p)).length = p.length := by rw [pk_length]; omega
      by_cases hs : pkS a.toNat (epS p) (daS p) = p
      · have hu : OkUe a p := ⟨h12, hk, hs⟩
        rw [(up_ok hu).1, (up_ok hu).2.1, (up_ok hu).2.2]
        have ds : sameB (pkS a.toNat (epS p) (daS p)) p = true := decide_eq_true hs
        clear hs hu
        go_enter Tryz.func187, Tryz.ntmps187
        go_wp2_with fail
        refine (snum_any hp h12).mono ?_
        rintro e' w' ⟨rfl, rfl⟩
        go_wp2_with fail
        obtain ⟨wo, hwo⟩ : ∃ wo, wo = w' := ⟨_, rfl⟩
        subst hwo
        refine (spack_any hda).mono ?_
        rintro e' w1 ⟨v1, rfl, R1, B1⟩
        rw [px.1]
        rw [px.2] at R1
        obtain ⟨a1, c1, rfl⟩ := R1.form
        rw [hpk] at R1 ⊢
        replace hp := hp.below B1
        replace hda := hda.below B1
        go_wp2_with fail
        refine (beq_any R1 hp).mono ?_
        rintro e' w2 ⟨rfl, rfl⟩
        rw [ds]
        go_wp2_with fail
        obtain ⟨w1, hw1⟩ : ∃ w1, w1 = w2 := ⟨_, rfl⟩
        subst hw1
        have hn8 : n4 - 8 = (daS p).length := by omega
        rw [hn8] at hda ⊢
        refine (sclone_any hda (by omega)).mono ?_
        rintro e' w3 ⟨v3, rfl, R3, V3, B3⟩
        have HV : Hid (FarV wo v3) := fun x n c e => (V3 x n c e).imp id fun q => Nat.le_trans B1.size q
        have HB : Hid (Below wo.heap.size wo w3) := Below.step B1 B3
        clear R1 hp hda B1 B3 V3
        go_wp2
        go_ret3
        exact ⟨_, rfl, R3, HV.out, HB.out⟩
      · have hn : ¬ OkUe a p := fun h => hs h.2.2
        rw [(up_not hn).1, (up_not hn).2.1, (up_not hn).2.2]
        have ds : sameB (pkS a.toNat (epS p) (daS p)) p = false := decide_eq_false hs
        go_enter Tryz.func187, Tryz.ntmps187
        go_wp2_with fail
        refine (snum_any hp h12).mono ?_
        rintro e' w' ⟨rfl, rfl⟩
        go_wp2_with fail
        obtain ⟨wo, hwo⟩ : ∃ wo, wo = w' := ⟨_, rfl⟩
        subst hwo
        refine (spack_any hda).mono ?_
        rintro e' w1 ⟨v1, rfl, R1, B1⟩
        rw [px.1]
        rw [px.2] at R1
        obtain ⟨a1, c1, rfl⟩ := R1.form
        rw [hpk] at R1 ⊢
        replace hp := hp.below B1
        have HB : Hid (Below wo.heap.size wo w1) := B1
        clear hda B1
        go_wp2_with fail
        refine (beq_any R1 hp).mono ?_
        rintro e' w2 ⟨rfl, rfl⟩
        rw [ds]
        clear R1 hp
        go_wp2
        go_ret3
        exact ⟨_, rfl, rd_nil0, FarV.nil _ _ _, HB.out⟩
    · have px := pa_not hk
      have hn : ¬ OkUe a p := fun h => hk h.2.1
      rw [(up_not hn).1, (up_not hn).2.1, (up_not hn).2.2]
      go_enter Tryz.func187, Tryz.ntmps187
      go_wp2_with fail
      refine (snum_any hp h12).mono ?_
      rintro e' w' ⟨rfl, rfl⟩
      go_wp2_with fail
      obtain ⟨wo, hwo⟩ : ∃ wo, wo = w' := ⟨_, rfl⟩
      subst hwo
      refine (spack_any hda).mono ?_
      rintro e' w1 ⟨v1, rfl, R1, B1⟩
      rw [px.1]
      have HB : Hid (Below wo.heap.size wo w1) := B1
      clear hda B1 R1 hp
      go_wp2
      go_ret3
      exact ⟨_, rfl, rd_nil0, FarV.nil _ _ _, HB.out⟩
  · have hn : ¬ OkUe a p := fun h => h12 h.1
    rw [(up_not hn).1, (up_not hn).2.1, (up_not hn).2.2]
    obtain ⟨va, vc, rfl⟩ := hp.form
    have hlt : (p.length : Int) < 12 := by omega
    go_enter Tryz.func187, Tryz.ntmps187
    go_wp2
    go_ret3
    exact ⟨_, rfl, rd_nil0, FarV.nil _ _ _, Below.refl _ _⟩
end Go.Proofs.YtclieefpnbdbjaaGreat.Gf

namespace Go.Proofs.YtclieefpnbdbjaaGreat.Gf
set_option linter.unusedVariables false
set_option linter.unusedSimpArgs false
open Go.RowKit
open Go.Maps (Keyed)
open Go.ChangeMaps Go.MapKept
/-- a side of a disk: what waits (true), or what lasts -/
def sideD (d : DkS) (q : Bool) : Int → Option (List UInt8) := if q = true then d.wait else d.last
def setD (d : DkS) (q : Bool) (f : Int → Option (List UInt8)) : DkS := if q = true then { d with wait := f } else { d with last := f }
theorem setD_s (d : DkS) (q : Bool) (f : Int → Option (List UInt8)) : (setD d q f).s = d.s := by cases q <;> rfl
theorem setD_dead (d : DkS) (q : Bool) (f : Int → Option (List UInt8)) : (setD d q f).dead = d.dead := by cases q <;> rfl
theorem side_set (d : DkS) (q : Bool) (f : Int → Option (List UInt8)) : sideD (setD d q f) q = f := by cases q <;> rfl
theorem side_other (d : DkS) {q r : Bool} (h : r ≠ q) (f : Int → Option (List UInt8)) : sideD (setD d q f) r = sideD d r := by cases q <;> cases r <;> first | rfl | exact absurd rfl h
def valI (f : Int → Option (List UInt8)) (B C : Int → Nat) (x : Int) : Option Value := (f x).map fun p => .slice (some ⟨B x, 0, none⟩) p.length (C x)
def delB (f : Int → Option (List UInt8)) (x : Int) : Int → Option (List UInt8) := fun y => if y = x then none else f y
def updQ (B : Bool → Int → Nat) (q : Bool) (a : Int) (g : Nat) : Bool → Int → Nat := fun r x => if r = q ∧ x = a then g else B r x
theorem updQ_at (B : Bool → Int → Nat) (q : Bool) (a : Int) (g : Nat) : updQ B q a g q a = g := if_pos ⟨rfl, rfl⟩
theorem updQ_ne (B : Bool → Int → Nat) {q r : Bool} {a x : Int} (h : ¬ (r = q ∧ x = a)) (g : Nat) : updQ B q a g r x = B r x := if_neg h
theorem valI_put (f : Int → Option (List UInt8)) (B C : Bool → Int → Nat) (q : Bool) (a : Int) (g c : Nat) (p : List UInt8) (x : Int) :
    valI (putB f a p) (updQ B q a g q) (updQ C q a c q) x = putI (valI f (B q) (C q)) a (.slice (some ⟨g, 0, none⟩) p.length c) x := by
  unfold valI putB putI
  by_cases h : x = a
  · subst h
    rw [if_pos rfl, if_pos rfl, updQ_at, updQ_at]
    rfl
  · rw [if_neg h, if_neg h, updQ_ne B (fun e => h e.2), updQ_ne C (fun e => h e.2)]
theorem valI_del (f : Int → Option (List UInt8)) (B C : Int → Nat) (a x : Int) : valI (delB f a) B C x = delI (valI f B C) a x := by
  unfold valI delB delI
  by_cases h : x = a
  · rw [if_pos h, if_pos h]; rfl
  · rw [if_neg h, if_neg h]
structure DkM (w : World) (db : Nat) (mb : Bool → Nat) (B C : Bool → Int → Nat) (G : Nat → Prop) (d : DkS) : Prop where
  c0 : w.cell? ⟨db, 0, none⟩ = some (.int .i64 (d.s : Int))
  c1 : w.cell? ⟨db, 1, none⟩ = some (.bool d.dead)
  c2 : w.cell? ⟨db, 2, none⟩ = some (.map (some (mb false)))
  c3 : w.cell? ⟨db, 3, none⟩ = some (.map (some (mb true)))
  fz : w.frozen? ⟨db, 1, none⟩ = false
  mp : ∀ q, MapI Tryz.prog 3 w (mb q) d.s (valI (sideD d q) (B q) (C q))
  row : ∀ q x p, sideD d q x = some p → w.ownsRow 0 5 1 (.slice (some ⟨B q x, 0, none⟩) p.length (C q x)) p.length (p.map vb)
  gd : G db
  gm : ∀ q, G (mb q)
  gb : ∀ q x p, sideD d q x = some p → G (B q x)
  lt : ∀ k, G k → k < w.heap.size
  lw : mb false ≠ mb true
  ins : ∀ q, InS d.s (sideD d q)
  s1 : 1 ≤ d.s
  s2 : d.s ≤ 4096
def InjD (d : DkS) (B : Bool → Int → Nat) : Prop := ∀ q x p r y p', sideD d q x = some p → sideD d r y = some p' → B q x = B r y → q = r ∧ x = y
def DkIn (w : World) (db : Nat) (mb : Bool → Nat) (B C : Bool → Int → Nat) (G : Nat → Prop) (d : DkS) : Prop := DkM w db mb B C G d ∧ InjD d B ∧ d.Ok
def DiskAt (w : World) (db : Nat) (G : Nat → Prop) (d : DkS) : Prop := ∃ mb B C, DkIn w db mb B C G d
theorem keyed_int : Keyed Tryz.prog 3 := Maps.int_keyed (q := .i64) (by kernel_rfl)
theorem under_map : Tryz.prog.underlying 152 = some (.map 3 42) := by kernel_rfl
theorem zero_bytes (w : World) : (zeroValue 42).run Tryz.prog w = .ok (.slice none 0 0) w := by kernel_rfl
theorem key_int {x : Int} (h : (Lit.int .i64 x).wf = true) : keyOf Tryz.prog 3 (.int .i64 x) = some (.int .i64 x) := by
  have : Tryz.prog.underlying 3 = some (.int .i64) := by kernel_rfl
  simp [keyOf, this, mapKey, h]
theorem MapI.isMap {P : Program} {K b S : Nat} {w : World} {f : Int → Option Value} (h : MapI P K w b S f) : ∃ es clock, w.heap[b]? = some (.map es clock) := by
  obtain ⟨D, ⟨es, clock, hb, _⟩, _⟩ := h
  exact ⟨es, clock, hb⟩
theorem MapI.noCell {P : Program} {K b S : Nat} {w : World} {f : Int → Option Value} (h : MapI P K w b S f) (o : Nat) : w.cell? ⟨b, o, none⟩ = none := by
  obtain ⟨es, clock, hb⟩ := h.isMap
  unfold World.cell?
  rw [hb]
theorem row_cells {w : World} {e g n c : Nat} {xs : List Value} (h : w.ownsRow 0 e 1 (.slice (some ⟨g, 0, none⟩) n c) n xs) : ∃ cur, w.heap[g]? = some (.cells cur e (0, 0)) := by
  obtain ⟨h0, h | ⟨g', cap, cur, hv, hg, hh, r⟩⟩ := h
  · simp at h
  · simp at hv
    obtain ⟨rfl, _⟩ := hv
    exact ⟨cur, hh⟩
section
variable {w w' : World} {db : Nat} {mb : Bool → Nat} {B C : Bool → Int → Nat} {G : Nat → Prop} {d : DkS}
theorem DkM.db_ne (h : DkM w db mb B C G d) (q : Bool) : db ≠ mb q := fun e => by
  have h1 := (h.mp q).noCell 0
  rw [← e, h.c0] at h1
  cases h1
theorem DkM.row_db (h : DkM w db mb B C G d) {q : Bool} {x : Int} {p : List UInt8} (hp : sideD d q x = some p) : B q x ≠ db := fun e => by
  have h1 := Rd.owned (h.row q x p hp)
  have h2 := h.ins q x p hp
  rcases h1 with ⟨_, _, h3, _⟩ | ⟨b, off, cap, h3, h4, _, _, _, h5⟩
  · rw [h3] at h2; simp at h2
  · have h6 := h5 0 (by omega)
    simp at h4
    obtain ⟨⟨rfl, rfl⟩, _⟩ := h4
    rw [e, Nat.add_zero, h.c0] at h6
    simp at h6
theorem DkM.mb_ne (h : DkM w db mb B C G d) {q r : Bool} (e : q ≠ r) : mb q ≠ mb r := by
  have := h.lw
  cases q <;> cases r <;> first | exact absurd rfl e | assumption | exact Ne.symm this
/-- blocks of the disk that have not turned -/
theorem DkM.keep (h : DkM w db mb B C G d) (hk : ∀ k, G k → w'.heap[k]? = w.heap[k]?) (hs : w.heap.size ≤ w'.heap.size) : DkM w' db mb B C G d where
  c0 := (World.cell?_of_block (w := w) (hk db h.gd)).trans h.c0
  c1 := (World.cell?_of_block (w := w) (hk db h.gd)).trans h.c1
  c2 := (World.cell?_of_block (w := w) (hk db h.gd)).trans h.c2
  c3 := (World.cell?_of_block (w := w) (hk db h.gd)).trans h.c3
  fz := (World.frozen?_of_block (w := w) (hk db h.gd)).trans h.fz
  mp := fun q => (h.mp q).of_block (hk _ (h.gm q))
  row := fun q x p hp => owns_block (h.row q x p hp) (fun g hg => by
    cases hg
    exact hk _ (h.gb q x p hp))
  gd := h.gd
  gm := h.gm
  gb := h.gb
  lt := fun k hk => Nat.lt_of_lt_of_le (h.lt k hk) hs
  lw := h.lw
  ins := h.ins
  s1 := h.s1
  s2 := h.s2
theorem DkM.below (h : DkM w db mb B C G d) (hb : Below w.heap.size w w') : DkM w' db mb B C G d := h.keep (fun k hk => hb.block k (h.lt k hk)) hb.size
theorem DiskAt.below (h : DiskAt w db G d) (hb : Below w.heap.size w w') : DiskAt w' db G d := by
  obtain ⟨mb, B, C, h1, h2, h3⟩ := h
  exact ⟨mb, B, C, h1.below hb, h2, h3⟩
theorem DiskAt.keep (h : DiskAt w db G d) (hk : ∀ k, G k → w'.heap[k]? = w.heap[k]?) (hs : w.heap.size ≤ w'.heap.size) : DiskAt w' db G d := by
  obtain ⟨mb, B, C, h1, h2, h3⟩ := h
  exact ⟨mb, B, C, h1.keep hk hs, h2, h3⟩
theorem DiskAt.lt (h : DiskAt w db G d) : ∀ k, G k → k < w.heap.size := by
  obtain ⟨mb, B, C, h1, h2, h3⟩ := h
  exact h1.lt
theorem mapTurned_os {b : Nat} (h : w.mapTurned w' b) : w'.os = w.os ∧ w'.tape = w.tape ∧ w'.output = w.output ∧ w'.heap.size = w.heap.size := by
  obtain ⟨es, clock, es', clock', hb, rfl⟩ := h
  refine ⟨rfl, rfl, rfl, ?_⟩
  simp [setBlock]
theorem mapTurned_turnG {b : Nat} (h : w.mapTurned w' b) (hg : G b) : TurnG G w w' := by
  obtain ⟨h1, h2, h3, h4⟩ := mapTurned_os h
  exact ⟨h1, h2, h3, by rw [h4]; exact Nat.le_refl _, fun k _ hk => mapTurned_block h (fun e => hk (by rw [e]; exact hg))⟩
theorem InS.del {s : Nat} {f : Int → Option (List UInt8)} (h : InS s f) (x : Int) : InS s (delB f x) := by
  intro y b e
  unfold delB at e
  by_cases hy : y = x
  · rw [if_pos hy] at e; cases e
  · rw [if_neg hy] at e; exact h y b e
/-- a map of the disk has turned; its other parts stand -/
theorem DkM.turned (h : DkM w db mb B C G d) {q : Bool} (ht : w.mapTurned w' (mb q)) {B' C' : Bool → Int → Nat} {f : Int → Option (List UInt8)} (G' : Nat → Prop) (hG : ∀ k, G k → G' k) (hlt : ∀ k, G' k → k < w.heap.size)
    (hm : MapI Tryz.prog 3 w' (mb q) d.s (valI f (B' q) (C' q))) (hB : ∀ r, r ≠ q → ∀ x, B' r x = B r x) (hC : ∀ r, r ≠ q → ∀ x, C' r x = C r x) (hf : InS d.s f)
    (hr : ∀ x p, f x = some p → G' (B' q x) ∧ w.ownsRow 0 5 1 (.slice (some ⟨B' q x, 0, none⟩) p.length (C' q x)) p.length (p.map vb)) : DkM w' db mb B' C' G' (setD d q f) := by
  have hb : ∀ k, k ≠ mb q → w'.heap[k]? = w.heap[k]? := fun k hk => mapTurned_block ht hk
  have hs := (mapTurned_os ht).2.2.2
  have hdb := hb db (h.db_ne q)
  have hne : ∀ {g n c : Nat} {xs : List Value}, w.ownsRow 0 5 1 (.slice (some ⟨g, 0, none⟩) n c) n xs → g ≠ mb q := fun ho e => by
    obtain ⟨cur, h1⟩ := row_cells ho
    obtain ⟨es, clock, h2⟩ := (h.mp q).isMap
    rw [e, h2] at h1
    cases h1
  have rr : ∀ r x p, sideD (setD d q f) r x = some p → G' (B' r x) ∧ w.ownsRow 0 5 1 (.slice (some ⟨B' r x, 0, none⟩) p.length (C' r x)) p.length (p.map vb) := by
    intro r x p hp
    by_cases e : r = q
    · subst e
      rw [side_set] at hp
      exact hr x p hp
    · rw [side_other d e] at hp
      rw [hB r e, hC r e]
      exact ⟨hG _ (h.gb r x p hp), h.row r x p hp⟩
  refine ⟨?_, ?_, ?_, ?_, ?_, fun r => ?_, fun r x p hp => ?_, hG _ h.gd, fun r => hG _ (h.gm r), fun r x p hp => (rr r x p hp).1, fun k hk => by rw [hs]; exact hlt k hk, h.lw, fun r => ?_, ?_, ?_⟩
  · rw [setD_s]; exact (World.cell?_of_block (w := w) hdb).trans h.c0
  · rw [setD_dead]; exact (World.cell?_of_block (w := w) hdb).trans h.c1
  · exact (World.cell?_of_block (w := w) hdb).trans h.c2
  · exact (World.cell?_of_block (w := w) hdb).trans h.c3
  · exact (World.frozen?_of_block (w := w) hdb).trans h.fz
  · rw [setD_s]
    by_cases e : r = q
    · subst e
      rw [side_set]
      exact hm
    · rw [side_other d e, show B' r = B r from funext (hB r e), show C' r = C r from funext (hC r e)]
      exact (h.mp r).of_block (hb _ (h.mb_ne e))
  · have h1 := (rr r x p hp).2
    exact owns_block h1 (fun g hg => by
      cases hg
      exact hb _ (hne h1))
  · rw [setD_s]
    by_cases e : r = q
    · subst e; rw [side_set]; exact hf
    · rw [side_other d e]; exact h.ins r
  · rw [setD_s]; exact h.s1
  · rw [setD_s]; exact h.s2
/-- 'm[a] = bytes' -/
theorem DkM.put (h : DkM w db mb B C G d) (q : Bool) {a : Int} {p : List UInt8} {g c : Nat} (ha : (Lit.int .i64 a).wf = true) (h0 : 0 ≤ a) (h1 : a < (d.s : Int)) (hp : 1 ≤ p.length ∧ p.length ≤ 4108) (hr : w.ownsRow 0 5 1 (.slice (some ⟨g, 0, none⟩) p.length c) p.length (p.map vb)) :
    ∃ w', (Instr.mapUpdate 152 (.map (some (mb q))) (.int .i64 a) (.slice (some ⟨g, 0, none⟩) p.length c)).run Tryz.prog w = .ok () w' ∧ w.mapTurned w' (mb q) ∧ DkM w' db mb (updQ B q a g) (updQ C q a c) (fun k => G k ∨ k = g) (setD d q (putB (sideD d q) a p)) := by
  have hs2 := h.s2
  obtain ⟨w', hrun, hm, ht⟩ := (h.mp q).store keyed_int under_map (by unfold maxLen; omega) (key_int ha) h0 h1 (.slice (some ⟨g, 0, none⟩) p.length c)
  refine ⟨w', hrun, ht, h.turned ht _ (fun k => Or.inl) (fun k hk => ?_) (hm.congr fun x => (valI_put _ B C q a g c p x).symm) (fun r e x => updQ_ne B (fun h => e h.1) g) (fun r e x => updQ_ne C (fun h => e h.1) c) ((h.ins q).put h0 h1 hp.1 hp.2) (fun x p' hx => ?_)⟩
  · rcases hk with hk | rfl
    · exact h.lt k hk
    · exact (owns_at hr).2
  · unfold putB at hx
    by_cases e : x = a
    · subst e
      rw [if_pos rfl] at hx
      cases hx
      rw [updQ_at, updQ_at]
      exact ⟨Or.inr rfl, hr⟩
    · rw [if_neg e] at hx
      rw [updQ_ne B (fun h => e h.2), updQ_ne C (fun h => e h.2)]
      exact ⟨Or.inl (h.gb q x p' hx), h.row q x p' hx⟩
/-- 'delete(m, a)' -/
theorem DkM.del (h : DkM w db mb B C G d) (q : Bool) {a : Int} (ha : (Lit.int .i64 a).wf = true) (ty : TypeId) :
    ∃ w', (Builtin.delete_ #[152, 3] ty #[.map (some (mb q)), .int .i64 a]).run Tryz.prog w = .ok (.tuple #[]) w' ∧ w.mapTurned w' (mb q) ∧ DkM w' db mb B C G (setD d q (delB (sideD d q) a)) := by
  obtain ⟨w', hrun, hm, ht⟩ := (h.mp q).drop keyed_int under_map (key_int ha) ty
  refine ⟨w', hrun, ht, h.turned ht G (fun k => id) h.lt (hm.congr fun x => (valI_del _ (B q) (C q) a x).symm) (fun r e x => rfl) (fun r e x => rfl) ((h.ins q).del a) (fun x p' hx => ?_)⟩
  unfold delB at hx
  by_cases e : x = a
  · rw [if_pos e] at hx; cases hx
  · rw [if_neg e] at hx
    exact ⟨h.gb q x p' hx, h.row q x p' hx⟩
/-- 'clear(m)' -/
theorem DkM.clear (h : DkM w db mb B C G d) (q : Bool) (ty : TypeId) :
    ∃ w', (Builtin.clear_ #[152] ty #[.map (some (mb q))]).run Tryz.prog w = .ok (.tuple #[]) w' ∧ w.mapTurned w' (mb q) ∧ DkM w' db mb B C G (setD d q noneI) := by
  obtain ⟨w', hrun, hm, ht⟩ := (h.mp q).clear under_map ty
  exact ⟨w', hrun, ht, h.turned ht G (fun k => id) h.lt (hm.congr fun x => rfl) (fun r e x => rfl) (fun r e x => rfl) (InS.none _) (fun x p' hx => by cases hx)⟩
/-- 'v, ok := m[a]' -/
theorem DkM.look_ok (h : DkM w db mb B C G d) (q : Bool) {a : Int} (ha : (Lit.int .i64 a).wf = true) :
    (Instr.lookup 152 (.map (some (mb q))) (.int .i64 a) true).run Tryz.prog w = .ok (.tuple #[(valI (sideD d q) (B q) (C q) a).getD (.slice none 0 0), .bool (valI (sideD d q) (B q) (C q) a).isSome]) w :=
  (h.mp q).look_ok keyed_int under_map (zero_bytes w) (key_int ha)
theorem DkM.look (h : DkM w db mb B C G d) (q : Bool) {a : Int} (ha : (Lit.int .i64 a).wf = true) :
    (Instr.lookup 152 (.map (some (mb q))) (.int .i64 a) false).run Tryz.prog w = .ok ((valI (sideD d q) (B q) (C q) a).getD (.slice none 0 0)) w :=
  (h.mp q).look keyed_int under_map (zero_bytes w) (key_int ha)
end
end Go.Proofs.YtclieefpnbdbjaaGreat.Gf

namespace Go.Proofs.YtclieefpnbdbjaaGreat.Gf
set_option linter.unusedVariables false
set_option linter.unusedSimpArgs false
open Go.RowKit
section
variable {w w' : World} {db : Nat} {K K' G : Nat → Prop} {d : DkS}
/-- a disk of the program's, behind what was done to blocks that are not its own -/
theorem DiskAt.apart (h : DiskAt w db G d) (g : Grew K w K' w') (hn : ∀ k, K k → ¬ G k) : DiskAt w' db G d :=
  h.keep (fun k hk => g.turn.block k (h.lt k hk) (fun e => hn k e hk)) g.turn.size
theorem Grew.wide {K2 K2' : Nat → Prop} (g : Grew K w K' w') (h : ∀ k, K k → K2 k) (h2 : ∀ k, K2' k → K2 k ∨ w.heap.size ≤ k) : Grew K2 w K2' w' :=
  ⟨⟨g.turn.os, g.turn.tape, g.turn.output, g.turn.size, fun k hk hn => g.turn.block k hk (fun e => hn (h k e))⟩, h2⟩
end
end Go.Proofs.YtclieefpnbdbjaaGreat.Gf

namespace Go.Proofs.YtclieefpnbdbjaaGreat.Gf
set_option linter.unusedVariables false
set_option linter.unusedSimpArgs false
open Go.RowKit
open Go.Maps (Keyed)
theorem dref_any {w : World} {db : Nat} {x : Bool} (c1 : w.cell? ⟨db, 1, none⟩ = some (.bool x)) : Calls Tryz.prog 169 #[.pointer (some ⟨db, 0, none⟩)] w fun e w' => e = .returned (.int .i64 (if x = true then 120 else 0)) ∧ w' = w := by
  cases x
  · go_enter Tryz.func169, Tryz.ntmps169
    go_wp2
    go_ret
    exact ⟨rfl, rfl⟩
  · go_enter Tryz.func169, Tryz.ntmps169
    go_wp2
    go_ret
    exact ⟨rfl, rfl⟩
theorem drat_any {w : World} {db : Nat} {d : DkS} {a : Int} (c0 : w.cell? ⟨db, 0, none⟩ = some (.int .i64 (d.s : Int))) (c1 : w.cell? ⟨db, 1, none⟩ = some (.bool d.dead)) : Calls Tryz.prog 129 #[.pointer (some ⟨db, 0, none⟩), .int .i64 a] w fun e w' => e = .returned (.int .i64 (faX d a)) ∧ w' = w := by
  have K := @dref_any w db d.dead c1
  cases hd : d.dead with
  | true =>
    have e := faX_dead hd a
    rw [hd] at K
    simp only [if_true] at K
    rw [e]
    clear e
    go_enter Tryz.func129, Tryz.ntmps129
    go_wp2_with fail
    refine K.mono ?_
    rintro _ _ ⟨rfl, rfl⟩
    go_wp2
    go_ret
    exact ⟨rfl, rfl⟩
  | false =>
    rw [hd] at K
    simp only [Bool.false_eq_true, if_false] at K
    by_cases h0 : 0 ≤ a
    · have h0' : ¬ a < 0 := by omega
      by_cases h1 : a < (d.s : Int)
      · have e := faX_ok hd ⟨h0, h1⟩
        have h1' : ¬ a ≥ (d.s : Int) := by omega
        rw [e]
        clear e
        go_enter Tryz.func129, Tryz.ntmps129
        go_wp2_with fail
        refine K.mono ?_
        rintro _ _ ⟨rfl, rfl⟩
        go_wp2
        go_ret
        exact ⟨rfl, rfl⟩
      · have e := faX_out hd (a := a) (fun h => h1 h.2)
        have h1' : a ≥ (d.s : Int) := by omega
        rw [e]
        clear e
        go_enter Tryz.func129, Tryz.ntmps129
        go_wp2_with fail
        refine K.mono ?_
        rintro _ _ ⟨rfl, rfl⟩
        go_wp2
        go_ret
        exact ⟨rfl, rfl⟩
    · have e := faX_out hd (a := a) (fun h => h0 h.1)
      have h0' : a < 0 := by omega
      rw [e]
      clear e
      go_enter Tryz.func129, Tryz.ntmps129
      go_wp2_with fail
      refine K.mono ?_
      rintro _ _ ⟨rfl, rfl⟩
      go_wp2
      go_ret
      exact ⟨rfl, rfl⟩
theorem ddead_any {w : World} {db : Nat} {x : Bool} (c1 : w.cell? ⟨db, 1, none⟩ = some (.bool x)) : Calls Tryz.prog 106 #[.pointer (some ⟨db, 0, none⟩)] w fun e w' => e = .returned (.bool x) ∧ w' = w := by
  go_enter Tryz.func106, Tryz.ntmps106
  go_wp2
  go_ret
  exact ⟨rfl, rfl⟩
/-- what Read tells of a place, in the disk's own memory -/
def newV (d : DkS) (B C : Bool → Int → Nat) (a : Int) : Value := match d.wait a with | some p => .slice (some ⟨B true a, 0, none⟩) p.length (C true a) | none => (valI d.last (B false) (C false) a).getD (.slice none 0 0)
section
variable {w : World} {db : Nat} {mb : Bool → Nat} {B C : Bool → Int → Nat} {G : Nat → Prop} {d : DkS}
theorem dnew_any (h : DkM w db mb B C G d) {a : Int} (ha : (Lit.int .i64 a).wf = true) : Calls Tryz.prog 130 #[.pointer (some ⟨db, 0, none⟩), .int .i64 a] w fun e w' => e = .returned (newV d B C a) ∧ w' = w := by
  have c2 := h.c2
  have c3 := h.c3
  have L1 := h.look_ok true ha
  have L2 := h.look false ha
  have e1 : sideD d true = d.wait := rfl
  have e2 : sideD d false = d.last := rfl
  rw [e1] at L1
  rw [e2] at L2
  clear e1 e2
  unfold newV
  cases hw : d.wait a with
  | some p =>
    have e3 : valI d.wait (B true) (C true) a = some (.slice (some ⟨B true a, 0, none⟩) p.length (C true a)) := by unfold valI; rw [hw]; rfl
    rw [e3] at L1
    simp only [Option.getD_some, Option.isSome_some] at L1
    clear e3 hw h ha
    go_enter Tryz.func130, Tryz.ntmps130
    go_wp2
    go_ret
    exact ⟨rfl, rfl⟩
  | none =>
    have e3 : valI d.wait (B true) (C true) a = none := by unfold valI; rw [hw]; rfl
    rw [e3] at L1
    simp only [Option.getD_none, Option.isSome_none] at L1
    clear e3 hw h ha
    obtain ⟨v, hv⟩ : ∃ v, v = (valI d.last (B false) (C false) a).getD (.slice none 0 0) := ⟨_, rfl⟩
    simp only
    rw [← hv] at L2 ⊢
    clear hv
    go_enter Tryz.func130, Tryz.ntmps130
    go_wp2
    go_ret
    exact ⟨rfl, rfl⟩
/-- what waits at a place lasts -/
def seS (d : DkS) (a : Int) (p : List UInt8) : DkS := { d with last := putB d.last a p, wait := delB d.wait a }
theorem dset_hit (h : DkM w db mb B C G d) {a : Int} (ha : (Lit.int .i64 a).wf = true) {p : List UInt8} (hp : d.wait a = some p) {w1 w2 : World}
    (r1 : (Instr.mapUpdate 152 (.map (some (mb false))) (.int .i64 a) (.slice (some ⟨B true a, 0, none⟩) p.length (C true a))).run Tryz.prog w = .ok () w1) (t1 : w.mapTurned w1 (mb false))
    (r2 : (Builtin.delete_ #[152, 3] 0 #[.map (some (mb true)), .int .i64 a]).run Tryz.prog w1 = .ok (.tuple #[]) w2) :
    Calls Tryz.prog 109 #[.pointer (some ⟨db, 0, none⟩), .int .i64 a] w fun e w' => e = .returned (.tuple #[]) ∧ w' = w2 := by
  have c2 := h.c2
  have c3 := h.c3
  have L1 := h.look_ok true ha
  have e1 : sideD d true = d.wait := rfl
  have e3 : valI d.wait (B true) (C true) a = some (.slice (some ⟨B true a, 0, none⟩) p.length (C true a)) := by unfold valI; rw [hp]; rfl
  rw [e1, e3] at L1
  simp only [Option.getD_some, Option.isSome_some] at L1
  have c3b := (World.cell?_of_block (w := w) (a := ⟨db, 3, none⟩) (mapTurned_block t1 (h.db_ne false))).trans h.c3
  clear e1 e3 hp h ha t1
  go_enter Tryz.func109, Tryz.ntmps109
  go_wp2
  go_end0
  exact ⟨rfl, rfl⟩
theorem dset_miss (h : DkM w db mb B C G d) {a : Int} (ha : (Lit.int .i64 a).wf = true) (hp : d.wait a = none) :
    Calls Tryz.prog 109 #[.pointer (some ⟨db, 0, none⟩), .int .i64 a] w fun e w' => e = .returned (.tuple #[]) ∧ w' = w := by
  have c2 := h.c2
  have c3 := h.c3
  have L1 := h.look_ok true ha
  have e1 : sideD d true = d.wait := rfl
  have e3 : valI d.wait (B true) (C true) a = none := by unfold valI; rw [hp]; rfl
  rw [e1, e3] at L1
  simp only [Option.getD_none, Option.isSome_none] at L1
  clear e1 e3 hp h ha
  go_enter Tryz.func109, Tryz.ntmps109
  go_wp2
  go_end0
  exact ⟨rfl, rfl⟩
theorem demp_any (h : DkM w db mb B C G d) {w1 w2 : World}
    (r1 : (Builtin.clear_ #[152] 0 #[.map (some (mb false))]).run Tryz.prog w = .ok (.tuple #[]) w1) (t1 : w.mapTurned w1 (mb false))
    (r2 : (Builtin.clear_ #[152] 0 #[.map (some (mb true))]).run Tryz.prog w1 = .ok (.tuple #[]) w2) :
    Calls Tryz.prog 108 #[.pointer (some ⟨db, 0, none⟩)] w fun e w' => e = .returned (.tuple #[]) ∧ w' = w2 := by
  have c2 := h.c2
  have c3 := h.c3
  have c3b := (World.cell?_of_block (w := w) (a := ⟨db, 3, none⟩) (mapTurned_block t1 (h.db_ne false))).trans h.c3
  clear h t1
  go_enter Tryz.func108, Tryz.ntmps108
  go_wp2
  go_end0
  exact ⟨rfl, rfl⟩
end
end Go.Proofs.YtclieefpnbdbjaaGreat.Gf
