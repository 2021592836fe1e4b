/- TEXTS JOINED: DkCE, DkNew, DkTol. -/
import Derived.Test.YtclieefpnbdbjaaGreatTome11
namespace Go.Proofs.YtclieefpnbdbjaaGreat.Gf
set_option linter.unusedVariables false
set_option linter.unusedSimpArgs false
open Go.RowKit
section
variable {w : World} {db : Nat} {G : Nat → Prop} {d : DkS} {mb : Bool → Nat} {B C : Bool → Int → Nat}
theorem owns_set {base e g c j : Nat} {p : List UInt8} (h : w.ownsRow base e 1 (.slice (some ⟨g, 0, none⟩) p.length c) p.length (p.map vb)) (y : UInt8) :
    (w.setCell ⟨g, j, none⟩ (vb y)).ownsRow base e 1 (.slice (some ⟨g, 0, none⟩) (p.set j y).length c) (p.set j y).length ((p.set j y).map vb) := by
  have e1 := (World.ownsRow.stored h j (vb y)).1
  rw [List.map_set, List.length_set]
  exact e1
/-- a byte of a sector is another one -/
theorem DkIn.change (h : DkIn w db mb B C G d) {q : Bool} {a : Int} {p : List UInt8} (hp : sideD d q a = some p) (j : Nat) (y : UInt8) (hd : d.dead = false) :
    DkIn (w.setCell ⟨B q a, j, none⟩ (vb y)) db mb B C G (setD d q (putB (sideD d q) a (p.set j y))) := by
  obtain ⟨hM, hi, ho⟩ := h
  have hb : ∀ k, k ≠ B q a → (w.setCell ⟨B q a, j, none⟩ (vb y)).heap[k]? = w.heap[k]? := fun k hk => Below.heap_setCell w ⟨B q a, j, none⟩ _ k hk
  have hdb := hb db (hM.row_db hp).symm
  have hv : ∀ r x, valI (sideD (setD d q (putB (sideD d q) a (p.set j y))) r) (B r) (C r) x = valI (sideD d r) (B r) (C r) x := by
    intro r x
    by_cases e : r = q
    · subst e
      rw [side_set]
      unfold valI putB
      by_cases ex : x = a
      · subst ex
        rw [if_pos rfl, hp]
        simp
      · rw [if_neg ex]
    · rw [side_other d e]
  have key : ∀ r x p1, sideD (setD d q (putB (sideD d q) a (p.set j y))) r x = some p1 → (r = q ∧ x = a ∧ p1 = p.set j y) ∨ (¬ (r = q ∧ x = a) ∧ sideD d r x = some p1) := by
    intro r x p1 h1
    by_cases e : r = q
    · subst e
      rw [side_set] at h1
      unfold putB at h1
      by_cases ex : x = a
      · rw [if_pos ex] at h1
        cases h1
        exact Or.inl ⟨rfl, ex, rfl⟩
      · rw [if_neg ex] at h1
        exact Or.inr ⟨fun h => ex h.2, h1⟩
    · rw [side_other d e] at h1
      exact Or.inr ⟨fun h => e h.1, h1⟩
  have hins : ∀ r, InS d.s (sideD (setD d q (putB (sideD d q) a (p.set j y))) r) := by
    intro r
    by_cases e : r = q
    · subst e
      rw [side_set]
      have h1 := hM.ins r a p hp
      exact (hM.ins r).put h1.1 h1.2.1 (by rw [List.length_set]; exact h1.2.2.1) (by rw [List.length_set]; exact h1.2.2.2)
    · rw [side_other d e]; exact hM.ins r
  refine ⟨⟨?_, ?_, ?_, ?_, ?_, fun r => ?_, fun r x p1 h1 => ?_, hM.gd, hM.gm, fun r x p1 h1 => ?_, fun k hk => by simpa using hM.lt k hk, hM.lw, fun r => ?_, ?_, ?_⟩, ?_, ?_⟩
  · rw [setD_s]; exact (World.cell?_of_block (w := w) hdb).trans hM.c0
  · rw [setD_dead]; exact (World.cell?_of_block (w := w) hdb).trans hM.c1
  · exact (World.cell?_of_block (w := w) hdb).trans hM.c2
  · exact (World.cell?_of_block (w := w) hdb).trans hM.c3
  · exact (World.frozen?_of_block (w := w) hdb).trans hM.fz
  · rw [setD_s]
    exact ((hM.mp r).of_block (hb _ (hM.row_ne hp r).symm)).congr fun x => (hv r x).symm
  · rcases key r x p1 h1 with ⟨rfl, rfl, rfl⟩ | ⟨h2, h3⟩
    · exact owns_set (hM.row r x p hp) y
    · exact owns_block (hM.row r x p1 h3) (fun g hg => by
        cases hg
        exact hb _ (fun e => h2 (hi _ _ _ _ _ _ h3 hp e)))
  · rcases key r x p1 h1 with ⟨rfl, rfl, rfl⟩ | ⟨h2, h3⟩
    · exact hM.gb r x p hp
    · exact hM.gb r x p1 h3
  · rw [setD_s]; exact hins r
  · rw [setD_s]; exact hM.s1
  · rw [setD_s]; exact hM.s2
  · intro r x p1 r' x' p2 h1 h2 hB
    have k1 : ∃ p', sideD d r x = some p' := by
      rcases key r x p1 h1 with ⟨rfl, rfl, _⟩ | ⟨_, h3⟩
      · exact ⟨p, hp⟩
      · exact ⟨p1, h3⟩
    have k2 : ∃ p', sideD d r' x' = some p' := by
      rcases key r' x' p2 h2 with ⟨rfl, rfl, _⟩ | ⟨_, h3⟩
      · exact ⟨p, hp⟩
      · exact ⟨p2, h3⟩
    obtain ⟨p1', k1⟩ := k1
    obtain ⟨p2', k2⟩ := k2
    exact hi _ _ _ _ _ _ k1 k2 hB
  · refine Ok.of_sides (by rw [setD_s]; exact hM.s1) (by rw [setD_s]; exact hM.s2) (fun r => by rw [setD_s]; exact hins r) (fun h => ?_)
    rw [setD_dead, hd] at h
    cases h
/-- which side it is that Read tells -/
theorem newV_side (h : DkM w db mb B C G d) (a : Int) : (newV d B C a = .slice none 0 0 ∧ atD d a = none) ∨ ∃ q p, newV d B C a = .slice (some ⟨B q a, 0, none⟩) p.length (C q a) ∧ sideD d q a = some p ∧ atD d a = some p ∧ ∀ at_ y, faX d a = 0 → coS d a at_ y = setD d q (putB (sideD d q) a (chB p at_ y)) := by
  unfold newV atD valI
  cases hw : d.wait a with
  | some p => exact Or.inr ⟨true, p, rfl, hw, rfl, fun at_ y hf => by unfold coS; rw [if_pos hf, hw]; rfl⟩
  | none =>
    cases hl : d.last a with
    | none => exact Or.inl ⟨rfl, rfl⟩
    | some p => exact Or.inr ⟨false, p, rfl, hl, rfl, fun at_ y hf => by unfold coS; rw [if_pos hf, hw, hl]; rfl⟩
set_option maxRecDepth 100000 in
set_option maxHeartbeats 1000000 in
theorem dcorr_any (h : DiskAt w db G d) {a at_ : Int} (ha : (Lit.int .i64 a).wf = true) (hat : (Lit.int .i64 at_).wf = true) (y : UInt8) :
    Calls Tryz.prog 83 #[.pointer (some ⟨db, 0, none⟩), .int .i64 a, .int .i64 at_, .int .u8 ((y.toNat : Nat) : Int)] w (Leaves w db G (coS d a at_ y) (.int .i64 (coX d a))) := by
  obtain ⟨mb, B, C, hI⟩ := h
  have hM := hI.1
  have K := @drat_any w db d a hM.c0 hM.c1
  have KN := dnew_any hM ha
  have REF : ∀ {w' : World}, coS d a at_ y = d → w' = w → Hid (∃ G', DiskAt w' db G' (coS d a at_ y) ∧ Grew G w G' w') := fun e1 e2 => by
    show ∃ G', _
    rw [e1, e2]
    exact ⟨G, ⟨mb, B, C, hI⟩, Grew.refl G w⟩
  by_cases hf : faX d a = 0
  · rw [hf] at K
    rcases newV_side hM a with ⟨e1, e2⟩ | ⟨q, p, e1, hp, e2, e3⟩
    · rw [e1] at KN
      have eX : coX d a = 1 := by unfold coX; rw [if_pos hf, if_pos e2]
      have eS : coS d a at_ y = d := by
        unfold coS atD at *
        rw [if_pos hf]
        cases hw : d.wait a with
        | some p => rw [hw] at e2; cases e2
        | none => rw [hw] at e2; simp only at e2 ⊢; rw [e2]
      have F := REF (w' := w) eS rfl
      rw [eX]
      clear eX eS REF hI hM e1 e2 hf hat ha
      go_enter Tryz.func83, Tryz.ntmps83
      go_wp2_with fail
      refine K.mono ?_
      rintro _ wq ⟨rfl, hwq⟩
      rw [hwq]
      clear hwq wq K
      go_wp2_with fail
      refine KN.mono ?_
      rintro _ wq ⟨rfl, hwq⟩
      rw [hwq]
      clear hwq wq KN
      go_wp2
      go_ret
      exact ⟨rfl, F.out⟩
    · rw [e1] at KN
      have eX : coX d a = 0 := by unfold coX; rw [if_pos hf, if_neg (by rw [e2]; simp)]
      have e3' := e3 at_ y hf
      have hdd := (faX_zero hf).1
      have hrow := hM.row q a p hp
      have hin := hM.ins q a p hp
      obtain ⟨j, hj⟩ : ∃ j, Hid (j = atN at_ p.length) := ⟨_, rfl⟩
      have hjl : j < p.length := by rw [hj.out]; exact Nat.mod_lt _ (by omega)
      have E : chB p at_ y = p.set j (co p j ^^^ y) := by unfold chB; rw [hj.out]
      have I2 := hI.change hp j (co p j ^^^ y) hdd
      rw [E] at e3'
      rw [← e3'] at I2
      have FIN : Hid (∃ G', DiskAt (w.setCell ⟨B q a, j, none⟩ (vb (co p j ^^^ y))) db G' (coS d a at_ y) ∧ Grew G w G' (w.setCell ⟨B q a, j, none⟩ (vb (co p j ^^^ y)))) := ⟨G, ⟨mb, B, C, I2⟩, Grew.of_turn (setCell_turnG (hM.gb q a p hp))⟩
      have cj : w.cell? ⟨B q a, j, none⟩ = some (.int .u8 (((co p j).toNat : Nat) : Int)) := by
        have := World.ownsRow.cellAt hrow j (by omega)
        rw [this, List.getElem?_map, List.getElem?_eq_getElem hjl, co_lt hjl]
        rfl
      have fj : w.frozen? ⟨B q a, j, none⟩ = false := World.ownsRow.frozenAt hrow j
      have X : bits .xor .u8 (((co p j).toNat : Nat) : Int) ((y.toNat : Nat) : Int) = (((co p j ^^^ y).toNat : Nat) : Int) := xor_u8 _ _
      have q1 : ((p.length : Int) == 0) = false := beq_eq_false_iff_ne.2 (by omega)
      rw [eX]
      clear eX REF hI hM e1 e2 e3 e3' I2 E hrow
      by_cases hneg : at_ < 0
      · obtain ⟨M, hM⟩ : ∃ M : Nat, at_ = -((M : Int) + 1) := ⟨(-(at_ + 1)).toNat, by omega⟩
        have hb := bounds_i64 hat
        have hjM : j = M % p.length := by rw [hj.out]; unfold atN; rw [if_pos hneg]; congr 1; omega
        have Z1 : wrap64 (at_ + 1) = -(M : Int) := by unfold wrap64; omega
        have Z2 : wrap64 (M : Int) = (M : Int) := by unfold wrap64; omega
        have T : ((M : Int)).tmod (p.length : Int) = (j : Int) := by rw [hjM]; exact (Int.ofNat_tmod M p.length).symm
        clear hjM hM hb hat hj
        go_enter Tryz.func83, Tryz.ntmps83
        go_wp2_with fail
        refine K.mono ?_
        rintro _ wq ⟨rfl, hwq⟩
        rw [hwq]
        clear hwq wq K
        go_wp2_with fail
        refine KN.mono ?_
        rintro _ wq ⟨rfl, hwq⟩
        rw [hwq]
        clear hwq wq KN
        go_wp2
        go_ret
        exact ⟨rfl, FIN.out⟩
      · obtain ⟨M, hM⟩ : ∃ M : Nat, at_ = (M : Int) := ⟨at_.toNat, by omega⟩
        have hjM : j = M % p.length := by rw [hj.out]; unfold atN; rw [if_neg hneg]; congr 1; omega
        subst hM
        have T : ((M : Int)).tmod (p.length : Int) = (j : Int) := by rw [hjM]; exact (Int.ofNat_tmod M p.length).symm
        clear hjM hat hj
        go_enter Tryz.func83, Tryz.ntmps83
        go_wp2_with fail
        refine K.mono ?_
        rintro _ wq ⟨rfl, hwq⟩
        rw [hwq]
        clear hwq wq K
        go_wp2_with fail
        refine KN.mono ?_
        rintro _ wq ⟨rfl, hwq⟩
        rw [hwq]
        clear hwq wq KN
        go_wp2
        go_ret
        exact ⟨rfl, FIN.out⟩
  · have eX : coX d a = faX d a := by unfold coX; rw [if_neg hf]
    have F := REF (w' := w) (by unfold coS; rw [if_neg hf]) rfl
    rw [eX]
    obtain ⟨x, hx⟩ : ∃ x, x = faX d a := ⟨_, rfl⟩
    rw [← hx] at hf K ⊢
    clear eX REF hI hM hx KN ha hat
    have q1 : (x == 0) = false := beq_eq_false_iff_ne.2 hf
    go_enter Tryz.func83, Tryz.ntmps83
    go_wp2_with fail
    refine K.mono ?_
    rintro _ wq ⟨rfl, hwq⟩
    rw [hwq]
    clear hwq wq K
    go_wp2
    go_ret
    exact ⟨rfl, F.out⟩
end
end Go.Proofs.YtclieefpnbdbjaaGreat.Gf

namespace Go.Proofs.YtclieefpnbdbjaaGreat.Gf
set_option linter.unusedVariables false
set_option linter.unusedSimpArgs false
open Go.RowKit
theorem new_at (w : World) {n : Int} (h1 : 1 ≤ n) (h2 : n ≤ 4096) (t : TypeId) :
    DiskAt (((w.alloc (.map #[] 0)).alloc (.map #[] 0)).alloc (.cells #[.int .i64 n, .bool false, .map (some w.heap.size), .map (some (w.heap.size + 1))] t)) (w.heap.size + 1 + 1) (fun k => w.heap.size ≤ k ∧ k < w.heap.size + 3) (newD n.toNat) := by
  have hn : ((n.toNat : Nat) : Int) = n := by omega
  obtain ⟨w1, hw1⟩ : ∃ w1, w1 = w.alloc (.map #[] 0) := ⟨_, rfl⟩
  obtain ⟨w2, hw2⟩ : ∃ w2, w2 = w1.alloc (.map #[] 0) := ⟨_, rfl⟩
  have s1 : w1.heap.size = w.heap.size + 1 := by rw [hw1]; simp
  have s2 : w2.heap.size = w.heap.size + 1 + 1 := by rw [hw2]; simp [s1]
  have m1 : MapI Tryz.prog 3 w1 w.heap.size n.toNat (fun _ => none) := by rw [hw1]; exact MapI.made _ _ w _
  have m2 : MapI Tryz.prog 3 w2 (w.heap.size + 1) n.toNat (fun _ => none) := by rw [hw2, ← s1]; exact MapI.made _ _ w1 _
  have b1 : Below w1.heap.size w1 w2 := by rw [hw2]; exact (Below.refl _ _).alloc (Nat.le_refl _) _
  have m1' := m1.below b1
  rw [← hw1, ← hw2, ← s2]
  obtain ⟨w3, hw3⟩ : ∃ w3, w3 = w2.alloc (.cells #[.int .i64 n, .bool false, .map (some w.heap.size), .map (some (w.heap.size + 1))] t) := ⟨_, rfl⟩
  have b2 : Below w2.heap.size w2 w3 := by rw [hw3]; exact (Below.refl _ _).alloc (Nat.le_refl _) _
  have m1'' := m1'.below b2
  have m2' := m2.below b2
  have s3 : w3.heap.size = w.heap.size + 3 := by rw [hw3]; simp [s2]
  have cc : ∀ i, w3.cell? ⟨w2.heap.size, i, none⟩ = (#[Value.int .i64 n, .bool false, .map (some w.heap.size), .map (some (w.heap.size + 1))])[i]? := fun i => by rw [hw3]; exact World.cell?_alloc_new _ _ _ _
  rw [← hw3]
  refine ⟨fun q => if q = true then w.heap.size + 1 else w.heap.size, fun _ _ => 0, fun _ _ => 0, ⟨?_, ?_, ?_, ?_, ?_, fun q => ?_, fun q x p hp => ?_, ⟨by omega, by omega⟩, fun q => ?_, fun q x p hp => ?_, fun k hk => by rw [s3]; exact hk.2, ?_, fun q => ?_, ?_, ?_⟩, ?_, newD_ok (by omega) (by omega)⟩
  · rw [cc]; show some (Value.int .i64 n) = _; rw [show (newD n.toNat).s = n.toNat from rfl, hn]
  · rw [cc]; rfl
  · rw [cc]; rfl
  · rw [cc]; rfl
  · rw [hw3]; simp [go_sem]
  · cases q
    · exact m1''
    · exact m2'
  · cases q <;> cases hp
  · cases q
    · exact ⟨Nat.le_refl _, by show w.heap.size < _; omega⟩
    · exact ⟨by show _ ≤ w.heap.size + 1; omega, by show w.heap.size + 1 < _; omega⟩
  · cases q <;> cases hp
  · show w.heap.size ≠ w.heap.size + 1
    omega
  · cases q <;> exact InS.none _
  · show 1 ≤ n.toNat
    omega
  · show n.toNat ≤ 4096
    omega
  · intro q x p r y p' h1
    cases q <;> cases h1
/-- a new disk -/
def NewsD (w : World) (n : Int) (e : Ending) (w' : World) : Prop := ∃ db G, e = .returned (.tuple #[.pointer (some ⟨db, 0, none⟩), .int .i64 0]) ∧ DiskAt w' db G (newD n.toNat) ∧ (∀ k, G k → w.heap.size ≤ k) ∧ Below w.heap.size w w'
theorem dmake_any {w : World} {n : Int} (h1 : 1 ≤ n) (h2 : n ≤ 4096) : Calls Tryz.prog 33 #[.int .i64 n] w (NewsD w n) := by
  have g1 : ¬ n < 1 := by omega
  have g2 : ¬ n > 4096 := by omega
  have MK : ∀ w : World, (Instr.makeMap 152 none).run Tryz.prog w = .ok (.map (some w.heap.size)) (w.alloc (.map #[] 0)) := fun w => by kernel_rfl
  go_enter Tryz.func33, Tryz.ntmps33
  go_wp2
  refine bodyPost_ret (v := .tuple #[.pointer (some ⟨w.heap.size + 1 + 1, 0, none⟩), .int .i64 0]) (by simp [results, Tryz.results33, go_sem]) rfl ?_
  refine ⟨_, _, rfl, new_at w h1 h2 _, fun k hk => hk.1, ?_⟩
  exact (((Below.refl _ _).alloc (Nat.le_refl _) _).alloc (by simp) _).alloc (by simp; omega) _
end Go.Proofs.YtclieefpnbdbjaaGreat.Gf

namespace Go.Proofs.YtclieefpnbdbjaaGreat.Gf
set_option linter.unusedVariables false
set_option linter.unusedSimpArgs false
open Go.RowKit
section
variable {w : World} {db : Nat} {G : Nat → Prop} {d : DkS}
theorem DiskAt.dead (h : DiskAt w db G d) : w.cell? ⟨db, 1, none⟩ = some (.bool d.dead) := by
  obtain ⟨mb, B, C, h1, _⟩ := h
  exact h1.c1
theorem belA (w : World) (o : Obj) : Below w.heap.size w (w.alloc o) := (Below.refl _ _).alloc (Nat.le_refl _) _
end
end Go.Proofs.YtclieefpnbdbjaaGreat.Gf
