/- TEXTS JOINED: DkSe, DkCB, DkCC. -/
import Derived.Test.YtclieefpnbdbjaaGreatRome9
namespace Go.Proofs.YtclieefpnbdbjaaGreat.Gf
set_option linter.unusedVariables false
set_option linter.unusedSimpArgs false
open Go.RowKit
open Go.Maps (Keyed)
open Go.ChangeMaps Go.MapKept
section
variable {w w' : World} {db : Nat} {mb : Bool → Nat} {B C : Bool → Int → Nat} {G : Nat → Prop} {d : DkS}
theorem DkM.reG (h : DkM w db mb B C G d) {G' : Nat → Prop} (h1 : ∀ k, G k → G' k) (h2 : ∀ k, G' k → k < w.heap.size) : DkM w db mb B C G' d :=
  ⟨h.c0, h.c1, h.c2, h.c3, h.fz, h.mp, h.row, h1 _ h.gd, fun q => h1 _ (h.gm q), fun q x p hp => h1 _ (h.gb q x p hp), h2, h.lw, h.ins, h.s1, h.s2⟩
theorem Ok.of_sides {e : DkS} (s1 : 1 ≤ e.s) (s2 : e.s ≤ 4096) (hi : ∀ q, InS e.s (sideD e q)) (hd : e.dead = true → e.last = noneI ∧ e.wait = noneI) : e.Ok :=
  ⟨s1, s2, hi false, hi true, fun h => (hd h).1, fun h => (hd h).2⟩
/-- 'settle' -/
theorem DkIn.settle (h : DkIn w db mb B C G d) {a : Int} (ha : (Lit.int .i64 a).wf = true) {p : List UInt8} (hp : d.wait a = some p) :
    ∃ w1 w2, (Instr.mapUpdate 152 (.map (some (mb false))) (.int .i64 a) (.slice (some ⟨B true a, 0, none⟩) p.length (C true a))).run Tryz.prog w = .ok () w1 ∧ w.mapTurned w1 (mb false) ∧
      (Builtin.delete_ #[152, 3] 0 #[.map (some (mb true)), .int .i64 a]).run Tryz.prog w1 = .ok (.tuple #[]) w2 ∧ w1.mapTurned w2 (mb true) ∧
      DkIn w2 db mb (updQ B false a (B true a)) (updQ C false a (C true a)) G (seS d a p) := by
  obtain ⟨hm, hi, ho⟩ := h
  have hb := ho.iw a p hp
  have hps : sideD d true a = some p := hp
  obtain ⟨w1, r1, t1, m1⟩ := hm.put false ha hb.1 hb.2.1 ⟨hb.2.2.1, hb.2.2.2⟩ (hm.row true a p hps)
  obtain ⟨w2, r2, t2, m2⟩ := m1.del true ha 0
  have e : setD (setD d false (putB (sideD d false) a p)) true (delB (sideD (setD d false (putB (sideD d false) a p)) true) a) = seS d a p := rfl
  rw [e] at m2
  have hg : G (B true a) := hm.gb true a p hps
  refine ⟨w1, w2, r1, t1, r2, t2, m2.reG (fun k hk => hk.elim id (fun e => by rw [e]; exact hg)) (fun k hk => m2.lt k (Or.inl hk)), ?_, ?_⟩
  · intro q x p1 r y p2 h1 h2 hB
    have key : ∀ q x p1, sideD (seS d a p) q x = some p1 → ∃ q' p', sideD d q' x = some p' ∧ updQ B false a (B true a) q x = B q' x ∧ ((q = false ∧ x = a ∧ q' = true) ∨ (¬ (q' = true ∧ x = a) ∧ q' = q)) := by
      intro q x p1 h1
      cases q with
      | false =>
        have h1' : putB d.last a p x = some p1 := h1
        unfold putB at h1'
        by_cases e : x = a
        · subst e
          exact ⟨true, p, hps, updQ_at B false x _, Or.inl ⟨rfl, rfl, rfl⟩⟩
        · rw [if_neg e] at h1'
          exact ⟨false, p1, h1', updQ_ne B (fun h => e h.2) _, Or.inr ⟨fun h => e h.2, rfl⟩⟩
      | true =>
        have h1' : delB d.wait a x = some p1 := h1
        unfold delB at h1'
        by_cases e : x = a
        · rw [if_pos e] at h1'; cases h1'
        · rw [if_neg e] at h1'
          exact ⟨true, p1, h1', updQ_ne B (fun h => e h.2) _, Or.inr ⟨fun h => e h.2, rfl⟩⟩
    obtain ⟨q', p1', k1, k2, k3⟩ := key q x p1 h1
    obtain ⟨r', p2', l1, l2, l3⟩ := key r y p2 h2
    rw [k2, l2] at hB
    obtain ⟨e1, e2⟩ := hi _ _ _ _ _ _ k1 l1 hB
    subst e1 e2
    refine ⟨?_, rfl⟩
    rcases k3 with ⟨a1, a2, a3⟩ | ⟨a1, a2⟩ <;> rcases l3 with ⟨b1, b2, b3⟩ | ⟨b1, b2⟩
    · rw [a1, b1]
    · exact absurd ⟨a3, a2⟩ b1
    · exact absurd ⟨b3, b2⟩ a1
    · rw [← a2, ← b2]
  · refine Ok.of_sides m2.s1 m2.s2 m2.ins (fun hd => ?_)
    have hd' : d.dead = true := hd
    rw [ho.dw hd'] at hp
    cases hp
/-- a sector is written -/
theorem DkIn.write (h : DkIn w db mb B C G d) {a : Int} (ha : (Lit.int .i64 a).wf = true) (hf : faX d a = 0) {p : List UInt8} (hp : OkB p) {g c : Nat} (hr : w.ownsRow 0 5 1 (.slice (some ⟨g, 0, none⟩) p.length c) p.length (p.map vb)) (hg : ¬ G g) :
    ∃ w', (Instr.mapUpdate 152 (.map (some (mb true))) (.int .i64 a) (.slice (some ⟨g, 0, none⟩) p.length c)).run Tryz.prog w = .ok () w' ∧ w.mapTurned w' (mb true) ∧
      DkIn w' db mb (updQ B true a g) (updQ C true a c) (fun k => G k ∨ k = g) (wrS d a p) := by
  obtain ⟨hm, hi, ho⟩ := h
  obtain ⟨f1, f2, f3⟩ := faX_zero hf
  obtain ⟨w1, r1, t1, m1⟩ := hm.put true ha f2 f3 hp hr
  have e : setD d true (putB (sideD d true) a p) = wrS d a p := by unfold wrS; rw [if_pos ⟨hf, hp⟩]; rfl
  rw [e] at m1
  refine ⟨w1, r1, t1, m1, ?_, wrS_ok ho a p⟩
  have key : ∀ q x p1, sideD (wrS d a p) q x = some p1 → (q = true ∧ x = a) ∨ (¬ (q = true ∧ x = a) ∧ sideD d q x = some p1) := by
    intro q x p1 h1
    rw [← e] at h1
    by_cases hq : q = true ∧ x = a
    · exact Or.inl hq
    · refine Or.inr ⟨hq, ?_⟩
      cases q with
      | false => exact h1
      | true =>
        have h1' : putB d.wait a p x = some p1 := h1
        unfold putB at h1'
        rw [if_neg (fun e => hq ⟨rfl, e⟩)] at h1'
        exact h1'
  intro q x p1 r y p2 h1 h2 hB
  rcases key q x p1 h1 with ⟨rfl, rfl⟩ | ⟨k1, k2⟩ <;> rcases key r y p2 h2 with ⟨rfl, rfl⟩ | ⟨l1, l2⟩
  · exact ⟨rfl, rfl⟩
  · rw [updQ_at, updQ_ne B l1] at hB
    exact absurd (hB ▸ hm.gb r y p2 l2) hg
  · rw [updQ_at, updQ_ne B k1] at hB
    exact absurd (hB ▸ hm.gb q x p1 k2) hg
  · rw [updQ_ne B k1, updQ_ne B l1] at hB
    exact hi _ _ _ _ _ _ k2 l2 hB
/-- nothing is left -/
theorem DkM.emptied (h : DkM w db mb B C G d) :
    ∃ w1 w2, (Builtin.clear_ #[152] 0 #[.map (some (mb false))]).run Tryz.prog w = .ok (.tuple #[]) w1 ∧ w.mapTurned w1 (mb false) ∧ (Builtin.clear_ #[152] 0 #[.map (some (mb true))]).run Tryz.prog w1 = .ok (.tuple #[]) w2 ∧ w1.mapTurned w2 (mb true) ∧
      DkIn w2 db mb B C G ⟨d.s, noneI, noneI, d.dead⟩ := by
  obtain ⟨w1, r1, t1, m1⟩ := h.clear false 0
  obtain ⟨w2, r2, t2, m2⟩ := m1.clear true 0
  refine ⟨w1, w2, r1, t1, r2, t2, m2, ?_, ⟨h.s1, h.s2, InS.none _, InS.none _, fun _ => rfl, fun _ => rfl⟩⟩
  intro q x p r y p' h1
  cases q <;> cases h1
/-- what waits is gone -/
theorem DkIn.unwait (h : DkIn w db mb B C G d) : ∃ w', (Builtin.clear_ #[152] 0 #[.map (some (mb true))]).run Tryz.prog w = .ok (.tuple #[]) w' ∧ w.mapTurned w' (mb true) ∧ DkIn w' db mb B C G { d with wait := noneI } := by
  obtain ⟨hm, hi, ho⟩ := h
  obtain ⟨w1, r1, t1, m1⟩ := hm.clear true 0
  refine ⟨w1, r1, t1, m1, ?_, ⟨ho.s1, ho.s2, ho.il, InS.none _, ho.dl, fun _ => rfl⟩⟩
  have key : ∀ q x p1, sideD { d with wait := noneI } q x = some p1 → sideD d q x = some p1 := by
    intro q x p1 h1
    cases q with
    | false => exact h1
    | true => cases h1
  intro q x p1 r y p2 h1 h2 hB
  exact hi _ _ _ _ _ _ (key _ _ _ h1) (key _ _ _ h2) hB
/-- the cell that tells whether it is dead -/
theorem DkM.kill (h : DkM w db mb B C G d) (x : Bool) : DkM (w.setCell ⟨db, 1, none⟩ (.bool x)) db mb B C G { d with dead := x } := by
  have hb : ∀ k, k ≠ db → (w.setCell ⟨db, 1, none⟩ (.bool x)).heap[k]? = w.heap[k]? := fun k hk => Below.heap_setCell w ⟨db, 1, none⟩ _ k hk
  have hc1 := h.c1
  have hfz := h.fz
  refine ⟨?_, ?_, ?_, ?_, ?_, fun q => (h.mp q).of_block (hb _ (h.db_ne q).symm), fun q y p hp => owns_block (h.row q y p hp) (fun g hg => by
    cases hg
    exact hb _ (h.row_db hp)), h.gd, h.gm, h.gb, fun k hk => by simpa using h.lt k hk, h.lw, h.ins, h.s1, h.s2⟩
  · rw [← h.c0]; simp [go_sem]
  · simp [go_sem, hc1]
  · rw [← h.c2]; simp [go_sem]
  · rw [← h.c3]; simp [go_sem]
  · simp [go_sem, hfz]
theorem setCell_turnG {b j : Nat} {v : Value} (hg : G b) : TurnG G w (w.setCell ⟨b, j, none⟩ v) := Only.turnG ((Only.refl b w).setCell j v) hg
end
/-- a place of keep: what waits there lasts -/
def seQ (d : DkS) (a : Int) : DkS := match d.wait a with | some p => seS d a p | none => d
theorem seQ_wait (d : DkS) (a x : Int) : (seQ d a).wait x = if x = a then none else d.wait x := by
  unfold seQ
  cases h : d.wait a with
  | some p => rfl
  | none =>
    by_cases e : x = a
    · rw [if_pos e, e]; exact h
    · rw [if_neg e]
theorem seQ_last (d : DkS) (a x : Int) : (seQ d a).last x = if x = a then overB d.wait d.last a else d.last x := by
  unfold seQ overB
  cases h : d.wait a with
  | some p => rfl
  | none =>
    by_cases e : x = a
    · rw [if_pos e, e]
    · rw [if_neg e]
theorem seQ_s (d : DkS) (a : Int) : (seQ d a).s = d.s := by unfold seQ; cases d.wait a <;> rfl
theorem seQ_dead (d : DkS) (a : Int) : (seQ d a).dead = d.dead := by unfold seQ; cases d.wait a <;> rfl
theorem keep_all : ∀ (L : List Int) (d : DkS), (L.foldl seQ d).s = d.s ∧ (L.foldl seQ d).dead = d.dead ∧ (∀ x, (L.foldl seQ d).last x = overB (onlyB d.wait L) d.last x)
  | [], d => ⟨rfl, rfl, fun x => by simp [overB, onlyB]⟩
  | a :: L, d => by
    obtain ⟨h1, h2, h3⟩ := keep_all L (seQ d a)
    refine ⟨h1.trans (seQ_s d a), h2.trans (seQ_dead d a), fun x => ?_⟩
    show ((L.foldl seQ (seQ d a)).last x) = _
    rw [h3]
    unfold overB onlyB
    rw [seQ_wait, seQ_last]
    unfold overB
    by_cases e : x = a
    · subst e
      cases hw : d.wait x <;> simp [hw]
    · by_cases hL : x ∈ L
      · simp [e, hL]
      · simp [e, hL]
theorem keep_crash (L : List Int) (d : DkS) : { L.foldl seQ d with wait := noneI } = crS d L := by
  obtain ⟨h1, h2, h3⟩ := keep_all L d
  unfold crS
  rw [DkS.mk.injEq]
  exact ⟨h1, funext h3, rfl, h2⟩
end Go.Proofs.YtclieefpnbdbjaaGreat.Gf

namespace Go.Proofs.YtclieefpnbdbjaaGreat.Gf
set_option linter.unusedVariables false
set_option linter.unusedSimpArgs false
open Go.RowKit
/-- what a call on a disk leaves -/
def Leaves (w : World) (db : Nat) (G : Nat → Prop) (d' : DkS) (x : Value) (e : Ending) (w' : World) : Prop := e = .returned x ∧ ∃ G', DiskAt w' db G' d' ∧ Grew G w G' w'
theorem owns_formD {w : World} {base e n : Nat} {v : Value} {xs : List Value} (h : w.ownsRow base e 1 v n xs) (hn : n ≠ 0) : ∃ g c, v = .slice (some ⟨g, 0, none⟩) n c ∧ base ≤ g ∧ w.ownsRow 0 e 1 (.slice (some ⟨g, 0, none⟩) n c) n xs := by
  obtain ⟨h0, h | ⟨g, cap, cur, hv, hg, hh, r⟩⟩ := h
  · exact absurd h.2 hn
  · exact ⟨g, cap, hv, hg, h0, Or.inr ⟨g, cap, cur, rfl, Nat.zero_le _, hh, r⟩⟩
section
variable {w : World} {db : Nat} {G : Nat → Prop} {d : DkS}
theorem DkIn.below {mb : Bool → Nat} {B C : Bool → Int → Nat} {w' : World} (h : DkIn w db mb B C G d) (hb : Below w.heap.size w w') : DkIn w' db mb B C G d := ⟨h.1.below hb, h.2⟩
set_option maxRecDepth 100000 in
set_option maxHeartbeats 1000000 in
theorem dwrite_any (h : DiskAt w db G d) {a : Int} (ha : (Lit.int .i64 a).wf = true) {v : Value} {p : List UInt8} (hp : Rd w v p) :
    Calls Tryz.prog 125 #[.pointer (some ⟨db, 0, none⟩), .int .i64 a, v] w (Leaves w db G (wrS d a p) (.int .i64 (wrX d a p))) := by
  obtain ⟨mb, B, C, hI⟩ := h
  have hM := hI.1
  have c3 := hM.c3
  have K := @drat_any w db d a hM.c0 hM.c1
  have hpl := hp.len
  obtain ⟨ad, cp, rfl⟩ := hp.form
  have REF : ∀ {x : Int} {w' : World}, wrS d a p = d → w' = w → Hid (∃ G', DiskAt w' db G' (wrS d a p) ∧ Grew G w G' w') := fun e1 e2 => by
    show ∃ G', _
    rw [e1, e2]
    exact ⟨G, ⟨mb, B, C, hI⟩, Grew.refl G w⟩
  by_cases hf : faX d a = 0
  · by_cases hb : OkB p
    · have eX : wrX d a p = 0 := by unfold wrX; rw [if_pos hf, if_pos hb]
      obtain ⟨hb1, hb2⟩ := hb
      have g1 : ¬ p.length = 0 := by omega
      have g2 : ¬ (p.length : Int) = 0 := by omega
      have g3 : ¬ 4108 < (p.length : Int) := by omega
      have q1 : ((p.length : Int) == 0) = false := beq_eq_false_iff_ne.2 g2
      have q3 : decide (4108 < (p.length : Int)) = false := decide_eq_false g3
      obtain ⟨b, off, rfl⟩ : ∃ b off, ad = some ⟨b, off, none⟩ := by
        rcases hp with ⟨_, _, h1, _⟩ | ⟨b, off, cap, _, h2, _⟩
        · rw [h1] at g1; exact absurd rfl g1
        · simp at h2; exact ⟨b, off, h2.1⟩
      have KC := @bclone_own p w ⟨b, off, none⟩ cp hp (by omega)
      rw [eX]
      rw [hf] at K
      go_enter Tryz.func125, Tryz.ntmps125
      go_wp2_with fail
      refine K.mono ?_
      rintro _ wq ⟨rfl, hwq⟩
      rw [hwq]
      clear hwq wq
      go_wp2_with fail
      have c3c : ∀ W, Below w.heap.size w W → W.cell? ⟨db, 3, none⟩ = some (.map (some (mb true))) := fun W hb => (hb.cell (p := ⟨db, 3, none⟩) (hM.lt db hM.gd)).trans c3
      go_region_held3 (fun wx => wx.cell? ⟨db, 3, none⟩ = some (.map (some (mb true)))) (first | exact c3 | assumption | exact c3c _ (by assumption)) (first
        | ((go_at_call 151; go_loud (refine (bclone_own (p := p) (by first | exact hp | exact hp.drewN 1) (by omega)).mono ?_); rintro _ w9 ⟨v9, rfl, R9, B9⟩; have C9 : Below w.heap.size w w9 := ⟨B9.os, B9.tape, B9.output, B9.size, B9.block⟩; obtain ⟨g9, k9, rfl, hg9, O9⟩ := owns_formD R9 g1; have I9 := hI.below C9; obtain ⟨w8, r8, t8, I8⟩ := DkIn.write I9 ha hf ⟨hb1, hb2⟩ O9 (fun e => by have := hM.lt _ e; have h9 : w.heap.size ≤ g9 := hg9; omega); have D8 := I8.1.c3)))
      have FIN : Hid (∃ G', DiskAt w8 db G' (wrS d a p) ∧ Grew G w G' w8) := ⟨_, ⟨mb, _, _, I8⟩, (Below.turnG C9 G).trans (mapTurned_turnG t8 (hM.gm true)), fun k hk => hk.elim Or.inl (fun e => Or.inr (by rw [e]; exact hg9))⟩
      clear I8 t8 r8 I9 O9 hg9 R9 C9 B9 c3c KC K hp hI hM REF c3 D8
      go_wp2
      go_ret
      exact ⟨rfl, FIN.out⟩
    · have eX : wrX d a p = 1 := by unfold wrX; rw [if_pos hf, if_neg hb]
      have F := REF (x := 0) (w' := w) (by unfold wrS; rw [if_neg (fun h => hb h.2)]) rfl
      rw [hf] at K
      rw [eX]
      clear eX REF hI hM c3 hp
      by_cases g1 : p.length = 0
      · have q1 : ((p.length : Int) == 0) = true := by rw [g1]; rfl
        go_enter Tryz.func125, Tryz.ntmps125
        go_wp2_with fail
        refine K.mono ?_
        rintro _ wq ⟨rfl, hwq⟩
        rw [hwq]
        clear hwq wq K
        go_wp2
        go_ret
        exact ⟨rfl, F.out⟩
      · have g3 : 4108 < (p.length : Int) := by have : ¬ (1 ≤ p.length ∧ p.length ≤ 4108) := hb; omega
        have g2 : ¬ (p.length : Int) = 0 := by omega
        have q1 : ((p.length : Int) == 0) = false := beq_eq_false_iff_ne.2 g2
        have q3 : decide (4108 < (p.length : Int)) = true := decide_eq_true g3
        go_enter Tryz.func125, Tryz.ntmps125
        go_wp2_with fail
        refine K.mono ?_
        rintro _ wq ⟨rfl, hwq⟩
        rw [hwq]
        clear hwq wq K
        go_wp2
        go_ret
        exact ⟨rfl, F.out⟩
  · have eX : wrX d a p = faX d a := by unfold wrX; rw [if_neg hf]
    have F := REF (x := 0) (w' := w) (by unfold wrS; rw [if_neg (fun h => hf h.1)]) rfl
    rw [eX]
    obtain ⟨x, hx⟩ : ∃ x, x = faX d a := ⟨_, rfl⟩
    rw [← hx] at hf K ⊢
    clear eX REF hI hM c3 hp hx
    have q1 : (x == 0) = false := beq_eq_false_iff_ne.2 hf
    go_enter Tryz.func125, Tryz.ntmps125
    go_wp2_with fail
    refine K.mono ?_
    rintro _ wq ⟨rfl, hwq⟩
    rw [hwq]
    clear hwq wq K
    go_wp2
    go_ret
    exact ⟨rfl, F.out⟩
end
end Go.Proofs.YtclieefpnbdbjaaGreat.Gf

namespace Go.Proofs.YtclieefpnbdbjaaGreat.Gf
set_option linter.unusedVariables false
set_option linter.unusedSimpArgs false
open Go.RowKit
section
variable {w : World} {db : Nat} {G : Nat → Prop} {d : DkS}
theorem own_none (w : World) (base e : Nat) : w.ownsRow base e 1 (.slice none 0 0) 0 [] := ⟨rfl, Or.inl ⟨rfl, rfl⟩⟩
/-- what Read answers -/
def Tells (w : World) (x : Int) (p : List UInt8) (e : Ending) (w' : World) : Prop := ∃ v, e = .returned (.tuple #[v, .int .i64 x]) ∧ w'.ownsRow w.heap.size 5 1 v p.length (p.map vb) ∧ Below w.heap.size w w'
theorem newV_rd {mb : Bool → Nat} {B C : Bool → Int → Nat} (h : DkM w db mb B C G d) (a : Int) : (newV d B C a = .slice none 0 0 ∧ atD d a = none) ∨ ∃ g c p, newV d B C a = .slice (some ⟨g, 0, none⟩) p.length c ∧ atD d a = some p ∧ Rd w (.slice (some ⟨g, 0, none⟩) p.length c) p ∧ p.length ≤ 4108 := by
  unfold newV atD valI
  cases hw : d.wait a with
  | some p => exact Or.inr ⟨B true a, C true a, p, rfl, rfl, Rd.owned (h.row true a p hw), (h.ins true a p hw).2.2.2⟩
  | none =>
    cases hl : d.last a with
    | none => exact Or.inl ⟨rfl, rfl⟩
    | some p => exact Or.inr ⟨B false a, C false a, p, rfl, rfl, Rd.owned (h.row false a p hl), (h.ins false a p hl).2.2.2⟩
set_option maxRecDepth 100000 in
set_option maxHeartbeats 1000000 in
theorem dread_any (h : DiskAt w db G d) {a : Int} (ha : (Lit.int .i64 a).wf = true) :
    Calls Tryz.prog 111 #[.pointer (some ⟨db, 0, none⟩), .int .i64 a] w (Tells w (faX d a) (rdB d a)) := by
  obtain ⟨mb, B, C, hI⟩ := h
  have hM := hI.1
  have K := @drat_any w db d a hM.c0 hM.c1
  have KN := dnew_any hM ha
  by_cases hf : faX d a = 0
  · have eR : rdB d a = (atD d a).getD [] := by unfold rdB; rw [if_pos hf]
    rw [hf] at K ⊢
    rw [eR]
    rcases newV_rd hM a with ⟨e1, e2⟩ | ⟨g, c, p, e1, e2, hR, hl⟩
    · rw [e1] at KN
      rw [e2]
      go_enter Tryz.func111, Tryz.ntmps111
      go_wp2_with fail
      refine K.mono ?_
      rintro _ wq ⟨rfl, hwq⟩
      rw [hwq]
      clear hwq wq K
      go_wp2_with fail
      refine KN.mono ?_
      rintro _ wq ⟨rfl, hwq⟩
      rw [hwq]
      clear hwq wq KN
      go_wp2_with fail
      refine (@bclone_nil w).mono ?_
      rintro _ wq ⟨rfl, hwq⟩
      rw [hwq]
      clear hwq wq
      go_wp2
      refine bodyPost_ret (v := .tuple #[.slice none 0 0, .int .i64 0]) (by simp [results, Tryz.results111, go_sem]) rfl ?_
      exact ⟨_, rfl, own_none _ _ _, Below.refl _ _⟩
    · rw [e1] at KN
      rw [e2]
      have KC := bclone_own hR (by omega)
      go_enter Tryz.func111, Tryz.ntmps111
      go_wp2_with fail
      refine K.mono ?_
      rintro _ wq ⟨rfl, hwq⟩
      rw [hwq]
      clear hwq wq K
      go_wp2_with fail
      refine KN.mono ?_
      rintro _ wq ⟨rfl, hwq⟩
      rw [hwq]
      clear hwq wq KN
      go_wp2_with fail
      refine KC.mono ?_
      rintro _ wq ⟨v, rfl, O1, B1⟩
      go_wp2
      refine bodyPost_ret (v := .tuple #[v, .int .i64 0]) (by simp [results, Tryz.results111, go_sem]) rfl ?_
      exact ⟨_, rfl, O1, B1⟩
  · have eR : rdB d a = [] := by unfold rdB; rw [if_neg hf]
    rw [eR]
    obtain ⟨x, hx⟩ : ∃ x, x = faX d a := ⟨_, rfl⟩
    rw [← hx] at hf K ⊢
    clear eR hI hM hx KN
    have q1 : (x == 0) = false := beq_eq_false_iff_ne.2 hf
    go_enter Tryz.func111, Tryz.ntmps111
    go_wp2_with fail
    refine K.mono ?_
    rintro _ wq ⟨rfl, hwq⟩
    rw [hwq]
    clear hwq wq K
    go_wp2
    refine bodyPost_ret (v := .tuple #[.slice none 0 0, .int .i64 x]) (by simp [results, Tryz.results111, go_sem]) rfl ?_
    exact ⟨_, rfl, own_none _ _ _, Below.refl _ _⟩
theorem dfail_any (h : DiskAt w db G d) : Calls Tryz.prog 56 #[.pointer (some ⟨db, 0, none⟩)] w (Leaves w db G (faS d) (.tuple #[])) := by
  obtain ⟨mb, B, C, hI⟩ := h
  have hM := hI.1
  have c1 := hM.c1
  have fz := hM.fz
  have M1 := hM.kill true
  obtain ⟨w1, w2, r1, t1, r2, t2, I2⟩ := M1.emptied
  have KE := demp_any M1 r1 t1 r2
  have FIN : Hid (∃ G', DiskAt w2 db G' (faS d) ∧ Grew G w G' w2) := ⟨G, ⟨mb, B, C, I2⟩, Grew.of_turn (((setCell_turnG hM.gd).trans (mapTurned_turnG t1 (hM.gm false))).trans (mapTurned_turnG t2 (hM.gm true)))⟩
  clear M1 hI hM r1 t1 r2 t2 I2
  go_enter Tryz.func56, Tryz.ntmps56
  go_wp2_with fail
  refine KE.mono ?_
  rintro _ wq ⟨rfl, hwq⟩
  rw [hwq]
  clear hwq wq KE
  go_wp2
  go_end0
  exact ⟨rfl, FIN.out⟩
theorem drepl_any (h : DiskAt w db G d) : Calls Tryz.prog 57 #[.pointer (some ⟨db, 0, none⟩)] w (Leaves w db G (reS d) (.tuple #[])) := by
  obtain ⟨mb, B, C, hI⟩ := h
  have hM := hI.1
  have c1 := hM.c1
  have fz := hM.fz
  have M1 := hM.kill false
  obtain ⟨w1, w2, r1, t1, r2, t2, I2⟩ := M1.emptied
  have KE := demp_any M1 r1 t1 r2
  have FIN : Hid (∃ G', DiskAt w2 db G' (reS d) ∧ Grew G w G' w2) := ⟨G, ⟨mb, B, C, I2⟩, Grew.of_turn (((setCell_turnG hM.gd).trans (mapTurned_turnG t1 (hM.gm false))).trans (mapTurned_turnG t2 (hM.gm true)))⟩
  clear M1 hI hM r1 t1 r2 t2 I2
  go_enter Tryz.func57, Tryz.ntmps57
  go_wp2_with fail
  refine KE.mono ?_
  rintro _ wq ⟨rfl, hwq⟩
  rw [hwq]
  clear hwq wq KE
  go_wp2
  go_end0
  exact ⟨rfl, FIN.out⟩
set_option maxRecDepth 100000 in
set_option maxHeartbeats 1000000 in
theorem dcrash_any (h : DiskAt w db G d) {v : Value} {L : List Int} (hL : RdI w v L) (hw : ∀ z ∈ L, (Lit.int .i64 z).wf = true) (hA : ApartG G v) (hl : L.length ≤ 9223372036854775807) :
    Calls Tryz.prog 58 #[.pointer (some ⟨db, 0, none⟩), v] w (Leaves w db G (crS d L) (.tuple #[])) := by
  obtain ⟨mb, B, C, hI⟩ := h
  obtain ⟨ad, cp, rfl⟩ := hL.form
  have hM := hI.1
  have hcell : ∀ W, TurnG G w W → ∀ k, k < L.length → ∃ b o, ad = some ⟨b, o, none⟩ ∧ W.cell? ⟨b, o + k, none⟩ = some (.int .i64 (L.getD k 0)) := by
    intro W hW k hk
    rcases hL with ⟨_, _, h1, _⟩ | ⟨b, o, c, h1, h2, h3, h4, h5⟩
    · rw [h1] at hk; simp at hk
    · have e : ad = some ⟨b, o, none⟩ := by simp at h2; exact h2.1
      refine ⟨b, o, e, ?_⟩
      rw [← h5 k hk]
      refine hW.cell (p := ⟨b, o + k, none⟩) h4 ?_
      rcases hA _ _ _ h2 with h6 | h6
      · omega
      · exact h6
  have hwf : ∀ k, k < L.length → (Lit.int .i64 (L.getD k 0)).wf = true := fun k hk => hw _ (by rw [show L.getD k 0 = L[k] by simp [List.getD, hk]]; exact List.getElem_mem hk)
  have START : Hid (∃ B C, DkIn w db mb B C G ((L.take 0).foldl seQ d) ∧ TurnG G w w) := ⟨B, C, hI, TurnG.refl _ _⟩
  clear hI hL hA hw
  go_enter Tryz.func58, Tryz.ntmps58
  go_wp2
  go_loopw [10] (fun i wr => ∃ k : Nat, k ≤ L.length ∧ i = .int .i64 (k : Int) ∧ ∃ B C, DkIn wr db mb B C G ((L.take k).foldl seQ d) ∧ TurnG G w wr) (fun i _ => L.length - (intOf i).toNat)
  case atStart => exact ⟨0, Nat.zero_le _, rfl, START.out⟩
  case round =>
    obtain ⟨k, hk, rfl, B, C, hI, hT⟩ := hrel
    by_cases hlt : k < L.length
    · have hlt' : (k : Int) < (L.length : Int) := by omega
      obtain ⟨b, o, rfl, hc⟩ := hcell _ hT k (by omega)
      have hz := hwf k (by omega)
      have HS : Hid ((L.take (k + 1)).foldl seQ d = seQ ((L.take k).foldl seQ d) (L.getD k 0)) := by
        show _ = _
        rw [List.take_add_one, List.foldl_append, List.getElem?_eq_getElem (by omega)]
        simp [List.getD, show k < L.length by omega]
      obtain ⟨z, hzz⟩ : ∃ z, z = L.getD k 0 := ⟨_, rfl⟩
      rw [← hzz] at hc hz HS
      obtain ⟨D, hD⟩ : ∃ D, D = (L.take k).foldl seQ d := ⟨_, rfl⟩
      rw [← hD] at hI HS
      have g1 : IntKind.i64.wrap ((k : Int) + 1) = ((k + 1 : Nat) : Int) := by rw [IntKind.wrap_i64]; omega
      clear hcell hwf START hzz hD
      cases hp : D.wait z with
      | some p =>
        obtain ⟨w1, w2, r1, t1, r2, t2, I2⟩ := hI.settle hz hp
        have KS := dset_hit hI.1 hz hp r1 t1 r2
        have E2 : Hid (∃ B C, DkIn w2 db mb B C G (List.foldl seQ d (List.take (k + 1) L)) ∧ TurnG G w w2) := by
          refine ⟨updQ B false z (B true z), updQ C false z (C true z), ?_, (hT.trans (mapTurned_turnG t1 (hM.gm false))).trans (mapTurned_turnG t2 (hM.gm true))⟩
          rw [HS.out]
          unfold seQ
          rw [hp]
          exact I2
        clear r1 t1 r2 t2 I2 HS hp hI hT hM
        go_wp2_with fail
        refine KS.mono ?_
        rintro _ wq ⟨rfl, hwq⟩
        rw [hwq]
        clear hwq wq KS
        go_wp2
        go_roundw
        case rel => exact ⟨k + 1, by omega, by go_num, E2.out⟩
        case measure => simp [intOf]; omega
      | none =>
        have KS := dset_miss hI.1 hz hp
        have E2 : Hid (∃ B C, DkIn wr db mb B C G (List.foldl seQ d (List.take (k + 1) L)) ∧ TurnG G w wr) := by
          refine ⟨B, C, ?_, hT⟩
          rw [HS.out]
          unfold seQ
          rw [hp]
          exact hI
        clear HS hp hI hT hM
        go_wp2_with fail
        refine KS.mono ?_
        rintro _ wq ⟨rfl, hwq⟩
        rw [hwq]
        clear hwq wq KS
        go_wp2
        go_roundw
        case rel => exact ⟨k + 1, by omega, by go_num, E2.out⟩
        case measure => simp [intOf]; omega
    · have hlt' : ¬ (k : Int) < (L.length : Int) := by omega
      have hkn : k = L.length := by omega
      rw [hkn, List.take_length] at hI
      obtain ⟨w1, r1, t1, I1⟩ := hI.unwait
      have c3 := hI.1.c3
      have FIN : Hid (∃ G', DiskAt w1 db G' (crS d L) ∧ Grew G w G' w1) := ⟨G, ⟨mb, B, C, by rw [← keep_crash]; exact I1⟩, Grew.of_turn (hT.trans (mapTurned_turnG t1 (hM.gm true)))⟩
      clear I1 t1 hI hT hM hcell hwf START
      go_wp2
      go_end0
      exact ⟨rfl, FIN.out⟩
end
end Go.Proofs.YtclieefpnbdbjaaGreat.Gf
