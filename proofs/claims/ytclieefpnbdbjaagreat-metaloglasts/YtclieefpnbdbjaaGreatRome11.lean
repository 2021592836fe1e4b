/- TEXTS JOINED: DkCF, DkNew, DkTol. -/
import Derived.Maps.RangeWalk
import Derived.Test.YtclieefpnbdbjaaGreatRome10
namespace Go.Proofs.YtclieefpnbdbjaaGreat.Gf
set_option linter.unusedVariables false
set_option linter.unusedSimpArgs false
open Go.RowKit
open Go.Maps (Keyed)
open Go.ChangeMaps Go.MapKept
/-- what the map reads as: an integer that is not struck -/
theorem has_del {D : DataW Value} {S : Nat} (hk : ∀ kl, Maps.has D kl = true → ∃ x : Int, kl = .int .i64 x ∧ 0 ≤ x ∧ x < (S : Int)) (y : Int) : (fun z : Lit => Maps.has D z && !z.sameKey (.int .i64 y)) = Maps.has (D.del (.int .i64 y)) := by
  funext z
  by_cases e : z = .int .i64 y
  · subst e
    rw [Maps.has_del_same, WideAt.sameKey_self (show WideAt.IsKeyLit (.int .i64 y) from trivial)]
    simp
  · rw [Maps.has_del_other e]
    cases hh : Maps.has D z with
    | false => rfl
    | true =>
      obtain ⟨x, rfl, _⟩ := hk z hh
      have : (Lit.int .i64 x).sameKey (.int .i64 y) = false := by
        cases hs : (Lit.int .i64 x).sameKey (.int .i64 y) with
        | false => rfl
        | true =>
          simp [Lit.sameKey] at hs
          exact absurd (by rw [hs]) e
      rw [this]
      rfl
/-- behind some sectors that were settled: each is as it was, or it lasts -/
structure FlK (d e : DkS) : Prop where
  s : e.s = d.s
  dead : e.dead = d.dead
  each : ∀ x, (e.wait x = d.wait x ∧ e.last x = d.last x) ∨ (e.wait x = none ∧ e.last x = overB d.wait d.last x)
theorem FlK.refl (d : DkS) : FlK d d := ⟨rfl, rfl, fun x => Or.inl ⟨rfl, rfl⟩⟩
theorem FlK.settle {d e : DkS} (h : FlK d e) {a : Int} {p : List UInt8} (hp : e.wait a = some p) : FlK d (seS e a p) := by
  refine ⟨h.s, h.dead, fun x => ?_⟩
  by_cases ex : x = a
  · subst ex
    have hl : (seS e x p).last x = some p := if_pos rfl
    have hw : (seS e x p).wait x = none := if_pos rfl
    refine Or.inr ⟨hw, hl.trans ?_⟩
    rcases h.each x with ⟨h1, h2⟩ | ⟨h1, h2⟩
    · unfold overB
      rw [← h1, hp]
    · rw [h1] at hp
      cases hp
  · have hl : (seS e a p).last x = e.last x := if_neg ex
    have hw : (seS e a p).wait x = e.wait x := if_neg ex
    rw [hl, hw]
    exact h.each x
theorem FlK.done {d e : DkS} (h : FlK d e) (hd : d.dead = false) (hn : ∀ x, e.wait x = none) : e = flS d := by
  unfold flS
  rw [if_neg (by rw [hd]; decide)]
  obtain ⟨es, el, ew, ed⟩ := e
  rw [DkS.mk.injEq]
  refine ⟨h.s, funext fun x => ?_, funext hn, h.dead⟩
  rcases h.each x with ⟨h1, h2⟩ | ⟨h1, h2⟩
  · have h3 := hn x
    unfold overB
    rw [← h1, show ({ s := es, last := el, wait := ew, dead := ed : DkS }).wait x = none from h3]
    exact h2
  · exact h2
section
variable {w : World} {db : Nat} {G : Nat → Prop} {d : DkS}
/-- the loop under way -/
def FlI (w0 : World) (db : Nat) (mb : Bool → Nat) (G : Nat → Prop) (d : DkS) (r : Nat) (wr : World) : Prop :=
  ∃ e B C D cnt, DkIn wr db mb B C G e ∧ FlK d e ∧ wr.ranges Tryz.prog 3 RV (mb true) r d.s D (Maps.has D) cnt ∧ (∀ kl, Maps.has D kl = true → ∃ x : Int, kl = .int .i64 x ∧ 0 ≤ x ∧ x < (d.s : Int)) ∧
    (∀ x : Int, Maps.has D (.int .i64 x) = (e.wait x).isSome) ∧ TurnG G w0 wr ∧ w0.heap.size ≤ r
set_option maxRecDepth 100000 in
set_option maxHeartbeats 1000000 in
theorem dflush_any (h : DiskAt w db G d) : Calls Tryz.prog 128 #[.pointer (some ⟨db, 0, none⟩)] w (Leaves w db G (flS d) (.int .i64 (flX d))) := by
  obtain ⟨mb, B, C, hI⟩ := h
  have hM := hI.1
  have c3 := hM.c3
  have K := @dref_any w db d.dead hM.c1
  cases hd : d.dead with
  | true =>
    have e1 : flX d = 120 := if_pos hd
    have F : Hid (∃ G', DiskAt w db G' (flS d) ∧ Grew G w G' w) := by
      show ∃ G', _
      rw [show flS d = d from if_pos hd]
      exact ⟨G, ⟨mb, B, C, hI⟩, Grew.refl G w⟩
    rw [hd] at K
    simp only [if_true] at K
    rw [e1]
    clear e1 hI hM c3
    go_enter Tryz.func128, Tryz.ntmps128
    go_wp2_with fail
    refine K.mono ?_
    rintro _ wq ⟨rfl, hwq⟩
    rw [hwq]
    clear hwq wq K
    go_wp2
    go_ret
    exact ⟨rfl, F.out⟩
  | false =>
    have e1 : flX d = 0 := by unfold flX; rw [if_neg (by rw [hd]; decide)]
    rw [hd] at K
    simp only [Bool.false_eq_true, if_false] at K
    rw [e1]
    obtain ⟨D, hown, hk, hf⟩ := hM.mp true
    go_enter Tryz.func128, Tryz.ntmps128
    go_wp2_with fail
    refine K.mono ?_
    rintro _ wq ⟨rfl, hwq⟩
    rw [hwq]
    clear hwq wq K
    go_wp2_with (first | (at_range; refine wpList_range_own _ rfl _ 152 rfl 3 42 keyed_int under_map RV (mb true) d.s D rfl hown ?_; intro w0 hrg0 hg0 hs0))
    go_frame
    have START : Hid (FlI w db mb G d w.heap.size w0) := by
      have hB0 : Below w.heap.size w w0 := ⟨hg0.os, hg0.tape, hg0.output, hg0.size, fun k hk => hg0.block k hk (by simp)⟩
      refine ⟨d, B, C, D, _, hI.below hB0, FlK.refl d, hrg0, hk, fun x => ?_, Below.turnG hB0 G, Nat.le_refl _⟩
      rcases hf x with ⟨h1, h2⟩ | ⟨v, h1, h2, _⟩
      · rw [h1]
        have h2' : (d.wait x).map _ = none := h2
        rw [Option.map_eq_none_iff] at h2'
        rw [h2']
        rfl
      · rw [h2]
        have h1' : (d.wait x).map _ = some v := h1
        rw [Option.map_eq_some_iff] at h1'
        obtain ⟨p, h3, _⟩ := h1'
        rw [h3]
        rfl
    have hGr : Hid (∀ k, G k → k < w.heap.size) := hM.lt
    have hgm : Hid (∀ q, G (mb q)) := hM.gm
    obtain ⟨r, hr⟩ : ∃ r, Hid (r = w.heap.size) := ⟨_, rfl⟩
    rw [← hr.out] at START ⊢
    clear hrg0 hg0 hs0 hown hk hf hI hM c3 hr
    go_loopw [4] (fun _ wr => FlI w db mb G d r wr) (fun _ wr => wr.rangeLeft (mb true) r)
    case atStart => exact START.out
    case round =>
      obtain ⟨e, B, C, D, cnt, hI, hF, hrg, hk, hh, hT, hr⟩ := hrel
      clear START
      go_wp2_with (first | (at_next; refine wpList_next_ranges _ rfl _ rfl 3 keyed_int RV (Value.int .i64) id (fun key kl hkey => by obtain ⟨x, rfl, _⟩ := Maps.keyOf_int_inv (q := .i64) (by kernel_rfl) hkey; exact ⟨x, rfl⟩) (fun v y _ => ⟨v, rfl⟩) (mb true) r d.s D _ cnt rfl hrg ?_ ?_))
      · intro _ hl0
        have E : e = flS d := hF.done hd (fun x => by
          have h1 := hh x
          rw [hl0] at h1
          cases hx : e.wait x with
          | none => rfl
          | some p => rw [hx] at h1; cases h1)
        have FIN : Hid (∃ G', DiskAt wr db G' (flS d) ∧ Grew G w G' wr) := ⟨G, ⟨mb, B, C, by rw [← E]; exact hI⟩, Grew.of_turn hT⟩
        clear hI hF hrg hk hh hT hl0 E hGr hgm
        go_wp2
        go_ret
        exact ⟨rfl, FIN.out⟩
      · intro x c kl y yl w1 cnt1 hkey hlk hv hat hrg1 hlt1 hg1 hs1 hen
        obtain ⟨x', ex, rfl, hwx⟩ := Maps.keyOf_int_inv (q := .i64) (by kernel_rfl) hkey
        cases ex
        obtain ⟨p, hp⟩ : ∃ p, e.wait x = some p := by
          have h1 := hh x
          rw [hlk] at h1
          cases hx : e.wait x with
          | none => rw [hx] at h1; cases h1
          | some p => exact ⟨p, rfl⟩
        have hnr : ¬ G r := fun h => by have := hGr.out r h; omega
        have I1 : DkIn w1 db mb B C G e := ⟨hI.1.keep (fun k hk => by
          by_cases e : k < wr.heap.size
          · exact hg1.block k e (fun h => hnr (by cases h; exact hk))
          · rw [Array.getElem?_eq_none (by rw [hs1]; omega), Array.getElem?_eq_none (by omega)]) (by rw [hs1]; exact Nat.le_refl _), hI.2⟩
        obtain ⟨w2, w3, r1, t1, r2, t2, I3⟩ := I1.settle hwx hp
        have KS := dset_hit I1.1 hwx hp r1 t1 r2
        obtain ⟨o1, o2, o3, o4⟩ := mapTurned_os t1
        have hrg2 := hrg1.kept (w' := w2) (row := some (mb false)) ⟨o1, o2, o3, by rw [o4]; exact Nat.le_refl _, fun k _ hk => mapTurned_block t1 (fun e => hk (by rw [e]))⟩ (fun h => I1.1.lw (by simpa using h.symm)) (fun h => by simp at h; exact hnr (by rw [h]; exact hgm.out false))
        obtain ⟨w3', cnt3, hrun3, hrg3, hle, ht3⟩ := hrg2.drop keyed_int under_map (key_int hwx) 0
        rw [r2] at hrun3
        simp only [Result.ok.injEq] at hrun3
        obtain ⟨_, rfl⟩ := hrun3
        rw [Maps.strike_twice, has_del hk] at hrg3
        have hT1 : TurnG G w w1 := ⟨hg1.os.trans hT.os, hg1.tape.trans hT.tape, hg1.output.trans hT.output, by rw [hs1]; exact hT.size, fun k hk hg => (hg1.block k (Nat.lt_of_lt_of_le hk hT.size) (fun h => by cases h; omega)).trans (hT.block k hk hg)⟩
        have E2 : Hid (FlI w db mb G d r w3) := by
          refine ⟨seS e x p, _, _, _, cnt3, I3, hF.settle hp, hrg3, ?_, ?_, (hT1.trans (mapTurned_turnG t1 (hgm.out false))).trans (mapTurned_turnG t2 (hgm.out true)), hr⟩
          · intro kl hh2
            by_cases ek : kl = .int .i64 x
            · subst ek; rw [Maps.has_del_same] at hh2; cases hh2
            · rw [Maps.has_del_other ek] at hh2; exact hk kl hh2
          · intro z
            by_cases ez : z = x
            · subst ez
              rw [Maps.has_del_same, show (seS e z p).wait z = none from if_pos rfl]
              rfl
            · have hne : Lit.int .i64 z ≠ .int .i64 x := fun h => ez (by simpa using h)
              rw [Maps.has_del_other hne, show (seS e x p).wait z = e.wait z from if_neg ez]
              exact hh z
        have E3 : Hid (w3.rangeLeft (mb true) r < wr.rangeLeft (mb true) r) := by
          show _ < _
          rw [hrg3.left_eq, hrg.left_eq]
          omega
        clear I3 hF hrg3 hle ht3 hrg2 hT1 hT t1 t2 r1 r2 o1 o2 o3 o4 I1 hnr hp hkey hlk hv hat hrg1 hlt1 hg1 hs1 hI hrg hk hh hr hGr hgm
        go_wp2_with fail
        refine KS.mono ?_
        rintro _ wq ⟨rfl, hwq⟩
        rw [hwq]
        clear hwq wq KS
        go_wp2
        go_roundw
        case rel => exact E2.out
        case measure => exact E3.out
end
end Go.Proofs.YtclieefpnbdbjaaGreat.Gf

namespace Go.Proofs.YtclieefpnbdbjaaGreat.Gf
set_option linter.unusedVariables false
set_option linter.unusedSimpArgs false
open Go.RowKit
theorem new_at (w : World) {n : Int} (h1 : 1 ≤ n) (h2 : n ≤ 4096) (t : TypeId) :
    DiskAt (((w.alloc (.map #[] 0)).alloc (.map #[] 0)).alloc (.cells #[.int .i64 n, .bool false, .map (some w.heap.size), .map (some (w.heap.size + 1))] t)) (w.heap.size + 1 + 1) (fun k => w.heap.size ≤ k ∧ k < w.heap.size + 3) (newD n.toNat) := by
  have hn : ((n.toNat : Nat) : Int) = n := by omega
  obtain ⟨w1, hw1⟩ : ∃ w1, w1 = w.alloc (.map #[] 0) := ⟨_, rfl⟩
  obtain ⟨w2, hw2⟩ : ∃ w2, w2 = w1.alloc (.map #[] 0) := ⟨_, rfl⟩
  have s1 : w1.heap.size = w.heap.size + 1 := by rw [hw1]; simp
  have s2 : w2.heap.size = w.heap.size + 1 + 1 := by rw [hw2]; simp [s1]
  have m1 : MapI Tryz.prog 3 w1 w.heap.size n.toNat (fun _ => none) := by rw [hw1]; exact MapI.made _ _ w _
  have m2 : MapI Tryz.prog 3 w2 (w.heap.size + 1) n.toNat (fun _ => none) := by rw [hw2, ← s1]; exact MapI.made _ _ w1 _
  have b1 : Below w1.heap.size w1 w2 := by rw [hw2]; exact (Below.refl _ _).alloc (Nat.le_refl _) _
  have m1' := m1.below b1
  rw [← hw1, ← hw2, ← s2]
  obtain ⟨w3, hw3⟩ : ∃ w3, w3 = w2.alloc (.cells #[.int .i64 n, .bool false, .map (some w.heap.size), .map (some (w.heap.size + 1))] t) := ⟨_, rfl⟩
  have b2 : Below w2.heap.size w2 w3 := by rw [hw3]; exact (Below.refl _ _).alloc (Nat.le_refl _) _
  have m1'' := m1'.below b2
  have m2' := m2.below b2
  have s3 : w3.heap.size = w.heap.size + 3 := by rw [hw3]; simp [s2]
  have cc : ∀ i, w3.cell? ⟨w2.heap.size, i, none⟩ = (#[Value.int .i64 n, .bool false, .map (some w.heap.size), .map (some (w.heap.size + 1))])[i]? := fun i => by rw [hw3]; exact World.cell?_alloc_new _ _ _ _
  rw [← hw3]
  refine ⟨fun q => if q = true then w.heap.size + 1 else w.heap.size, fun _ _ => 0, fun _ _ => 0, ⟨?_, ?_, ?_, ?_, ?_, fun q => ?_, fun q x p hp => ?_, ⟨by omega, by omega⟩, fun q => ?_, fun q x p hp => ?_, fun k hk => by rw [s3]; exact hk.2, ?_, fun q => ?_, ?_, ?_⟩, ?_, newD_ok (by omega) (by omega)⟩
  · rw [cc]; show some (Value.int .i64 n) = _; rw [show (newD n.toNat).s = n.toNat from rfl, hn]
  · rw [cc]; rfl
  · rw [cc]; rfl
  · rw [cc]; rfl
  · rw [hw3]; simp [go_sem]
  · cases q
    · exact m1''
    · exact m2'
  · cases q <;> cases hp
  · cases q
    · exact ⟨Nat.le_refl _, by show w.heap.size < _; omega⟩
    · exact ⟨by show _ ≤ w.heap.size + 1; omega, by show w.heap.size + 1 < _; omega⟩
  · cases q <;> cases hp
  · show w.heap.size ≠ w.heap.size + 1
    omega
  · cases q <;> exact InS.none _
  · show 1 ≤ n.toNat
    omega
  · show n.toNat ≤ 4096
    omega
  · intro q x p r y p' h1
    cases q <;> cases h1
/-- a new disk -/
def NewsD (w : World) (n : Int) (e : Ending) (w' : World) : Prop := ∃ db G, e = .returned (.tuple #[.pointer (some ⟨db, 0, none⟩), .int .i64 0]) ∧ DiskAt w' db G (newD n.toNat) ∧ (∀ k, G k → w.heap.size ≤ k) ∧ Below w.heap.size w w'
theorem dmake_any {w : World} {n : Int} (h1 : 1 ≤ n) (h2 : n ≤ 4096) : Calls Tryz.prog 33 #[.int .i64 n] w (NewsD w n) := by
  have g1 : ¬ n < 1 := by omega
  have g2 : ¬ n > 4096 := by omega
  have MK : ∀ w : World, (Instr.makeMap 152 none).run Tryz.prog w = .ok (.map (some w.heap.size)) (w.alloc (.map #[] 0)) := fun w => by kernel_rfl
  go_enter Tryz.func33, Tryz.ntmps33
  go_wp2
  refine bodyPost_ret (v := .tuple #[.pointer (some ⟨w.heap.size + 1 + 1, 0, none⟩), .int .i64 0]) (by simp [results, Tryz.results33, go_sem]) rfl ?_
  refine ⟨_, _, rfl, new_at w h1 h2 _, fun k hk => hk.1, ?_⟩
  exact (((Below.refl _ _).alloc (Nat.le_refl _) _).alloc (by simp) _).alloc (by simp; omega) _
end Go.Proofs.YtclieefpnbdbjaaGreat.Gf

namespace Go.Proofs.YtclieefpnbdbjaaGreat.Gf
set_option linter.unusedVariables false
set_option linter.unusedSimpArgs false
open Go.RowKit
section
variable {w : World} {db : Nat} {G : Nat → Prop} {d : DkS}
theorem DiskAt.dead (h : DiskAt w db G d) : w.cell? ⟨db, 1, none⟩ = some (.bool d.dead) := by
  obtain ⟨mb, B, C, h1, _⟩ := h
  exact h1.c1
theorem belA (w : World) (o : Obj) : Below w.heap.size w (w.alloc o) := (Below.refl _ _).alloc (Nat.le_refl _) _
end
end Go.Proofs.YtclieefpnbdbjaaGreat.Gf
