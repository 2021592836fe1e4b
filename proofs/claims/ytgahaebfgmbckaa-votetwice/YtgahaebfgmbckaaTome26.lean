/- TEXTS JOINED: DkCF, ArCC. -/
import Derived.Test.YtgahaebfgmbckaaTome14
namespace Go.Proofs.Ytgahaebfgmbckaa.Gf
set_option linter.unusedVariables false
set_option linter.unusedSimpArgs false
open Go.RowKit
open Go.Maps (Keyed)
open Go.ChangeMaps Go.MapKept
/-- what the map reads as: an integer that is not struck -/
theorem has_del {D : DataW Value} {S : Nat} (hk : ∀ kl, Maps.has D kl = true → ∃ x : Int, kl = .int .i64 x ∧ 0 ≤ x ∧ x < (S : Int)) (y : Int) : (fun z : Lit => Maps.has D z && !z.sameKey (.int .i64 y)) = Maps.has (D.del (.int .i64 y)) := by
  funext z
  by_cases e : z = .int .i64 y
  · subst e
    rw [Maps.has_del_same, WideAt.sameKey_self (show WideAt.IsKeyLit (.int .i64 y) from trivial)]
    simp
  · rw [Maps.has_del_other e]
    cases hh : Maps.has D z with
    | false => rfl
    | true =>
      obtain ⟨x, rfl, _⟩ := hk z hh
      have : (Lit.int .i64 x).sameKey (.int .i64 y) = false := by
        cases hs : (Lit.int .i64 x).sameKey (.int .i64 y) with
        | false => rfl
        | true =>
          simp [Lit.sameKey] at hs
          exact absurd (by rw [hs]) e
      rw [this]
      rfl
/-- behind some sectors that were settled: each is as it was, or it lasts -/
structure FlK (d e : DkS) : Prop where
  s : e.s = d.s
  dead : e.dead = d.dead
  each : ∀ x, (e.wait x = d.wait x ∧ e.last x = d.last x) ∨ (e.wait x = none ∧ e.last x = overB d.wait d.last x)
theorem FlK.refl (d : DkS) : FlK d d := ⟨rfl, rfl, fun x => Or.inl ⟨rfl, rfl⟩⟩
theorem FlK.settle {d e : DkS} (h : FlK d e) {a : Int} {p : List UInt8} (hp : e.wait a = some p) : FlK d (seS e a p) := by
  refine ⟨h.s, h.dead, fun x => ?_⟩
  by_cases ex : x = a
  · subst ex
    have hl : (seS e x p).last x = some p := if_pos rfl
    have hw : (seS e x p).wait x = none := if_pos rfl
    refine Or.inr ⟨hw, hl.trans ?_⟩
    rcases h.each x with ⟨h1, h2⟩ | ⟨h1, h2⟩
    · unfold overB
      rw [← h1, hp]
    · rw [h1] at hp
      cases hp
  · have hl : (seS e a p).last x = e.last x := if_neg ex
    have hw : (seS e a p).wait x = e.wait x := if_neg ex
    rw [hl, hw]
    exact h.each x
theorem FlK.done {d e : DkS} (h : FlK d e) (hd : d.dead = false) (hn : ∀ x, e.wait x = none) : e = flS d := by
  unfold flS
  rw [if_neg (by rw [hd]; decide)]
  obtain ⟨es, el, ew, ed⟩ := e
  rw [DkS.mk.injEq]
  refine ⟨h.s, funext fun x => ?_, funext hn, h.dead⟩
  rcases h.each x with ⟨h1, h2⟩ | ⟨h1, h2⟩
  · have h3 := hn x
    unfold overB
    rw [← h1, show ({ s := es, last := el, wait := ew, dead := ed : DkS }).wait x = none from h3]
    exact h2
  · exact h2
section
variable {w : World} {db : Nat} {G : Nat → Prop} {d : DkS}
/-- the loop under way -/
def FlI (w0 : World) (db : Nat) (mb : Bool → Nat) (G : Nat → Prop) (d : DkS) (r : Nat) (wr : World) : Prop :=
  ∃ e B C D cnt, DkIn wr db mb B C G e ∧ FlK d e ∧ wr.ranges Try.prog 3 RV (mb true) r d.s D (Maps.has D) cnt ∧ (∀ kl, Maps.has D kl = true → ∃ x : Int, kl = .int .i64 x ∧ 0 ≤ x ∧ x < (d.s : Int)) ∧
    (∀ x : Int, Maps.has D (.int .i64 x) = (e.wait x).isSome) ∧ TurnG G w0 wr ∧ w0.heap.size ≤ r
set_option maxRecDepth 100000 in
set_option maxHeartbeats 1000000 in
theorem dflush_any (h : DiskAt w db G d) : Calls Try.prog 64 #[.pointer (some ⟨db, 0, none⟩)] w (Leaves w db G (flS d) (.int .i64 (flX d))) := by
  obtain ⟨mb, B, C, hI⟩ := h
  have hM := hI.1
  have c3 := hM.c3
  have K := @dref_any w db d.dead hM.c1
  cases hd : d.dead with
  | true =>
    have e1 : flX d = 120 := if_pos hd
    have F : Hid (∃ G', DiskAt w db G' (flS d) ∧ Grew G w G' w) := by
      show ∃ G', _
      rw [show flS d = d from if_pos hd]
      exact ⟨G, ⟨mb, B, C, hI⟩, Grew.refl G w⟩
    rw [hd] at K
    simp only [if_true] at K
    rw [e1]
    clear e1 hI hM c3
    go_enter Try.func64, Try.ntmps64
    go_wp2_with fail
    refine K.mono ?_
    rintro _ wq ⟨rfl, hwq⟩
    rw [hwq]
    clear hwq wq K
    go_wp2
    go_ret
    exact ⟨rfl, F.out⟩
  | false =>
    have e1 : flX d = 0 := by unfold flX; rw [if_neg (by rw [hd]; decide)]
    rw [hd] at K
    simp only [Bool.false_eq_true, if_false] at K
    rw [e1]
    obtain ⟨D, hown, hk, hf⟩ := hM.mp true
    go_enter Try.func64, Try.ntmps64
    go_wp2_with fail
    refine K.mono ?_
    rintro _ wq ⟨rfl, hwq⟩
    rw [hwq]
    clear hwq wq K
    go_wp2_with (first | (at_range; refine wpList_range_own _ rfl _ 94 rfl 3 22 keyed_int under_map RV (mb true) d.s D rfl hown ?_; intro w0 hrg0 hg0 hs0))
    go_frame
    have START : Hid (FlI w db mb G d w.heap.size w0) := by
      have hB0 : Below w.heap.size w w0 := ⟨hg0.os, hg0.tape, hg0.output, hg0.size, fun k hk => hg0.block k hk (by simp)⟩
      refine ⟨d, B, C, D, _, hI.below hB0, FlK.refl d, hrg0, hk, fun x => ?_, Below.turnG hB0 G, Nat.le_refl _⟩
      rcases hf x with ⟨h1, h2⟩ | ⟨v, h1, h2, _⟩
      · rw [h1]
        have h2' : (d.wait x).map _ = none := h2
        rw [Option.map_eq_none_iff] at h2'
        rw [h2']
        rfl
      · rw [h2]
        have h1' : (d.wait x).map _ = some v := h1
        rw [Option.map_eq_some_iff] at h1'
        obtain ⟨p, h3, _⟩ := h1'
        rw [h3]
        rfl
    have hGr : Hid (∀ k, G k → k < w.heap.size) := hM.lt
    have hgm : Hid (∀ q, G (mb q)) := hM.gm
    obtain ⟨r, hr⟩ : ∃ r, Hid (r = w.heap.size) := ⟨_, rfl⟩
    rw [← hr.out] at START ⊢
    clear hrg0 hg0 hs0 hown hk hf hI hM c3 hr
    go_loopw [4] (fun _ wr => FlI w db mb G d r wr) (fun _ wr => wr.rangeLeft (mb true) r)
    case atStart => exact START.out
    case round =>
      obtain ⟨e, B, C, D, cnt, hI, hF, hrg, hk, hh, hT, hr⟩ := hrel
      clear START
      go_wp2_with (first | (at_next; refine wpList_next_ranges _ rfl _ rfl 3 keyed_int RV (Value.int .i64) id (fun key kl hkey => by obtain ⟨x, rfl, _⟩ := Maps.keyOf_int_inv (q := .i64) (by kernel_rfl) hkey; exact ⟨x, rfl⟩) (fun v y _ => ⟨v, rfl⟩) (mb true) r d.s D _ cnt rfl hrg ?_ ?_))
      · intro _ hl0
        have E : e = flS d := hF.done hd (fun x => by
          have h1 := hh x
          rw [hl0] at h1
          cases hx : e.wait x with
          | none => rfl
          | some p => rw [hx] at h1; cases h1)
        have FIN : Hid (∃ G', DiskAt wr db G' (flS d) ∧ Grew G w G' wr) := ⟨G, ⟨mb, B, C, by rw [← E]; exact hI⟩, Grew.of_turn hT⟩
        clear hI hF hrg hk hh hT hl0 E hGr hgm
        go_wp2
        go_ret
        exact ⟨rfl, FIN.out⟩
      · intro x c kl y yl w1 cnt1 hkey hlk hv hat hrg1 hlt1 hg1 hs1 hen
        obtain ⟨x', ex, rfl, hwx⟩ := Maps.keyOf_int_inv (q := .i64) (by kernel_rfl) hkey
        cases ex
        obtain ⟨p, hp⟩ : ∃ p, e.wait x = some p := by
          have h1 := hh x
          rw [hlk] at h1
          cases hx : e.wait x with
          | none => rw [hx] at h1; cases h1
          | some p => exact ⟨p, rfl⟩
        have hnr : ¬ G r := fun h => by have := hGr.out r h; omega
        have I1 : DkIn w1 db mb B C G e := ⟨hI.1.keep (fun k hk => by
          by_cases e : k < wr.heap.size
          · exact hg1.block k e (fun h => hnr (by cases h; exact hk))
          · rw [Array.getElem?_eq_none (by rw [hs1]; omega), Array.getElem?_eq_none (by omega)]) (by rw [hs1]; exact Nat.le_refl _), hI.2⟩
        obtain ⟨w2, w3, r1, t1, r2, t2, I3⟩ := I1.settle hwx hp
        have KS := dset_hit I1.1 hwx hp r1 t1 r2
        obtain ⟨o1, o2, o3, o4⟩ := mapTurned_os t1
        have hrg2 := hrg1.kept (w' := w2) (row := some (mb false)) ⟨o1, o2, o3, by rw [o4]; exact Nat.le_refl _, fun k _ hk => mapTurned_block t1 (fun e => hk (by rw [e]))⟩ (fun h => I1.1.lw (by simpa using h.symm)) (fun h => by simp at h; exact hnr (by rw [h]; exact hgm.out false))
        obtain ⟨w3', cnt3, hrun3, hrg3, hle, ht3⟩ := hrg2.drop keyed_int under_map (key_int hwx) 0
        rw [r2] at hrun3
        simp only [Result.ok.injEq] at hrun3
        obtain ⟨_, rfl⟩ := hrun3
        rw [Maps.strike_twice, has_del hk] at hrg3
        have hT1 : TurnG G w w1 := ⟨hg1.os.trans hT.os, hg1.tape.trans hT.tape, hg1.output.trans hT.output, by rw [hs1]; exact hT.size, fun k hk hg => (hg1.block k (Nat.lt_of_lt_of_le hk hT.size) (fun h => by cases h; omega)).trans (hT.block k hk hg)⟩
        have E2 : Hid (FlI w db mb G d r w3) := by
          refine ⟨seS e x p, _, _, _, cnt3, I3, hF.settle hp, hrg3, ?_, ?_, (hT1.trans (mapTurned_turnG t1 (hgm.out false))).trans (mapTurned_turnG t2 (hgm.out true)), hr⟩
          · intro kl hh2
            by_cases ek : kl = .int .i64 x
            · subst ek; rw [Maps.has_del_same] at hh2; cases hh2
            · rw [Maps.has_del_other ek] at hh2; exact hk kl hh2
          · intro z
            by_cases ez : z = x
            · subst ez
              rw [Maps.has_del_same, show (seS e z p).wait z = none from if_pos rfl]
              rfl
            · have hne : Lit.int .i64 z ≠ .int .i64 x := fun h => ez (by simpa using h)
              rw [Maps.has_del_other hne, show (seS e x p).wait z = e.wait z from if_neg ez]
              exact hh z
        have E3 : Hid (w3.rangeLeft (mb true) r < wr.rangeLeft (mb true) r) := by
          show _ < _
          rw [hrg3.left_eq, hrg.left_eq]
          omega
        clear I3 hF hrg3 hle ht3 hrg2 hT1 hT t1 t2 r1 r2 o1 o2 o3 o4 I1 hnr hp hkey hlk hv hat hrg1 hlt1 hg1 hs1 hI hrg hk hh hr hGr hgm
        go_wp2_with fail
        refine KS.mono ?_
        rintro _ wq ⟨rfl, hwq⟩
        rw [hwq]
        clear hwq wq KS
        go_wp2
        go_roundw
        case rel => exact E2.out
        case measure => exact E3.out
end
end Go.Proofs.Ytgahaebfgmbckaa.Gf

namespace Go.Proofs.Ytgahaebfgmbckaa.Gf
set_option linter.unusedVariables false
set_option linter.unusedSimpArgs false
open Go.RowKit
section
variable {w : World} {ab : Nat} {GA : Nat → Prop} {a : ArS}
theorem aflush_off (h : ArAt w ab GA a) (ho : a.off = true) : Calls Try.prog 37 #[.pointer (some ⟨ab, 0, none⟩)] w (LeavesA w ab GA (flAS a) (.int .i64 (flAX a))) := by
  have h0 := h
  obtain ⟨mb, db, GD, hM, ok⟩ := h
  have c2 := hM.c2
  rw [ho] at c2
  have K := aref_any c2
  simp only [if_true] at K
  rw [show flAX a = 130 from if_pos ho]
  have FIN : Hid (∃ GA', ArAt w ab GA' (flAS a) ∧ Grew GA w GA' w) := stays h0 (if_pos ho)
  clear h0 hM ok c2
  go_enter Try.func37, Try.ntmps37
  go_wp2_with fail
  refine K.mono ?_
  rintro _ wq ⟨rfl, hwq⟩
  rw [hwq]
  clear hwq wq K
  go_wp2
  go_ret
  exact ⟨rfl, FIN.out⟩
/-- the first k disks changed by a function -/
def firstF (f : Nat → DkS → DkS) (L : List DkS) (k : Nat) : List DkS := L.mapIdx fun i d => if i < k then f i d else d
section
variable {f : Nat → DkS → DkS} {L : List DkS} {k : Nat}
theorem firstF_len : (firstF f L k).length = L.length := by simp [firstF]
theorem firstF_zero : firstF f L 0 = L := by
  unfold firstF
  apply List.ext_getElem (by simp)
  intro i h1 h2
  simp
theorem firstF_all : firstF f L L.length = L.mapIdx f := by
  unfold firstF
  apply List.ext_getElem (by simp)
  intro i h1 h2
  have : i < L.length := by simpa using h1
  simp [this]
theorem firstF_at (hk : k < L.length) : (firstF f L k).getD k default = L.getD k default := by simp [firstF, List.getD, hk]
theorem firstF_succ (hk : k < L.length) : (firstF f L k).set k (f k (L.getD k default)) = firstF f L (k + 1) := by
  unfold firstF
  apply List.ext_getElem (by simp)
  intro i h1 h2
  have h3 : i < L.length := by simpa using h1
  simp only [List.getElem_set, List.getElem_mapIdx]
  by_cases e : k = i
  · subst e
    simp [List.getD, h3]
  · rw [if_neg e]
    by_cases e2 : i < k
    · rw [if_pos e2, if_pos (by omega)]
    · rw [if_neg e2, if_neg (by omega)]
end
theorem aflush_on (h : ArAt w ab GA a) (ho : a.off = false) : Calls Try.prog 37 #[.pointer (some ⟨ab, 0, none⟩)] w (LeavesA w ab GA (flAS a) (.int .i64 (flAX a))) := by
  have h0 := h
  obtain ⟨mb, db, GD, hM, ok⟩ := h
  have c0 := hM.c0
  have c2 := hM.c2
  rw [ho] at c2
  have K := aref_any c2
  simp only [Bool.false_eq_true, if_false] at K
  have no : ¬ a.off = true := by rw [ho]; simp
  rw [show flAX a = 0 from if_neg no]
  have okS := flAS_ok ok
  have eS : flAS a = { a with D := a.D.mapIdx (fun _ d => flS d) } := by
    unfold flAS
    rw [if_neg no]
    congr 1
    apply List.ext_getElem (by simp)
    intro i h1 h2
    simp
  have START : Hid (∃ GD' GA', ArM w ab mb db GD' GA' { a with D := firstF (fun _ d => flS d) a.D 0 } ∧ Grew GA w GA' w) := ⟨GD, GA, by rw [firstF_zero]; exact hM, Grew.refl _ _⟩
  have FINI : Hid (∀ wr GD' GA', ArM wr ab mb db GD' GA' { a with D := firstF (fun _ d => flS d) a.D a.D.length } → Grew GA w GA' wr → ∃ GA', ArAt wr ab GA' (flAS a) ∧ Grew GA w GA' wr) := fun wr GD' GA' hM' g' => by
    rw [firstF_all] at hM'
    exact ⟨GA', ⟨mb, db, GD', by rw [eS]; exact hM', okS⟩, g'⟩
  clear h0 hM ok c2 eS okS
  go_enter Try.func37, Try.ntmps37
  go_wp2_with fail
  refine K.mono ?_
  rintro _ wq ⟨rfl, hwq⟩
  rw [hwq]
  clear hwq wq K
  go_wp2
  go_loopw [16] (fun i wr => ∃ k : Nat, k ≤ a.D.length ∧ i = .int .i64 (k : Int) ∧ ∃ GD' GA', ArM wr ab mb db GD' GA' { a with D := firstF (fun _ d => flS d) a.D k } ∧ Grew GA w GA' wr) (fun i _ => a.D.length - (intOf i).toNat)
  case atStart => exact ⟨0, Nat.zero_le _, rfl, START.out⟩
  case round =>
    clear START
    obtain ⟨k, hk, rfl, GD', GA', hM, hg⟩ := hrel
    by_cases hlt : k < a.D.length
    · have hlt' : (k : Int) < (a.D.length : Int) := by omega
      have g1 : IntKind.i64.wrap ((k : Int) + 1) = ((k + 1 : Nat) : Int) := by rw [IntKind.wrap_i64]; have := hM.d2; have e : ({ a with D := firstF (fun _ d => flS d) a.D k } : ArS).D.length = a.D.length := firstF_len; omega
      have hk2 : k < (firstF (fun _ d => flS d) a.D k).length := by rw [firstF_len]; exact hlt
      have m0 := hM.m0 k hk2
      have m1 := hM.m1 k hk2
      have dk : DiskAt wr (db k) (GD' k) ((firstF (fun _ d => flS d) a.D k).getD k default) := hM.dk k hk2
      have hsu : (firstF (fun _ d => flS d) a.D k).set k (flS (a.D.getD k default)) = firstF (fun _ d => flS d) a.D (k + 1) := firstF_succ (f := fun _ d => flS d) hlt
      rw [firstF_at hlt] at dk
      obtain ⟨d, hd⟩ : ∃ d, d = a.D.getD k default := ⟨_, rfl⟩
      rw [← hd] at dk hsu
      obtain ⟨z, hz⟩ : ∃ z, z = (({ a with D := firstF (fun _ d => flS d) a.D k } : ArS).B.getD k 0) := ⟨_, rfl⟩
      rw [← hz] at m1
      have KD := fun o => @ddead_any (wr.alloc o) (db k) d.dead (dk.below (belA wr o)).dead
      cases hdd : d.dead with
      | true =>
        have E2 : Hid (∀ o, ∃ GD' GA', ArM (wr.alloc o) ab mb db GD' GA' { a with D := firstF (fun _ d => flS d) a.D (k + 1) } ∧ Grew GA w GA' (wr.alloc o)) := by
          intro o
          refine ⟨GD', GA', ?_, hg.trans (Grew.of_below (belA wr o))⟩
          rw [← hsu, show flS d = d from if_pos hdd, hd, ← firstF_at (f := fun _ d => flS d) hlt, set_self _ _ _ hk2]
          exact hM.below (belA wr o)
        rw [hdd] at KD
        clear hM hg dk hsu hd hz hk2
        go_wp2_with fail
        refine (KD _).mono ?_
        rintro _ wq ⟨rfl, hwq⟩
        rw [hwq]
        clear hwq wq KD
        go_wp2
        go_roundw
        case rel => exact ⟨k + 1, by omega, by go_num, E2.out _⟩
        case measure => simp [intOf]; omega
      | false =>
        rw [hdd] at KD
        have KF := fun o => dflush_any (dk.below (belA wr o))
        have HM := fun o => hM.below (belA wr o)
        clear hz
        go_wp2_with fail
        refine (KD _).mono ?_
        rintro _ wq ⟨rfl, hwq⟩
        rw [hwq]
        clear hwq wq KD
        go_wp2_with fail
        refine (KF _).mono ?_
        rintro _ w1 ⟨rfl, G1, D1, gr1⟩
        obtain ⟨M1, gg1⟩ := (HM _).disk hk2 D1 gr1
        have E2 : Hid (∃ GD' GA', ArM w1 ab mb db GD' GA' { a with D := firstF (fun _ d => flS d) a.D (k + 1) } ∧ Grew GA w GA' w1) := by
          rw [← hsu]
          exact ⟨_, _, M1, (hg.trans (Grew.of_below (belA wr _))).trans gg1⟩
        clear hM hg dk hsu hd hk2 M1 gg1 D1 gr1 KF HM
        go_wp2
        go_roundw
        case rel => exact ⟨k + 1, by omega, by go_num, E2.out⟩
        case measure => simp [intOf]; omega
    · have hlt' : ¬ (k : Int) < (a.D.length : Int) := by omega
      have hkn : k = a.D.length := by omega
      rw [hkn] at hM
      have E2 : Hid (∃ GA', ArAt wr ab GA' (flAS a) ∧ Grew GA w GA' wr) := FINI.out wr GD' GA' hM hg
      clear hM hg FINI
      go_wp2
      go_ret
      exact ⟨rfl, E2.out⟩
theorem aflush_any (h : ArAt w ab GA a) : Calls Try.prog 37 #[.pointer (some ⟨ab, 0, none⟩)] w (LeavesA w ab GA (flAS a) (.int .i64 (flAX a))) := by
  cases ho : a.off with
  | true => exact aflush_off h ho
  | false => exact aflush_on h ho
theorem RdI.lay {w : World} {v : Value} {p : List Int} (h : RdI w v p) {x : Addr} {n c : Nat} (e : v = .slice (some x) n c) : n = 0 ∨ x.block < w.heap.size := by
  rcases h with ⟨a, c', _, e2⟩ | ⟨b, off, cap, h1, h2, h3, h5, h6⟩
  · subst e2; simp at e; exact Or.inl e.2.1.symm
  · subst h2; simp at e; obtain ⟨rfl, rfl, rfl⟩ := e; exact Or.inr h5
theorem ApartG.grewI {G G' : Nat → Prop} {w w' : World} {v : Value} {p : List Int} (ha : ApartG G v) (h : RdI w v p) (g : Grew G w G' w') : ApartG G' v := by
  intro x n c e
  rcases ha x n c e with h1 | h1
  · exact Or.inl h1
  · rcases h.lay e with h2 | h2
    · exact Or.inl h2
    · exact Or.inr (g.off h2 h1)
theorem RdI.turnG {G : Nat → Prop} {w w' : World} {v : Value} {p : List Int} (h : RdI w v p) (ha : ApartG G v) (ho : TurnG G w w') : RdI w' v p := by
  rcases h with h | ⟨b, off, cap, h1, h2, h3, h5, h6⟩
  · exact Or.inl h
  · have hb : ¬ G b := by
      rcases ha _ _ _ h2 with e | e
      · exact absurd (List.length_eq_zero_iff.1 e) h1
      · exact e
    exact Or.inr ⟨b, off, cap, h1, h2, h3, Nat.lt_of_lt_of_le h5 ho.size, fun i hi => (ho.cell (p := ⟨b, off + i, none⟩) h5 hb).trans (h6 i hi)⟩
/-- rows of integers that lie in none of the blocks -/
structure ToldII (w : World) (G : Nat → Prop) (v : Value) (K : List VI) : Prop where
  rd : RdII w v K
  ap : ApartG G v
  each : ∀ r ∈ K, ApartG G r.1
theorem VI_mem {K : List VI} {k : Nat} (hk : k < K.length) : K.getD k default ∈ K := by
  rw [show K.getD k default = K[k] by simp [List.getD, hk]]
  exact List.getElem_mem hk
theorem VI_ex {K : List VI} {r : VI} (h : r ∈ K) : ∃ k, k < K.length ∧ K.getD k default = r := by
  obtain ⟨i, hi, e⟩ := List.getElem_of_mem h
  exact ⟨i, hi, by rw [← e]; simp [List.getD, hi]⟩
theorem ToldII.grew {G G' : Nat → Prop} {w w' : World} {v : Value} {K : List VI} (h : ToldII w G v K) (g : Grew G w G' w') : ToldII w' G' v K := by
  have h0 := h.rd
  rcases h0 with h1 | ⟨b, off, cap, h1, h2, h3, h4, h5⟩
  · refine ⟨Or.inl h1, ?_, ?_⟩
    · obtain ⟨ao, cp, e1, e2⟩ := h1
      rw [e2]
      exact ApartG.nil _ _ _
    · obtain ⟨ao, cp, e1, e2⟩ := h1
      rw [e1]
      intro r hr
      cases hr
  · have hb : ¬ G b := by
      rcases h.ap _ _ _ h2 with e | e
      · exact absurd (List.length_eq_zero_iff.1 e) h1
      · exact e
    refine ⟨Or.inr ⟨b, off, cap, h1, h2, h3, Nat.lt_of_lt_of_le h4 g.turn.size, fun i hi => ?_⟩, ?_, ?_⟩
    · have h6 := h5 i hi
      exact ⟨(g.turn.cell (p := ⟨b, off + i, none⟩) h4 hb).trans h6.c, h6.rd.turnG (h.each _ (VI_mem hi)) g.turn, h6.wf⟩
    · rw [h2]
      intro x n c e
      simp at e
      obtain ⟨rfl, _⟩ := e
      exact Or.inr (g.off h4 hb)
    · intro r hr
      obtain ⟨i, hi, rfl⟩ := VI_ex hr
      exact (h.each _ hr).grewI (h5 i hi).rd g
theorem ToldII.old {w0 w : World} {G : Nat → Prop} {v : Value} {K : List VI} (h : RdII w0 v K) (hg : ∀ g, G g → w0.heap.size ≤ g) (hw : Below w0.heap.size w0 w) : ToldII w G v K := by
  refine ⟨h.below hw, ?_, ?_⟩
  · rcases h with ⟨ao, cp, e1, e2⟩ | ⟨b, off, cap, h1, h2, h3, h4, h5⟩
    · rw [e2]
      exact ApartG.nil _ _ _
    · rw [h2]
      intro x n c e
      simp at e
      obtain ⟨rfl, _⟩ := e
      exact Or.inr (fun e2 => by have := hg _ e2; simp at this; omega)
  · intro r hr
    rcases h with ⟨ao, cp, e1, e2⟩ | ⟨b, off, cap, h1, h2, h3, h4, h5⟩
    · rw [e1] at hr; cases hr
    · obtain ⟨i, hi, rfl⟩ := VI_ex hr
      intro x n c e
      rcases (h5 i hi).rd.lay e with h6 | h6
      · exact Or.inl h6
      · exact Or.inr (fun e2 => by have := hg _ e2; omega)
/-- what Restart does to a disk -/
def reF (K : List VI) (i : Nat) (d : DkS) : DkS := crS d ((K.map (·.2)).getD i [])
theorem reF_in {K : List VI} {k : Nat} (hk : k < K.length) (d : DkS) : reF K k d = crS d (K.getD k default).2 := by
  unfold reF
  simp [List.getD, hk]
theorem reF_out {K : List VI} {k : Nat} (hk : ¬ k < K.length) (d : DkS) : reF K k d = crS d [] := by
  unfold reF
  have : K[k]? = none := List.getElem?_eq_none (by omega)
  simp [List.getD, this]
set_option maxRecDepth 100000 in
theorem arestart_any (h : ArAt w ab GA a) {v : Value} {K : List VI} (hK : ToldII w GA v K) (hs : ∀ r ∈ K, r.2.length ≤ 9223372036854775807) : Calls Try.prog 22 #[.pointer (some ⟨ab, 0, none⟩), v] w (LeavesA w ab GA (reAS a (K.map (·.2))) (.tuple #[])) := by
  obtain ⟨mb, db, GD, hM, ok⟩ := h
  obtain ⟨va, vc, rfl⟩ := hK.rd.form
  have c0 := hM.c0
  have okS := reAS_ok ok (K.map (·.2))
  have START : Hid (∃ GD' GA', ArM w ab mb db GD' GA' { a with D := firstF (reF K) a.D 0 } ∧ Grew GA w GA' w) := ⟨GD, GA, by rw [firstF_zero]; exact hM, Grew.refl _ _⟩
  have FINI : Hid (∀ wr GD' GA', ArM wr ab mb db GD' GA' { a with D := firstF (reF K) a.D a.D.length } → Grew GA w GA' wr → ∃ GA', ArAt ((wr.setCell ⟨ab, 1, none⟩ (.int .i64 0)).setCell ⟨ab, 2, none⟩ (.bool false)) ab GA' (reAS a (K.map (·.2))) ∧ Grew GA w GA' ((wr.setCell ⟨ab, 1, none⟩ (.int .i64 0)).setCell ⟨ab, 2, none⟩ (.bool false))) := fun wr GD' GA' hM' g' => by
    rw [firstF_all] at hM'
    have M2 := (hM'.setLeft (l := -1) (by decide)).setOff false
    exact ⟨GA', ⟨mb, db, GD', M2, okS⟩, g'.trans (Grew.of_turn ((setCell_turnG hM'.ga).trans (setCell_turnG hM'.ga)))⟩
  clear hM ok okS
  go_enter Try.func22, Try.ntmps22
  go_wp2
  go_loopw [14] (fun i wr => ∃ k : Nat, k ≤ a.D.length ∧ i = .int .i64 (k : Int) ∧ ∃ GD' GA', ArM wr ab mb db GD' GA' { a with D := firstF (reF K) a.D k } ∧ Grew GA w GA' wr) (fun i _ => a.D.length - (intOf i).toNat)
  case atStart => exact ⟨0, Nat.zero_le _, rfl, START.out⟩
  case round =>
    clear START
    obtain ⟨k, hk, rfl, GD', GA', hM, hg⟩ := hrel
    by_cases hlt : k < a.D.length
    · have hlt' : (k : Int) < (a.D.length : Int) := by omega
      have g1 : IntKind.i64.wrap ((k : Int) + 1) = ((k + 1 : Nat) : Int) := by rw [IntKind.wrap_i64]; have := hM.d2; have e : ({ a with D := firstF (reF K) a.D k } : ArS).D.length = a.D.length := firstF_len; omega
      have hk2 : k < (firstF (reF K) a.D k).length := by rw [firstF_len]; exact hlt
      have m0 := hM.m0 k hk2
      have m1 := hM.m1 k hk2
      have dk : DiskAt wr (db k) (GD' k) ((firstF (reF K) a.D k).getD k default) := hM.dk k hk2
      have hsu : (firstF (reF K) a.D k).set k (reF K k (a.D.getD k default)) = firstF (reF K) a.D (k + 1) := firstF_succ hlt
      rw [firstF_at hlt] at dk
      obtain ⟨d, hd⟩ : ∃ d, d = a.D.getD k default := ⟨_, rfl⟩
      rw [← hd] at dk hsu
      obtain ⟨z, hz⟩ : ∃ z, z = (({ a with D := firstF (reF K) a.D k } : ArS).B.getD k 0) := ⟨_, rfl⟩
      rw [← hz] at m1
      have HK := hK.grew hg
      have KC := fun (o : Obj) (v : Value) (L : List Int) (h1 : RdI (wr.alloc o) v L) (h2 : ∀ z ∈ L, (Lit.int .i64 z).wf = true) (h3 : ApartG (GD' k) v) (h4 : L.length ≤ 9223372036854775807) => dcrash_any (dk.below (belA wr o)) h1 h2 h3 h4
      have HM := fun o => hM.below (belA wr o)
      clear hz
      by_cases hkk : k < K.length
      · have hkk' : (k : Int) < (K.length : Int) := by omega
        obtain ⟨b, off, rfl, hb, hrow⟩ := HK.rd.at hkk
        have hAp : ApartG (GD' k) (K.getD k default).1 := fun x n c e => (HK.each _ (VI_mem hkk) x n c e).imp id (fun h1 h2 => h1 (hM.gd k hk2 _ h2))
        have hsz := hs _ (VI_mem hkk)
        rw [reF_in hkk] at hsu
        obtain ⟨r, hr⟩ : ∃ r, r = K.getD k default := ⟨_, rfl⟩
        rw [← hr] at hrow hAp hsz hsu
        obtain ⟨rc, rrd, rwf⟩ := hrow
        obtain ⟨rv, rl⟩ := r
        simp only at rc rrd rwf hAp hsz hsu
        obtain ⟨ra, rcp, rfl⟩ := rrd.form
        clear hr
        go_wp2_with fail
        refine (KC _ _ rl (rrd.below (belA wr _)) rwf hAp hsz).mono ?_
        rintro _ w1 ⟨rfl, G1, D1, gr1⟩
        obtain ⟨M1, gg1⟩ := (HM _).disk hk2 D1 gr1
        have E2 : Hid (∃ GD' GA', ArM w1 ab mb db GD' GA' { a with D := firstF (reF K) a.D (k + 1) } ∧ Grew GA w GA' w1) := by
          rw [← hsu]
          exact ⟨_, _, M1, (hg.trans (Grew.of_below (belA wr _))).trans gg1⟩
        clear hM hg dk hsu hd hk2 M1 gg1 D1 gr1 KC HM HK hAp rrd rwf rc m0 m1
        go_wp2
        go_roundw
        case rel => exact ⟨k + 1, by omega, by go_num, E2.out⟩
        case measure => simp [intOf]; omega
      · have hkk' : ¬ (k : Int) < (K.length : Int) := by omega
        rw [reF_out hkk] at hsu
        go_wp2_with fail
        refine (KC _ _ [] (Or.inl ⟨none, 0, rfl, rfl⟩) (by simp) (ApartG.nil _ _ _) (by simp)).mono ?_
        rintro _ w1 ⟨rfl, G1, D1, gr1⟩
        obtain ⟨M1, gg1⟩ := (HM _).disk hk2 D1 gr1
        have E2 : Hid (∃ GD' GA', ArM w1 ab mb db GD' GA' { a with D := firstF (reF K) a.D (k + 1) } ∧ Grew GA w GA' w1) := by
          rw [← hsu]
          exact ⟨_, _, M1, (hg.trans (Grew.of_below (belA wr _))).trans gg1⟩
        clear hM hg dk hsu hd hk2 M1 gg1 D1 gr1 KC HM HK m0 m1
        go_wp2
        go_roundw
        case rel => exact ⟨k + 1, by omega, by go_num, E2.out⟩
        case measure => simp [intOf]; omega
    · have hlt' : ¬ (k : Int) < (a.D.length : Int) := by omega
      have hkn : k = a.D.length := by omega
      rw [hkn] at hM
      have c1 := hM.c1
      have c2 := hM.c2
      have f1 := hM.f1
      have f2 := hM.f2
      have E2 : Hid (∃ GA', ArAt ((wr.setCell ⟨ab, 1, none⟩ (.int .i64 0)).setCell ⟨ab, 2, none⟩ (.bool false)) ab GA' (reAS a (K.map (·.2))) ∧ Grew GA w GA' ((wr.setCell ⟨ab, 1, none⟩ (.int .i64 0)).setCell ⟨ab, 2, none⟩ (.bool false))) := FINI.out wr GD' GA' hM hg
      clear hM hg FINI hK
      go_wp2
      go_end0
      exact ⟨rfl, E2.out⟩
end
end Go.Proofs.Ytgahaebfgmbckaa.Gf
