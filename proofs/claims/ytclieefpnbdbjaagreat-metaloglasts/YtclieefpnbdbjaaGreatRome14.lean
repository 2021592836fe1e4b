/- TEXTS JOINED: ArCC, ArCL. -/
import Derived.Test.YtclieefpnbdbjaaGreatRome11
import Derived.Test.YtclieefpnbdbjaaGreatRome13
import Derived.Deep.OwnRows
namespace Go.Proofs.YtclieefpnbdbjaaGreat.Gf
set_option linter.unusedVariables false
set_option linter.unusedSimpArgs false
open Go.RowKit
section
variable {w : World} {ab : Nat} {GA : Nat → Prop} {a : ArS}
theorem aflush_off (h : ArAt w ab GA a) (ho : a.off = true) : Calls Tryz.prog 82 #[.pointer (some ⟨ab, 0, none⟩)] w (LeavesA w ab GA (flAS a) (.int .i64 (flAX a))) := by
  have h0 := h
  obtain ⟨mb, db, GD, hM, ok⟩ := h
  have c2 := hM.c2
  rw [ho] at c2
  have K := aref_any c2
  simp only [if_true] at K
  rw [show flAX a = 130 from if_pos ho]
  have FIN : Hid (∃ GA', ArAt w ab GA' (flAS a) ∧ Grew GA w GA' w) := stays h0 (if_pos ho)
  clear h0 hM ok c2
  go_enter Tryz.func82, Tryz.ntmps82
  go_wp2_with fail
  refine K.mono ?_
  rintro _ wq ⟨rfl, hwq⟩
  rw [hwq]
  clear hwq wq K
  go_wp2
  go_ret
  exact ⟨rfl, FIN.out⟩
/-- the first k disks changed by a function -/
def firstF (f : Nat → DkS → DkS) (L : List DkS) (k : Nat) : List DkS := L.mapIdx fun i d => if i < k then f i d else d
section
variable {f : Nat → DkS → DkS} {L : List DkS} {k : Nat}
theorem firstF_len : (firstF f L k).length = L.length := by simp [firstF]
theorem firstF_zero : firstF f L 0 = L := by
  unfold firstF
  apply List.ext_getElem (by simp)
  intro i h1 h2
  simp
theorem firstF_all : firstF f L L.length = L.mapIdx f := by
  unfold firstF
  apply List.ext_getElem (by simp)
  intro i h1 h2
  have : i < L.length := by simpa using h1
  simp [this]
theorem firstF_at (hk : k < L.length) : (firstF f L k).getD k default = L.getD k default := by simp [firstF, List.getD, hk]
theorem firstF_succ (hk : k < L.length) : (firstF f L k).set k (f k (L.getD k default)) = firstF f L (k + 1) := by
  unfold firstF
  apply List.ext_getElem (by simp)
  intro i h1 h2
  have h3 : i < L.length := by simpa using h1
  simp only [List.getElem_set, List.getElem_mapIdx]
  by_cases e : k = i
  · subst e
    simp [List.getD, h3]
  · rw [if_neg e]
    by_cases e2 : i < k
    · rw [if_pos e2, if_pos (by omega)]
    · rw [if_neg e2, if_neg (by omega)]
end
theorem aflush_on (h : ArAt w ab GA a) (ho : a.off = false) : Calls Tryz.prog 82 #[.pointer (some ⟨ab, 0, none⟩)] w (LeavesA w ab GA (flAS a) (.int .i64 (flAX a))) := by
  have h0 := h
  obtain ⟨mb, db, GD, hM, ok⟩ := h
  have c0 := hM.c0
  have c2 := hM.c2
  rw [ho] at c2
  have K := aref_any c2
  simp only [Bool.false_eq_true, if_false] at K
  have no : ¬ a.off = true := by rw [ho]; simp
  rw [show flAX a = 0 from if_neg no]
  have okS := flAS_ok ok
  have eS : flAS a = { a with D := a.D.mapIdx (fun _ d => flS d) } := by
    unfold flAS
    rw [if_neg no]
    congr 1
    apply List.ext_getElem (by simp)
    intro i h1 h2
    simp
  have START : Hid (∃ GD' GA', ArM w ab mb db GD' GA' { a with D := firstF (fun _ d => flS d) a.D 0 } ∧ Grew GA w GA' w) := ⟨GD, GA, by rw [firstF_zero]; exact hM, Grew.refl _ _⟩
  have FINI : Hid (∀ wr GD' GA', ArM wr ab mb db GD' GA' { a with D := firstF (fun _ d => flS d) a.D a.D.length } → Grew GA w GA' wr → ∃ GA', ArAt wr ab GA' (flAS a) ∧ Grew GA w GA' wr) := fun wr GD' GA' hM' g' => by
    rw [firstF_all] at hM'
    exact ⟨GA', ⟨mb, db, GD', by rw [eS]; exact hM', okS⟩, g'⟩
  clear h0 hM ok c2 eS okS
  go_enter Tryz.func82, Tryz.ntmps82
  go_wp2_with fail
  refine K.mono ?_
  rintro _ wq ⟨rfl, hwq⟩
  rw [hwq]
  clear hwq wq K
  go_wp2
  go_loopw [16] (fun i wr => ∃ k : Nat, k ≤ a.D.length ∧ i = .int .i64 (k : Int) ∧ ∃ GD' GA', ArM wr ab mb db GD' GA' { a with D := firstF (fun _ d => flS d) a.D k } ∧ Grew GA w GA' wr) (fun i _ => a.D.length - (intOf i).toNat)
  case atStart => exact ⟨0, Nat.zero_le _, rfl, START.out⟩
  case round =>
    clear START
    obtain ⟨k, hk, rfl, GD', GA', hM, hg⟩ := hrel
    by_cases hlt : k < a.D.length
    · have hlt' : (k : Int) < (a.D.length : Int) := by omega
      have g1 : IntKind.i64.wrap ((k : Int) + 1) = ((k + 1 : Nat) : Int) := by rw [IntKind.wrap_i64]; have := hM.d2; have e : ({ a with D := firstF (fun _ d => flS d) a.D k } : ArS).D.length = a.D.length := firstF_len; omega
      have hk2 : k < (firstF (fun _ d => flS d) a.D k).length := by rw [firstF_len]; exact hlt
      have m0 := hM.m0 k hk2
      have m1 := hM.m1 k hk2
      have dk : DiskAt wr (db k) (GD' k) ((firstF (fun _ d => flS d) a.D k).getD k default) := hM.dk k hk2
      have hsu : (firstF (fun _ d => flS d) a.D k).set k (flS (a.D.getD k default)) = firstF (fun _ d => flS d) a.D (k + 1) := firstF_succ (f := fun _ d => flS d) hlt
      rw [firstF_at hlt] at dk
      obtain ⟨d, hd⟩ : ∃ d, d = a.D.getD k default := ⟨_, rfl⟩
      rw [← hd] at dk hsu
      obtain ⟨z, hz⟩ : ∃ z, z = (({ a with D := firstF (fun _ d => flS d) a.D k } : ArS).B.getD k 0) := ⟨_, rfl⟩
      rw [← hz] at m1
      have KD := fun o => @ddead_any (wr.alloc o) (db k) d.dead (dk.below (belA wr o)).dead
      cases hdd : d.dead with
      | true =>
        have E2 : Hid (∀ o, ∃ GD' GA', ArM (wr.alloc o) ab mb db GD' GA' { a with D := firstF (fun _ d => flS d) a.D (k + 1) } ∧ Grew GA w GA' (wr.alloc o)) := by
          intro o
          refine ⟨GD', GA', ?_, hg.trans (Grew.of_below (belA wr o))⟩
          rw [← hsu, show flS d = d from if_pos hdd, hd, ← firstF_at (f := fun _ d => flS d) hlt, set_self _ _ _ hk2]
          exact hM.below (belA wr o)
        rw [hdd] at KD
        clear hM hg dk hsu hd hz hk2
        go_wp2_with fail
        refine (KD _).mono ?_
        rintro _ wq ⟨rfl, hwq⟩
        rw [hwq]
        clear hwq wq KD
        go_wp2
        go_roundw
        case rel => exact ⟨k + 1, by omega, by go_num, E2.out _⟩
        case measure => simp [intOf]; omega
      | false =>
        rw [hdd] at KD
        have KF := fun o => dflush_any (dk.below (belA wr o))
        have HM := fun o => hM.below (belA wr o)
        clear hz
        go_wp2_with fail
        refine (KD _).mono ?_
        rintro _ wq ⟨rfl, hwq⟩
        rw [hwq]
        clear hwq wq KD
        go_wp2_with fail
        refine (KF _).mono ?_
        rintro _ w1 ⟨rfl, G1, D1, gr1⟩
        obtain ⟨M1, gg1⟩ := (HM _).disk hk2 D1 gr1
        have E2 : Hid (∃ GD' GA', ArM w1 ab mb db GD' GA' { a with D := firstF (fun _ d => flS d) a.D (k + 1) } ∧ Grew GA w GA' w1) := by
          rw [← hsu]
          exact ⟨_, _, M1, (hg.trans (Grew.of_below (belA wr _))).trans gg1⟩
        clear hM hg dk hsu hd hk2 M1 gg1 D1 gr1 KF HM
        go_wp2
        go_roundw
        case rel => exact ⟨k + 1, by omega, by go_num, E2.out⟩
        case measure => simp [intOf]; omega
    · have hlt' : ¬ (k : Int) < (a.D.length : Int) := by omega
      have hkn : k = a.D.length := by omega
      rw [hkn] at hM
      have E2 : Hid (∃ GA', ArAt wr ab GA' (flAS a) ∧ Grew GA w GA' wr) := FINI.out wr GD' GA' hM hg
      clear hM hg FINI
      go_wp2
      go_ret
      exact ⟨rfl, E2.out⟩
theorem aflush_any (h : ArAt w ab GA a) : Calls Tryz.prog 82 #[.pointer (some ⟨ab, 0, none⟩)] w (LeavesA w ab GA (flAS a) (.int .i64 (flAX a))) := by
  cases ho : a.off with
  | true => exact aflush_off h ho
  | false => exact aflush_on h ho
theorem RdI.lay {w : World} {v : Value} {p : List Int} (h : RdI w v p) {x : Addr} {n c : Nat} (e : v = .slice (some x) n c) : n = 0 ∨ x.block < w.heap.size := by
  rcases h with ⟨a, c', _, e2⟩ | ⟨b, off, cap, h1, h2, h3, h5, h6⟩
  · subst e2; simp at e; exact Or.inl e.2.1.symm
  · subst h2; simp at e; obtain ⟨rfl, rfl, rfl⟩ := e; exact Or.inr h5
theorem ApartG.grewI {G G' : Nat → Prop} {w w' : World} {v : Value} {p : List Int} (ha : ApartG G v) (h : RdI w v p) (g : Grew G w G' w') : ApartG G' v := by
  intro x n c e
  rcases ha x n c e with h1 | h1
  · exact Or.inl h1
  · rcases h.lay e with h2 | h2
    · exact Or.inl h2
    · exact Or.inr (g.off h2 h1)
theorem RdI.turnG {G : Nat → Prop} {w w' : World} {v : Value} {p : List Int} (h : RdI w v p) (ha : ApartG G v) (ho : TurnG G w w') : RdI w' v p := by
  rcases h with h | ⟨b, off, cap, h1, h2, h3, h5, h6⟩
  · exact Or.inl h
  · have hb : ¬ G b := by
      rcases ha _ _ _ h2 with e | e
      · exact absurd (List.length_eq_zero_iff.1 e) h1
      · exact e
    exact Or.inr ⟨b, off, cap, h1, h2, h3, Nat.lt_of_lt_of_le h5 ho.size, fun i hi => (ho.cell (p := ⟨b, off + i, none⟩) h5 hb).trans (h6 i hi)⟩
/-- rows of integers that lie in none of the blocks -/
structure ToldII (w : World) (G : Nat → Prop) (v : Value) (K : List VI) : Prop where
  rd : RdII w v K
  ap : ApartG G v
  each : ∀ r ∈ K, ApartG G r.1
theorem VI_mem {K : List VI} {k : Nat} (hk : k < K.length) : K.getD k default ∈ K := by
  rw [show K.getD k default = K[k] by simp [List.getD, hk]]
  exact List.getElem_mem hk
theorem VI_ex {K : List VI} {r : VI} (h : r ∈ K) : ∃ k, k < K.length ∧ K.getD k default = r := by
  obtain ⟨i, hi, e⟩ := List.getElem_of_mem h
  exact ⟨i, hi, by rw [← e]; simp [List.getD, hi]⟩
theorem ToldII.grew {G G' : Nat → Prop} {w w' : World} {v : Value} {K : List VI} (h : ToldII w G v K) (g : Grew G w G' w') : ToldII w' G' v K := by
  have h0 := h.rd
  rcases h0 with h1 | ⟨b, off, cap, h1, h2, h3, h4, h5⟩
  · refine ⟨Or.inl h1, ?_, ?_⟩
    · obtain ⟨ao, cp, e1, e2⟩ := h1
      rw [e2]
      exact ApartG.nil _ _ _
    · obtain ⟨ao, cp, e1, e2⟩ := h1
      rw [e1]
      intro r hr
      cases hr
  · have hb : ¬ G b := by
      rcases h.ap _ _ _ h2 with e | e
      · exact absurd (List.length_eq_zero_iff.1 e) h1
      · exact e
    refine ⟨Or.inr ⟨b, off, cap, h1, h2, h3, Nat.lt_of_lt_of_le h4 g.turn.size, fun i hi => ?_⟩, ?_, ?_⟩
    · have h6 := h5 i hi
      exact ⟨(g.turn.cell (p := ⟨b, off + i, none⟩) h4 hb).trans h6.c, h6.rd.turnG (h.each _ (VI_mem hi)) g.turn, h6.wf⟩
    · rw [h2]
      intro x n c e
      simp at e
      obtain ⟨rfl, _⟩ := e
      exact Or.inr (g.off h4 hb)
    · intro r hr
      obtain ⟨i, hi, rfl⟩ := VI_ex hr
      exact (h.each _ hr).grewI (h5 i hi).rd g
theorem ToldII.old {w0 w : World} {G : Nat → Prop} {v : Value} {K : List VI} (h : RdII w0 v K) (hg : ∀ g, G g → w0.heap.size ≤ g) (hw : Below w0.heap.size w0 w) : ToldII w G v K := by
  refine ⟨h.below hw, ?_, ?_⟩
  · rcases h with ⟨ao, cp, e1, e2⟩ | ⟨b, off, cap, h1, h2, h3, h4, h5⟩
    · rw [e2]
      exact ApartG.nil _ _ _
    · rw [h2]
      intro x n c e
      simp at e
      obtain ⟨rfl, _⟩ := e
      exact Or.inr (fun e2 => by have := hg _ e2; simp at this; omega)
  · intro r hr
    rcases h with ⟨ao, cp, e1, e2⟩ | ⟨b, off, cap, h1, h2, h3, h4, h5⟩
    · rw [e1] at hr; cases hr
    · obtain ⟨i, hi, rfl⟩ := VI_ex hr
      intro x n c e
      rcases (h5 i hi).rd.lay e with h6 | h6
      · exact Or.inl h6
      · exact Or.inr (fun e2 => by have := hg _ e2; omega)
/-- what Restart does to a disk -/
def reF (K : List VI) (i : Nat) (d : DkS) : DkS := crS d ((K.map (·.2)).getD i [])
theorem reF_in {K : List VI} {k : Nat} (hk : k < K.length) (d : DkS) : reF K k d = crS d (K.getD k default).2 := by
  unfold reF
  simp [List.getD, hk]
theorem reF_out {K : List VI} {k : Nat} (hk : ¬ k < K.length) (d : DkS) : reF K k d = crS d [] := by
  unfold reF
  have : K[k]? = none := List.getElem?_eq_none (by omega)
  simp [List.getD, this]
set_option maxRecDepth 100000 in
theorem arestart_any (h : ArAt w ab GA a) {v : Value} {K : List VI} (hK : ToldII w GA v K) (hs : ∀ r ∈ K, r.2.length ≤ 9223372036854775807) : Calls Tryz.prog 18 #[.pointer (some ⟨ab, 0, none⟩), v] w (LeavesA w ab GA (reAS a (K.map (·.2))) (.tuple #[])) := by
  obtain ⟨mb, db, GD, hM, ok⟩ := h
  obtain ⟨va, vc, rfl⟩ := hK.rd.form
  have c0 := hM.c0
  have okS := reAS_ok ok (K.map (·.2))
  have START : Hid (∃ GD' GA', ArM w ab mb db GD' GA' { a with D := firstF (reF K) a.D 0 } ∧ Grew GA w GA' w) := ⟨GD, GA, by rw [firstF_zero]; exact hM, Grew.refl _ _⟩
  have FINI : Hid (∀ wr GD' GA', ArM wr ab mb db GD' GA' { a with D := firstF (reF K) a.D a.D.length } → Grew GA w GA' wr → ∃ GA', ArAt ((wr.setCell ⟨ab, 1, none⟩ (.int .i64 0)).setCell ⟨ab, 2, none⟩ (.bool false)) ab GA' (reAS a (K.map (·.2))) ∧ Grew GA w GA' ((wr.setCell ⟨ab, 1, none⟩ (.int .i64 0)).setCell ⟨ab, 2, none⟩ (.bool false))) := fun wr GD' GA' hM' g' => by
    rw [firstF_all] at hM'
    have M2 := (hM'.setLeft (l := -1) (by decide)).setOff false
    exact ⟨GA', ⟨mb, db, GD', M2, okS⟩, g'.trans (Grew.of_turn ((setCell_turnG hM'.ga).trans (setCell_turnG hM'.ga)))⟩
  clear hM ok okS
  go_enter Tryz.func18, Tryz.ntmps18
  go_wp2
  go_loopw [14] (fun i wr => ∃ k : Nat, k ≤ a.D.length ∧ i = .int .i64 (k : Int) ∧ ∃ GD' GA', ArM wr ab mb db GD' GA' { a with D := firstF (reF K) a.D k } ∧ Grew GA w GA' wr) (fun i _ => a.D.length - (intOf i).toNat)
  case atStart => exact ⟨0, Nat.zero_le _, rfl, START.out⟩
  case round =>
    clear START
    obtain ⟨k, hk, rfl, GD', GA', hM, hg⟩ := hrel
    by_cases hlt : k < a.D.length
    · have hlt' : (k : Int) < (a.D.length : Int) := by omega
      have g1 : IntKind.i64.wrap ((k : Int) + 1) = ((k + 1 : Nat) : Int) := by rw [IntKind.wrap_i64]; have := hM.d2; have e : ({ a with D := firstF (reF K) a.D k } : ArS).D.length = a.D.length := firstF_len; omega
      have hk2 : k < (firstF (reF K) a.D k).length := by rw [firstF_len]; exact hlt
      have m0 := hM.m0 k hk2
      have m1 := hM.m1 k hk2
      have dk : DiskAt wr (db k) (GD' k) ((firstF (reF K) a.D k).getD k default) := hM.dk k hk2
      have hsu : (firstF (reF K) a.D k).set k (reF K k (a.D.getD k default)) = firstF (reF K) a.D (k + 1) := firstF_succ hlt
      rw [firstF_at hlt] at dk
      obtain ⟨d, hd⟩ : ∃ d, d = a.D.getD k default := ⟨_, rfl⟩
      rw [← hd] at dk hsu
      obtain ⟨z, hz⟩ : ∃ z, z = (({ a with D := firstF (reF K) a.D k } : ArS).B.getD k 0) := ⟨_, rfl⟩
      rw [← hz] at m1
      have HK := hK.grew hg
      have KC := fun (o : Obj) (v : Value) (L : List Int) (h1 : RdI (wr.alloc o) v L) (h2 : ∀ z ∈ L, (Lit.int .i64 z).wf = true) (h3 : ApartG (GD' k) v) (h4 : L.length ≤ 9223372036854775807) => dcrash_any (dk.below (belA wr o)) h1 h2 h3 h4
      have HM := fun o => hM.below (belA wr o)
      clear hz
      by_cases hkk : k < K.length
      · have hkk' : (k : Int) < (K.length : Int) := by omega
        obtain ⟨b, off, rfl, hb, hrow⟩ := HK.rd.at hkk
        have hAp : ApartG (GD' k) (K.getD k default).1 := fun x n c e => (HK.each _ (VI_mem hkk) x n c e).imp id (fun h1 h2 => h1 (hM.gd k hk2 _ h2))
        have hsz := hs _ (VI_mem hkk)
        rw [reF_in hkk] at hsu
        obtain ⟨r, hr⟩ : ∃ r, r = K.getD k default := ⟨_, rfl⟩
        rw [← hr] at hrow hAp hsz hsu
        obtain ⟨rc, rrd, rwf⟩ := hrow
        obtain ⟨rv, rl⟩ := r
        simp only at rc rrd rwf hAp hsz hsu
        obtain ⟨ra, rcp, rfl⟩ := rrd.form
        clear hr
        go_wp2_with fail
        refine (KC _ _ rl (rrd.below (belA wr _)) rwf hAp hsz).mono ?_
        rintro _ w1 ⟨rfl, G1, D1, gr1⟩
        obtain ⟨M1, gg1⟩ := (HM _).disk hk2 D1 gr1
        have E2 : Hid (∃ GD' GA', ArM w1 ab mb db GD' GA' { a with D := firstF (reF K) a.D (k + 1) } ∧ Grew GA w GA' w1) := by
          rw [← hsu]
          exact ⟨_, _, M1, (hg.trans (Grew.of_below (belA wr _))).trans gg1⟩
        clear hM hg dk hsu hd hk2 M1 gg1 D1 gr1 KC HM HK hAp rrd rwf rc m0 m1
        go_wp2
        go_roundw
        case rel => exact ⟨k + 1, by omega, by go_num, E2.out⟩
        case measure => simp [intOf]; omega
      · have hkk' : ¬ (k : Int) < (K.length : Int) := by omega
        rw [reF_out hkk] at hsu
        go_wp2_with fail
        refine (KC _ _ [] (Or.inl ⟨none, 0, rfl, rfl⟩) (by simp) (ApartG.nil _ _ _) (by simp)).mono ?_
        rintro _ w1 ⟨rfl, G1, D1, gr1⟩
        obtain ⟨M1, gg1⟩ := (HM _).disk hk2 D1 gr1
        have E2 : Hid (∃ GD' GA', ArM w1 ab mb db GD' GA' { a with D := firstF (reF K) a.D (k + 1) } ∧ Grew GA w GA' w1) := by
          rw [← hsu]
          exact ⟨_, _, M1, (hg.trans (Grew.of_below (belA wr _))).trans gg1⟩
        clear hM hg dk hsu hd hk2 M1 gg1 D1 gr1 KC HM HK m0 m1
        go_wp2
        go_roundw
        case rel => exact ⟨k + 1, by omega, by go_num, E2.out⟩
        case measure => simp [intOf]; omega
    · have hlt' : ¬ (k : Int) < (a.D.length : Int) := by omega
      have hkn : k = a.D.length := by omega
      rw [hkn] at hM
      have c1 := hM.c1
      have c2 := hM.c2
      have f1 := hM.f1
      have f2 := hM.f2
      have E2 : Hid (∃ GA', ArAt ((wr.setCell ⟨ab, 1, none⟩ (.int .i64 0)).setCell ⟨ab, 2, none⟩ (.bool false)) ab GA' (reAS a (K.map (·.2))) ∧ Grew GA w GA' ((wr.setCell ⟨ab, 1, none⟩ (.int .i64 0)).setCell ⟨ab, 2, none⟩ (.bool false))) := FINI.out wr GD' GA' hM hg
      clear hM hg FINI hK
      go_wp2
      go_end0
      exact ⟨rfl, E2.out⟩
end
end Go.Proofs.YtclieefpnbdbjaaGreat.Gf

namespace Go.Proofs.YtclieefpnbdbjaaGreat.Gf
set_option linter.unusedVariables false
set_option linter.unusedSimpArgs false
open Go.RowKit
theorem info_bool13 : (Tryz.prog.info? 4).map (fun i => (i.zero, i.size, i.bytes)) = some (some (.bool false), 1, 1) := by kernel_rfl
/-- a row of the call's own -/
def MadeRow (w : World) (t n : Nat) (f : Nat → Value) (e : Ending) (w' : World) : Prop := ∃ g, e = .returned (.slice (some ⟨g, 0, none⟩) n n) ∧ w'.rowIs g t n f ∧ w.heap.size ≤ g ∧ Below w.heap.size w w'
section
variable {w : World} {ab : Nat} {GA : Nat → Prop} {a : ArS}
set_option maxRecDepth 100000 in
theorem alive_any (h : ArAt w ab GA a) : Calls Tryz.prog 46 #[.pointer (some ⟨ab, 0, none⟩)] w (MadeRow w 4 a.D.length (fun i => .bool (!(a.D.getD i default).dead))) := by
  obtain ⟨mb, db, GD, hM, ok⟩ := h
  have c0 := hM.c0
  have d2 := hM.d2
  have mk1 := run_make_row' (P := Tryz.prog) 36 4 (.bool false) 1 Tryz.underlying36 info_bool13 rfl .i64 .i64 a.D.length (by omega) (by omega)
  obtain ⟨u, hu⟩ : ∃ u, u = w.alloc (Obj.cells (madeCells #[Value.bool false] a.D.length) 4) := ⟨_, rfl⟩
  have hub : Below w.heap.size w u := by rw [hu]; exact belA _ _
  have hur : u.rowIs w.heap.size 4 a.D.length (fun _ => .bool false) := by rw [hu]; exact World.rowIs_made _ _ _ _
  have hM1 := hM.below hub
  have c0m := hM1.c0
  have mk2 := mk1 w
  obtain ⟨g, hg⟩ : ∃ g, Hid (g = w.heap.size) := ⟨_, rfl⟩
  rw [← hu, ← hg.out] at mk2
  rw [← hg.out] at hur
  clear mk1 hu
  go_enter Tryz.func46, Tryz.ntmps46
  go_wp2
  have START : Hid (u.rowIs g 4 a.D.length (fun j => if j < 0 then .bool (!(a.D.getD j default).dead) else .bool false) ∧ Below w.heap.size w u) := ⟨hur, hub⟩
  clear hM1 c0m mk2 hub hur ok c0
  go_loopw [19] (fun i wr => ∃ k : Nat, k ≤ a.D.length ∧ i = .int .i64 (k : Int) ∧ wr.rowIs g 4 a.D.length (fun j => if j < k then .bool (!(a.D.getD j default).dead) else .bool false) ∧ Below w.heap.size w wr) (fun i _ => a.D.length - (intOf i).toNat)
  case atStart => exact ⟨0, Nat.zero_le _, rfl, START.out⟩
  case round =>
    clear START
    obtain ⟨k, hk, rfl, hr, hb⟩ := hrel
    by_cases hlt : k < a.D.length
    · have hlt' : (k : Int) < (a.D.length : Int) := by omega
      have g1 : IntKind.i64.wrap ((k : Int) + 1) = ((k + 1 : Nat) : Int) := by rw [IntKind.wrap_i64]; omega
      have hMr := hM.below hb
      have m0 := hMr.m0 k hlt
      have m1 := hMr.m1 k hlt
      have KD := fun o => @ddead_any (wr.alloc o) (db k) (a.D.getD k default).dead ((hMr.dk k hlt).below (belA wr o)).dead
      have R1 : Hid (∀ o, (wr.alloc o).rowIs g 4 a.D.length (fun j => if j < k then .bool (!(a.D.getD j default).dead) else .bool false) ∧ Below w.heap.size w (wr.alloc o)) := fun o => ⟨hr.alloc o, hb.trans ((belA wr o).mono hb.size)⟩
      obtain ⟨z, hz⟩ : ∃ z, z = a.B.getD k 0 := ⟨_, rfl⟩
      rw [← hz] at m1
      obtain ⟨x, hx⟩ : ∃ x, Hid (x = (a.D.getD k default).dead) := ⟨_, rfl⟩
      rw [← hx.out] at KD
      clear hz hMr hr hb
      go_wp2_with fail
      refine (KD _).mono ?_
      rintro _ wq ⟨rfl, hwq⟩
      obtain ⟨R2, B2⟩ := R1.out (Obj.cells #[Value.pointer (some ⟨db k, 0, none⟩), .int .i64 z] 84)
      rw [← hwq] at R2 B2
      have cq := R2.cell hlt
      have fq := R2.frozen k
      have R3 := R2.set k (.bool (!x))
      have E2 : Hid ((wq.setCell ⟨g, k, none⟩ (.bool (!x))).rowIs g 4 a.D.length (fun j => if j < k + 1 then .bool (!(a.D.getD j default).dead) else .bool false) ∧ Below w.heap.size w (wq.setCell ⟨g, k, none⟩ (.bool (!x)))) := by
        refine ⟨R3.congr fun j hj => ?_, B2.setCell (by rw [hg.out]; exact Nat.le_refl _) _⟩
        by_cases e : j = k
        · rw [if_pos e, if_pos (by omega), e, hx.out]
        · rw [if_neg e]
          by_cases e2 : j < k
          · rw [if_pos e2, if_pos (by omega)]
          · rw [if_neg e2, if_neg (by omega)]
      clear KD R1 R2 B2 R3 hwq m0 m1
      cases x <;> simp only [Bool.not_true, Bool.not_false] at E2
      all_goals
        go_wp2
        go_roundw
        case rel => exact ⟨k + 1, by omega, by go_num, E2.out⟩
        case measure => simp [intOf]; omega
    · have hlt' : ¬ (k : Int) < (a.D.length : Int) := by omega
      have hkn : k = a.D.length := by omega
      have FIN : Hid (wr.rowIs g 4 a.D.length (fun j => .bool (!(a.D.getD j default).dead)) ∧ w.heap.size ≤ g ∧ Below w.heap.size w wr) := ⟨hr.congr fun j hj => if_pos (by omega), by rw [hg.out]; exact Nat.le_refl _, hb⟩
      clear hr hb
      go_wp2
      go_ret
      exact ⟨g, rfl, FIN.out⟩
end
end Go.Proofs.YtclieefpnbdbjaaGreat.Gf
