/- TEXTS JOINED: WdRoots, OuS, ErOut, WdCA, WdSh, WdLawM, WdStr, CrMath, CrAwM, CrLawM, SeMath, DkCall, ArCall. -/
import Derived.Test.YtddnfhfangfgeaaGreatTome4
import Derived.Test.YtddnfhfangfgeaaGreatTome3
import Derived.Test.YtddnfhfangfgeaaGreatTome2
import Derived.WalkMore
import Derived.Test.YtddnfhfangfgeaaGreatTome1
import Derived.Deep.AppendLies
import Derived.Deep.Slices
import Derived.Lib.SmallJoins
namespace Go.Proofs.YtddnfhfangfgeaaGreat.Gf
set_option linter.unusedVariables false
set_option linter.unusedSimpArgs false
theorem iv_mu10 {a b : UInt8} (ha : a ≠ 0) (hb : b ≠ 0) : iv (mu a b) = mu (iv a) (iv b) := by
  have h1 : mu (mu a b) (iv (mu a b)) = 1 := mu_iv (mu_ne ha hb)
  have h2 : mu (mu a b) (mu (iv a) (iv b)) = 1 := by
    rw [mu_assoc, mu_comm (iv a), ← mu_assoc b, mu_iv hb, one_mu, mu_iv ha]
  have h3 : mu (iv (mu a b)) (mu (mu a b) (mu (iv a) (iv b))) = mu (iv a) (iv b) := by
    rw [← mu_assoc, mu_comm (iv (mu a b)), h1, one_mu]
  rw [h2, mu_one] at h3
  exact h3
/-- the places that are there at whose points a polynomial is 0 -/
def rtF (A : List UInt8) (ms : Nat → Bool) (i : Nat) : Bool := !ms i && decide (evP A (pt i) = 0)
theorem rtF_not {A : List UInt8} {ms : Nat → Bool} {i : Nat} (h : rtF A ms i = true) : ms i = false := by unfold rtF at h; simp at h; exact h.1
theorem rtF_root {A : List UInt8} {ms : Nat → Bool} {i : Nat} (h : rtF A ms i = true) : evP A (pt i) = 0 := by unfold rtF at h; simp at h; exact h.2
theorem getD_mem {L : List Nat} {j : Nat} (hj : j < L.length) : L.getD j 0 ∈ L := by
  simp only [List.getD, List.getElem?_eq_getElem hj, Option.getD_some]
  exact List.getElem_mem hj
/-- a locator's roots are its places -/
theorem root_of {p : Nat → Bool} {n i : Nat} (hn : n ≤ 256) (hi : i < n) : evP (locL ((plc p n).map pt)) (pt i) = 0 ↔ p i = true := by
  rw [evP_loc, PD_zero]
  constructor
  · rintro ⟨j, hj, e⟩
    rw [List.length_map] at hj
    rw [co_map hj] at e
    obtain ⟨g1, g2⟩ := plc_mem.1 (getD_mem hj)
    rw [pt_inj (by omega) (by omega) e] at g2
    exact g2
  · intro h
    obtain ⟨j, hj, e⟩ := List.getElem_of_mem (plc_mem.2 ⟨hi, h⟩)
    refine ⟨j, by rw [List.length_map]; exact hj, ?_⟩
    rw [co_map hj]
    simp [List.getD, hj, e]
/-- what the equation tells of a word near one of the code -/
theorem near_roots {k m : Nat} {z c : Nat → UInt8} {ms : Nat → Bool} {X : Int} {A O : List UInt8} (h2 : k + m ≤ 256) (hc : Near k m z ms c) (hK : KeyAns (upto (synF k m z) m) (locL ((plc ms (k + m)).map pt)) X A O) :
    X = 0 ∧ plc (rtF A ms) (k + m) = plc (wrg z c ms) (k + m) ∧ A.length = cnt (rtF A ms) (k + m) + 1 := by
  obtain ⟨e1, e2, e3⟩ := (near_key h2 hc).unique hK
  have e4 : plc (rtF A ms) (k + m) = plc (wrg z c ms) (k + m) := by
    unfold plc
    refine List.filter_congr fun i hi => ?_
    have hi' := List.mem_range.1 hi
    have := root_of (p := wrg z c ms) h2 hi'
    rw [← e2] at this
    unfold rtF
    cases em : ms i
    · rw [Bool.not_false, Bool.true_and, Bool.eq_iff_iff, decide_eq_true_eq]; exact this
    · unfold wrg; rw [em]; rfl
  refine ⟨e1, e4, ?_⟩
  rw [← plc_length, e4, e2]
  unfold locL
  rw [locN_length, List.length_map]
/-- by what a place differs -/
def dfF (k m : Nat) (O D : List UInt8) (i : Nat) : UInt8 := mu (evP O (pt i)) (iv (mu (evP D (pt i)) (wtF k m i)))
/-- the word put right -/
def rtW (k m : Nat) (z : Nat → UInt8) (A O D : List UInt8) (ms : Nat → Bool) (i : Nat) : UInt8 := z i ^^^ (if rtF A ms i || ms i then dfF k m O D i else 0)
theorem roots_near {k m : Nat} {z : Nat → UInt8} {ms : Nat → Bool} {A O : List UInt8} (h2 : k + m ≤ 256) (hK : KeyAns (upto (synF k m z) m) (locL ((plc ms (k + m)).map pt)) 0 A O) (hr : A.length ≤ cnt (rtF A ms) (k + m) + 1) :
    Near k m z ms (rtW k m z A O (derP (mulP A (locL ((plc ms (k + m)).map pt)))) ms) ∧ ∀ i, i < k + m → (rtF A ms i || ms i) = true → mu (evP (derP (mulP A (locL ((plc ms (k + m)).map pt)))) (pt i)) (wtF k m i) ≠ 0 := by
  rcases hK with ⟨_, h, _⟩ | ⟨b, t, L, hl, _, eA, eO⟩ | ⟨_, _, h, _⟩
  · cases h
  · have hnd : ∀ i, rtF A ms i = true → ms i = false := fun i => rtF_not
    have hap := pts_apart (n := k + m) h2 hnd
    have hpl : ((plc (rtF A ms) (k + m)).map pt).length = cnt (rtF A ms) (k + m) := by rw [List.length_map, plc_length]
    have hkl : ((plc ms (k + m)).map pt).length = cnt ms (k + m) := by rw [List.length_map, plc_length]
    have hco : co A = L := by rw [eA]; exact funext fun i => co_upto hl.loc.fin i
    have hAl : A.length = t + 1 := by rw [eA, upto_length]
    have hroot : ∀ j, j < cnt (rtF A ms) (k + m) → ev (t + 1) L (co ((plc (rtF A ms) (k + m)).map pt) j) = 0 := fun j hj => by
      rw [← plc_length] at hj
      rw [co_map hj]
      have := rtF_root (plc_mem.1 (getD_mem hj)).2
      unfold evP at this
      rw [hAl, hco] at this
      exact this
    have hdist : ∀ i j, i < cnt (rtF A ms) (k + m) → j < cnt (rtF A ms) (k + m) → i ≠ j → co ((plc (rtF A ms) (k + m)).map pt) i ≠ co ((plc (rtF A ms) (k + m)).map pt) j := fun i j hi hj hne => by
      have := hap i j (by omega) (by omega) hne
      rw [co_append_lt (by omega), co_append_lt (by omega)] at this
      exact this
    have hT : cnt (rtF A ms) (k + m) = t := by
      refine Nat.le_antisymm (Nat.le_of_not_lt fun hlt => ?_) (by omega)
      have := roots_all hl.loc.fin (co ((plc (rtF A ms) (k + m)).map pt)) (fun i j hi hj => hdist i j (by omega) (by omega)) (fun i hi => hroot i (by omega)) t
      rw [hl.loc.top] at this
      cases this
    have hLl : L = locF (co ((plc (rtF A ms) (k + m)).map pt)) t := by
      have hD : Fin0 (addF L (locF (co ((plc (rtF A ms) (k + m)).map pt)) t)) t := fun i hi => by
        rw [addF_at]
        by_cases e0 : i = t
        · rw [e0, hl.loc.top, locF_top, x_self]
        · rw [hl.loc.fin i (by omega), locF_fin _ t i (by omega), x_self]
      have := roots_all hD (co ((plc (rtF A ms) (k + m)).map pt)) (fun i j hi hj => hdist i j (by omega) (by omega)) (fun i hi => by
        rw [← ev_more _ hD (show t ≤ t + 1 by omega), ev_add, hroot i (by omega), ev_loc, PD_zero.2 ⟨i, hi, rfl⟩]; rfl)
      funext i
      exact x_eq_zero.1 (this i)
    have hAL : A = locL ((plc (rtF A ms) (k + m)).map pt) := by
      rw [eA]
      unfold locL locN
      rw [← eA, hpl, hT, ← hLl]
      exact eA
    have hf := hl.few
    rw [upto_length, find_norm, Nat.add_sub_cancel, hkl] at hf
    obtain ⟨D, hD⟩ : ∃ D, D = derP (mulP A (locL ((plc ms (k + m)).map pt))) := ⟨_, rfl⟩
    have hDD : D = derP (mulP (locL ((plc (rtF A ms) (k + m)).map pt)) (locL ((plc ms (k + m)).map pt))) := by rw [hD]; congr 2
    have spot : ∀ j, j < ((plc (rtF A ms) (k + m)).map pt).length + ((plc ms (k + m)).map pt).length → co ((plc (rtF A ms) (k + m)).map pt ++ (plc ms (k + m)).map pt) j = pt ((plc (rtF A ms) (k + m) ++ plc ms (k + m)).getD j 0) := fun j hj => by
      rw [← List.map_append, co_map (by rw [List.length_map, List.length_map] at hj; rw [List.length_append]; exact hj)]
    have hDne : ∀ i, i < k + m → (rtF A ms i || ms i) = true → evP D (pt i) ≠ 0 := fun i hi hp => by
      have hmem : i ∈ plc (rtF A ms) (k + m) ++ plc ms (k + m) := by
        rw [Bool.or_eq_true] at hp
        rcases hp with h | h
        · exact List.mem_append_left _ (plc_mem.2 ⟨hi, h⟩)
        · exact List.mem_append_right _ (plc_mem.2 ⟨hi, h⟩)
      obtain ⟨j, hj, ej⟩ := List.getElem_of_mem hmem
      have hj' : j < ((plc (rtF A ms) (k + m)).map pt).length + ((plc ms (k + m)).map pt).length := by rw [List.length_map, List.length_map, ← List.length_append]; exact hj
      have h5 := find_der ((plc (rtF A ms) (k + m)).map pt) ((plc ms (k + m)).map pt) hj'
      have h6 := find_ne hap hj'
      rw [spot j hj', ← hDD] at h5
      rw [spot j hj'] at h6
      have h7 : (plc (rtF A ms) (k + m) ++ plc ms (k + m)).getD j 0 = i := by
        simp only [List.getD, List.getElem?_eq_getElem hj, Option.getD_some]
        exact ej
      rw [h7] at h5 h6
      rw [h5]
      exact h6
    have hw : ∀ i, i < k + m → (rtF A ms i || ms i) = true → mu (evP D (pt i)) (wtF k m i) ≠ 0 := fun i hi hp => mu_ne (hDne i hi hp) (wtF_ne h2 (by omega))
    have hs := find_made (s := upto (synF k m z) m) (pts := (plc (rtF A ms) (k + m)).map pt) (ks := (plc ms (k + m)).map pt) (bs := (plc (rtF A ms) (k + m)).map (fun i => mu (evP O (pt i)) (iv (evP D (pt i))))) (zs := (plc ms (k + m)).map (fun i => mu (evP O (pt i)) (iv (evP D (pt i)))))
      (by rw [hpl, hkl, upto_length]; omega) hap (fun j h1 h3 => by
        have := hl.loc.zero j (by rw [find_norm, hkl]; omega) h3
        rw [hpl, hT, ← hLl]
        exact this) (fun j hj => by
        have h5 := find_der ((plc (rtF A ms) (k + m)).map pt) ((plc ms (k + m)).map pt) hj
        have h6 := find_ne hap hj
        rw [← hDD] at h5
        rw [← List.map_append (f := fun i => mu (evP O (pt i)) (iv (evP D (pt i)))), co_map (by rw [List.length_map, List.length_map] at hj; rw [List.length_append]; exact hj)]
        rw [← h5] at h6 ⊢
        rw [spot j hj] at h6 ⊢
        show mu (mu (evP O _) (iv (evP D _))) (evP D _) = _
        rw [mu_assoc, mu_comm (iv _), mu_iv h6, mu_one, eO, hpl, hT, ← hLl])
    have hcode := sy_code h2 hnd hs
    rw [← hD]
    refine ⟨⟨hcode.congr fun i hi => ?_, ?_⟩, hw⟩
    · unfold rtW dfF
      congr 1
      by_cases hp : (rtF A ms i || ms i) = true
      · rw [if_pos hp, if_pos hp, iv_mu10 (hDne i hi hp) (wtF_ne h2 (by omega)), mu_assoc]
      · rw [if_neg hp, if_neg hp]
    · have : cnt (wrg z (rtW k m z A O D ms) ms) (k + m) ≤ cnt (rtF A ms) (k + m) := cnt_mono fun i hi hwr => by
        unfold wrg at hwr
        simp only [Bool.and_eq_true, Bool.not_eq_true', decide_eq_true_eq] at hwr
        refine Classical.byContradiction fun q => hwr.2 ?_
        unfold rtW
        rw [if_neg (by simp [q, hwr.1]), x_zero]
      omega
  · cases h
/-- .. and the places that are told are those that differ -/
theorem roots_told {k m : Nat} {z : Nat → UInt8} {ms : Nat → Bool} {A O : List UInt8} (h2 : k + m ≤ 256) (hK : KeyAns (upto (synF k m z) m) (locL ((plc ms (k + m)).map pt)) 0 A O) (hr : A.length ≤ cnt (rtF A ms) (k + m) + 1) :
    plc (rtF A ms) (k + m) = plc (wrg z (rtW k m z A O (derP (mulP A (locL ((plc ms (k + m)).map pt)))) ms) ms) (k + m) := (near_roots h2 (roots_near h2 hK hr).1 hK).2.1
end Go.Proofs.YtddnfhfangfgeaaGreat.Gf



namespace Go.Proofs.YtddnfhfangfgeaaGreat.Gf
set_option linter.unusedVariables false
set_option linter.unusedSimpArgs false
open Go.RowKit
/-- one shard -/
theorem Rs.one {w : World} {b off n c : Nat} {L : List (List UInt8)} (h : Rs w (.slice (some ⟨b, off, none⟩) n c) L) {i : Nat} (hi : i < L.length) : Rs w (.slice (some ⟨b, off + i, none⟩) 1 (c - i)) [ro L i] := by
  have h1 := h.rest (k := i) (by omega) (L.length - i) rfl
  have h2 := h1.first (k := 1) (by rw [List.length_drop]; omega)
  refine h2.as ?_
  refine ro_ext (by rw [List.length_take, List.length_drop]; simp; omega) fun j hj => ?_
  rw [List.length_take, List.length_drop] at hj
  have e : j = 0 := by omega
  subst e
  rw [ro_take (by omega), ro_drop, Nat.add_zero]
  rfl
/-- bools of the call's own: the first n of f -/
def BoolF (w : World) (base e g n : Nat) (f : Nat → Bool) : Prop := w.ownsRow base e 1 (.slice (some ⟨g, 0, none⟩) n n) n ((List.range n).map fun i => Value.bool (f i))
theorem BoolF.made {w : World} {base e g n : Nat} (h : w.ownsRow base e 1 (.slice (some ⟨g, 0, none⟩) n n) n (madeCells (Value.cells (.bool false)) (n * 1)).toList) : BoolF w base e g n (fun _ => false) := by
  unfold BoolF
  have e1 : (madeCells (Value.cells (.bool false)) (n * 1)).toList = List.replicate n (.bool false) := by
    rw [Nat.mul_one]; exact toList_madeCells_one _ _
  rw [e1] at h
  have e2 : (List.range n).map (fun _ => Value.bool false) = List.replicate n (.bool false) := by
    rw [List.map_const']; simp
  rw [e2]; exact h
theorem BoolF.cell {w : World} {base e g n : Nat} {f : Nat → Bool} (h : BoolF w base e g n f) {j : Nat} (hj : j < n) : w.cell? ⟨g, j, none⟩ = some (.bool (f j)) := by
  rw [World.ownsRow.cellAt h j (by omega), List.getElem?_map, List.getElem?_range hj]; rfl
theorem BoolF.free {w : World} {base e g n : Nat} {f : Nat → Bool} (h : BoolF w base e g n f) (j : Nat) : w.frozen? ⟨g, j, none⟩ = false := World.ownsRow.frozenAt h j
theorem BoolF.lt {w : World} {base e g n : Nat} {f : Nat → Bool} (h : BoolF w base e g n f) : base ≤ g ∧ g < w.heap.size := World.ownsRow.lt h g rfl
theorem BoolF.store {w : World} {base e g n : Nat} {f f' : Nat → Bool} (h : BoolF w base e g n f) {j : Nat} (hj : j < n) (x : Bool) (hf : ∀ t, t < n → f' t = if t = j then x else f t) : BoolF (w.setCell ⟨g, j, none⟩ (.bool x)) base e g n f' := by
  have e1 := (World.ownsRow.stored h j (.bool x)).1
  unfold BoolF
  have e2 : ((List.range n).map fun i => Value.bool (f i)).set j (.bool x) = (List.range n).map fun i => Value.bool (f' i) := by
    refine List.ext_getElem (by simp) fun t h1 h2 => ?_
    simp at h2
    rw [List.getElem_set]
    by_cases e : t = j
    · subst e; simp [hf t h2]
    · rw [if_neg fun h : j = t => e h.symm]; simp [hf t h2, e]
  rw [← e2]; exact e1
theorem BoolF.rdB {w : World} {base e g n : Nat} {f : Nat → Bool} (h : BoolF w base e g n f) (hn : n ≤ 1000000) : RdB w (.slice (some ⟨g, 0, none⟩) n n) ((List.range n).map f) := by
  have hl : ((List.range n).map f).length = n := by simp
  refine ⟨some ⟨g, 0, none⟩, n, by rw [hl], by rw [hl]; exact Nat.le_refl _, by unfold maxLen; omega, nofun, fun i hi => ?_⟩
  rw [hl] at hi
  refine ⟨g, 0, rfl, h.lt.2, ?_⟩
  rw [Nat.zero_add, h.cell hi]
  simp [hb, List.getD, hi]
end Go.Proofs.YtddnfhfangfgeaaGreat.Gf

namespace Go.Proofs.YtddnfhfangfgeaaGreat.Gf
set_option linter.unusedVariables false
set_option linter.unusedSimpArgs false
open Go.RowKit
theorem info_int10 : (Tryz.prog.info? 3).map (fun i => (i.zero, i.size, i.bytes)) = some (some (.int .i64 0), 1, 8) := by kernel_rfl
theorem info_bool10 : (Tryz.prog.info? 4).map (fun i => (i.zero, i.size, i.bytes)) = some (some (.bool false), 1, 1) := by kernel_rfl
set_option maxRecDepth 100000 in
set_option maxHeartbeats 2000000 in
theorem epl_any {va : Value} {h : List Bool} {w : World} (hH : RdB w va h) (hl : h.length ≤ 300) : Calls Tryz.prog 140 #[va] w fun e w' => ∃ v, e = .returned v ∧ OwnI w' w.heap.size 3 v (plc (hb h) h.length) ∧ Below w.heap.size w w' := by
  obtain ⟨i0, hi, hz0, hz1, hz2⟩ := info_parts info_int10
  obtain ⟨a, c, rfl⟩ := hH.form
  go_enter Tryz.func140, Tryz.ntmps140
  go_wp2
  go_loopw [3, 8] (fun o i wr => ∃ r : Nat, r ≤ h.length ∧ i = .int .i64 r ∧ OwnI wr w.heap.size 3 o (plc (hb h) r) ∧ Below w.heap.size w wr) (fun _ i _ => h.length - (intOf i).toNat)
  case atStart => exact ⟨0, by omega, rfl, OwnI.nil _ _ _, Below.refl _ _⟩
  case round =>
    obtain ⟨r, hr, rfl, hO, hB⟩ := hrel
    have hsz := hB.size
    have hn : Hid ((plc (hb h) r).length ≤ 300) := by show _ ≤ _; rw [plc_length]; have := cnt_le (hb h) r; omega
    by_cases hlt : r < h.length
    · obtain ⟨b, off, rfl, _, c1⟩ := (hH.below hB).at hlt
      have hlt' : (r : Int) < (h.length : Int) := by omega
      obtain ⟨av, cv, rfl⟩ := hO.form
      have E := plc_succ (hb h) r
      cases e : hb h r with
      | false =>
        rw [e] at c1 E
        have E' : Hid (plc (hb h) (r + 1) = plc (hb h) r) := by show _ = _; rw [E]; simp
        clear hH e E
        go_wp2
        go_roundw
        case rel => exact ⟨r + 1, by omega, by go_num, by rw [E'.out]; exact hO, hB⟩
        case measure => simp [intOf]; omega
      | true =>
        rw [e] at c1 E
        have E' : Hid (plc (hb h) (r + 1) = plc (hb h) r ++ [r]) := E
        clear hH e E
        go_wp2_with (at_builtin; go_loud (refine wpList_append_int rfl (.tmp 14) (.tmp 16) 45 rfl w.heap.size 3 i0 Tryz.underlying45 hi hz0 hz1 hz2 (.slice av (plc (hb h) r).length cv) (plc (hb h) r) rfl hO r _ 1 rfl (by have := hn.out; omega) hsz ?_); intro v' w2 hv2 hb2)
        have HO : Hid (OwnI w2 w.heap.size 3 v' (plc (hb h) (r + 1))) := by show OwnI _ _ _ _ _; rw [E'.out]; exact hv2
        have HB : Hid (Below w.heap.size w w2) := hB.trans hb2
        clear hO hv2 hb2 hB c1
        go_wp2
        go_roundw
        case rel => exact ⟨r + 1, by omega, by go_num, HO.out, HB.out⟩
        case measure => simp [intOf]; omega
    · have e : r = h.length := by omega
      subst e
      have hge : ¬ (h.length : Int) < (h.length : Int) := by omega
      clear hH
      go_wp2
      try rw [Exit.noGoto_ret]
      go_ret
      exact ⟨_, rfl, hO, hB⟩
/-- the points of places -/
def ptsL (zs : List Nat) : List UInt8 := zs.map pt
theorem ptsL_length (zs : List Nat) : (ptsL zs).length = zs.length := List.length_map ..
def ptsF (zs : List Nat) (r i : Nat) : UInt8 := if i < r then pt (zs.getD i 0) else 0
theorem ptsF_step (zs : List Nat) (r i : Nat) : ptsF zs (r + 1) i = if i = r then pt (zs.getD r 0) else ptsF zs r i := by
  unfold ptsF
  by_cases e : i = r
  · subst e; rw [if_pos (by omega), if_pos rfl]
  · rw [if_neg e]
    by_cases h : i < r
    · rw [if_pos h, if_pos (by omega)]
    · rw [if_neg h, if_neg (by omega)]
theorem ptsF_all (zs : List Nat) : upto (ptsF zs zs.length) zs.length = ptsL zs := by
  refine co_ext (by rw [upto_length, ptsL_length]) fun i hi => ?_
  rw [upto_length] at hi
  rw [co_upto_in hi]
  unfold ptsF ptsL
  rw [if_pos hi, co_lt (by rw [List.length_map]; exact hi)]
  simp [List.getD, hi]
set_option maxRecDepth 100000 in
set_option maxHeartbeats 2000000 in
theorem ept_any {va : Value} {zs : List Nat} {w : World} (hH : RdI w va (toI zs)) (hl : zs.length ≤ 300) (hz : ∀ i, i < zs.length → zs.getD i 0 < 256) : Calls Tryz.prog 166 #[va] w fun e w' => ∃ v, e = .returned v ∧ Rd w' v (ptsL zs) ∧ Below w.heap.size w w' := by
  obtain ⟨a, c, e⟩ := hH.form
  rw [toI_length] at e
  subst e
  have hz' : Hid _ := hz
  clear hz
  obtain ⟨n, hn⟩ : ∃ n, Hid (n = zs.length) := ⟨_, rfl⟩
  rw [← hn.out] at hl ⊢
  obtain ⟨i0, hi, hz0, hz1, hz2⟩ := info_parts info_u8
  go_enter Tryz.func166, Tryz.ntmps166
  go_wp2_with (at_make; go_loud (refine wpList_make_full _ rfl (.tmp 7) (.tmp 7) 36 rfl w.heap.size 5 i0 (.int .u8 0) 1 Tryz.underlying36 hi hz0 hz1 _ _ _ _ n rfl rfl (by omega) (by omega) (by rw [hz2]; omega) (by unfold maxLen; omega) (Nat.le_refl _) ?_); intro w1 hown1 hgrow1)
  have R1 : Hid (RowF w1 w.heap.size 5 w.heap.size n n (fun _ => 0)) := RowF.made hown1
  have B1 : Hid (Below w.heap.size w w1) := (Below.refl _ _).grown hgrow1 (Nat.le_refl _) (fun k h => by cases h)
  clear hown1 hgrow1
  go_wp2
  go_loopw [11] (fun v wr => ∃ i : Nat, i ≤ n ∧ v = .int .i64 i ∧ RowF wr w.heap.size 5 w.heap.size n n (ptsF zs i) ∧ Below w.heap.size w wr) (fun v _ => n - (intOf v).toNat)
  case atStart => exact ⟨0, by omega, rfl, R1.out.congr fun j hj => (if_neg (Nat.not_lt_zero _)).symm, B1.out⟩
  case round =>
    obtain ⟨i, hi9, rfl, hR, hB⟩ := hrel
    clear R1 B1
    by_cases hlt : i < n
    · have hlt' : (i : Int) < (n : Int) := by omega
      obtain ⟨sb, so, es, _, cs⟩ := (hH.below hB).at (i := i) (by rw [toI_length, ← hn.out]; exact hlt)
      subst es
      rw [toI_getD] at cs
      have hx := hz'.out i (by rw [← hn.out]; exact hlt)
      obtain ⟨x, hxx⟩ : ∃ x, Hid (x = zs.getD i 0) := ⟨_, rfl⟩
      rw [← hxx.out] at cs hx
      have m1 : (x : Int) % 256 = (x : Int) := by omega
      have c1 := hR.cell hlt
      have f1 := hR.unfrozen i
      have HN : Hid (RowF (World.setCell wr ⟨w.heap.size, i, none⟩ (.int .u8 (x : Int))) w.heap.size 5 w.heap.size n n (ptsF zs (i + 1))) := by
        have := hR.store hlt (pt x) (f' := ptsF zs (i + 1)) (fun j => by rw [ptsF_step, hxx.out])
        rw [pt_toNat hx] at this
        exact this
      have HB : Hid (Below w.heap.size w (World.setCell wr ⟨w.heap.size, i, none⟩ (.int .u8 (x : Int)))) := hB.setCell (p := ⟨w.heap.size, i, none⟩) (Nat.le_refl _) _
      clear hR hB hH
      go_wp2
      go_roundw
      case rel => exact ⟨i + 1, by omega, by go_num, HN.out, HB.out⟩
      case measure => simp [intOf]; omega
    · have hge : ¬ (i : Int) < (n : Int) := by omega
      have ei : i = n := by omega
      have Rt : Hid (Rd wr (.slice (some ⟨w.heap.size, 0, none⟩) n n) (ptsL zs)) := by
        show Rd _ _ _
        rw [← ptsF_all, ← hn.out, ← ei]
        have := hR.rd
        rw [ei] at this ⊢
        exact this
      clear ei hR hH
      go_wp2
      go_ret
      exact ⟨_, rfl, Rt.out, hB⟩
/-- true just where others are not -/
def notM (h : List Bool) : List Bool := (List.range h.length).map fun i => !hb h i
theorem notM_length (h : List Bool) : (notM h).length = h.length := by simp [notM]
theorem notM_at {h : List Bool} {i : Nat} (hi : i < h.length) : hb (notM h) i = !hb h i := by simp [notM, hb, List.getD, hi]
def oppF (h : List Bool) (r i : Nat) : Bool := if i < r then !hb h i else false
theorem oppF_zero (h : List Bool) : oppF h 0 = fun _ => false := by funext i; exact if_neg (Nat.not_lt_zero _)
theorem oppF_step (h : List Bool) (r i : Nat) : oppF h (r + 1) i = if i = r then !hb h r else oppF h r i := by
  unfold oppF
  by_cases e : i = r
  · subst e; rw [if_pos (by omega), if_pos rfl]
  · rw [if_neg e]
    by_cases h : i < r
    · rw [if_pos h, if_pos (by omega)]
    · rw [if_neg h, if_neg (by omega)]
theorem oppF_all (h : List Bool) : (List.range h.length).map (oppF h h.length) = notM h := List.map_congr_left fun i hi => if_pos (List.mem_range.1 hi)
set_option maxRecDepth 100000 in
set_option maxHeartbeats 2000000 in
theorem eopp_any {va : Value} {h : List Bool} {w : World} (hH : RdB w va h) (hl : h.length ≤ 300) : Calls Tryz.prog 136 #[va] w fun e w' => ∃ v, e = .returned v ∧ RdB w' v (notM h) ∧ Below w.heap.size w w' := by
  obtain ⟨i0, hi, hz0, hz1, hz2⟩ := info_parts info_bool10
  obtain ⟨a, c, rfl⟩ := hH.form
  obtain ⟨n, hn⟩ : ∃ n, Hid (n = h.length) := ⟨_, rfl⟩
  rw [← hn.out] at hl ⊢
  go_enter Tryz.func136, Tryz.ntmps136
  go_wp2_with (at_make; go_loud (refine wpList_make_full _ rfl (.tmp 7) (.tmp 7) 96 rfl w.heap.size 4 i0 (.bool false) 1 Tryz.underlying96 hi hz0 hz1 _ _ _ _ n rfl rfl (by omega) (by omega) (by rw [hz2]; omega) (by unfold maxLen; omega) (Nat.le_refl _) ?_); intro w1 hown1 hgrow1)
  have R1 : Hid (BoolF w1 w.heap.size 4 w.heap.size n (fun _ => false)) := BoolF.made hown1
  have B1 : Hid (Below w.heap.size w w1) := (Below.refl _ _).grown hgrow1 (Nat.le_refl _) (fun k h => by cases h)
  clear hown1 hgrow1
  go_wp2
  go_loopw [11] (fun v wr => ∃ i : Nat, i ≤ n ∧ v = .int .i64 i ∧ BoolF wr w.heap.size 4 w.heap.size n (oppF h i) ∧ Below w.heap.size w wr) (fun v _ => n - (intOf v).toNat)
  case atStart => exact ⟨0, by omega, rfl, by rw [oppF_zero]; exact R1.out, B1.out⟩
  case round =>
    obtain ⟨i, hi9, rfl, hR, hB⟩ := hrel
    clear R1 B1
    by_cases hlt : i < n
    · have hlt' : (i : Int) < (n : Int) := by omega
      obtain ⟨sb, so, es, _, cs⟩ := (hH.below hB).at (i := i) (by rw [← hn.out]; exact hlt)
      subst es
      have c1 := hR.cell hlt
      have f1 := hR.free i
      have HN : Hid (BoolF (World.setCell wr ⟨w.heap.size, i, none⟩ (.bool (!hb h i))) w.heap.size 4 w.heap.size n (oppF h (i + 1))) := hR.store hlt (!hb h i) fun j _ => oppF_step h i j
      have HB : Hid (Below w.heap.size w (World.setCell wr ⟨w.heap.size, i, none⟩ (.bool (!hb h i)))) := hB.setCell (p := ⟨w.heap.size, i, none⟩) (Nat.le_refl _) _
      clear hR hB hH
      go_wp2
      go_roundw
      case rel => exact ⟨i + 1, by omega, by go_num, HN.out, HB.out⟩
      case measure => simp [intOf]; omega
    · have hge : ¬ (i : Int) < (n : Int) := by omega
      have ei : i = n := by omega
      have Rt : Hid (RdB wr (.slice (some ⟨w.heap.size, 0, none⟩) n n) (notM h)) := by
        show RdB _ _ _
        rw [ei] at hR
        have := hR.rdB (by omega)
        rw [hn.out, oppF_all] at this
        rw [hn.out]
        exact this
      clear ei hR hH
      go_wp2
      go_ret
      exact ⟨_, rfl, Rt.out, hB⟩
/-- .. those at the first r places are true, too -/
def mrkF (f : Nat → Bool) (zs : List Nat) (i : Nat) : Bool := f i || decide (i ∈ zs)
theorem mrkF_step {f : Nat → Bool} {zs : List Nat} {r : Nat} (hr : r < zs.length) (i : Nat) : mrkF f (zs.take (r + 1)) i = if i = zs.getD r 0 then true else mrkF f (zs.take r) i := by
  have e : zs.take (r + 1) = zs.take r ++ [zs.getD r 0] := by
    rw [List.take_add_one, List.getElem?_eq_getElem hr]
    simp [List.getD, hr]
  unfold mrkF
  rw [e]
  by_cases q : i = zs.getD r 0
  · rw [if_pos q, q]; simp
  · rw [if_neg q]
    simp only [List.mem_append, List.mem_singleton, q, or_false]
set_option maxRecDepth 100000 in
set_option maxHeartbeats 2000000 in
theorem emark_any {va : Value} {zs : List Nat} {w : World} {base e g n : Nat} {f : Nat → Bool} (hH : RdI w va (toI zs)) (hl : zs.length ≤ 300) (hz : ∀ i, i < zs.length → zs.getD i 0 < n) (hB : BoolF w base e g n f) (hap : ∀ b off m c, va = .slice (some ⟨b, off, none⟩) m c → b ≠ g) : Calls Tryz.prog 139 #[.slice (some ⟨g, 0, none⟩) n n, va] w fun e' w' => e' = .returned (.tuple #[]) ∧ Only g w w' ∧ BoolF w' base e g n (mrkF f zs) := by
  obtain ⟨a, c, ea⟩ := hH.form
  rw [toI_length] at ea
  subst ea
  have hz' : Hid _ := hz
  clear hz
  obtain ⟨s, hs⟩ : ∃ s, Hid (s = zs.length) := ⟨_, rfl⟩
  rw [← hs.out] at hH hl hap ⊢
  have HC : Hid (∀ wr, Only g w wr → ∀ i, i < s → ∃ b off, a = some ⟨b, off, none⟩ ∧ wr.cell? ⟨b, off + i, none⟩ = some (.int .i64 ((zs.getD i 0 : Nat) : Int))) := fun wr o i hi => by
    obtain ⟨b, off, e1, _, e2⟩ := hH.at (i := i) (by rw [toI_length, ← hs.out]; exact hi)
    rw [toI_getD] at e2
    exact ⟨b, off, e1, (o.cell (p := ⟨b, off + i, none⟩) (hap b off s c (by rw [e1]))).trans e2⟩
  clear hH hap
  go_enter Tryz.func139, Tryz.ntmps139
  go_wp2_with fail
  go_loopw [8] (fun v wr => ∃ i : Nat, i ≤ s ∧ v = .int .i64 i ∧ BoolF wr base e g n (mrkF f (zs.take i)) ∧ Only g w wr) (fun v _ => s - (intOf v).toNat)
  case atStart => exact ⟨0, by omega, rfl, by have e0 : mrkF f (zs.take 0) = f := by { funext i; simp [mrkF] }; rw [e0]; exact hB, Only.refl _ _⟩
  case round =>
    obtain ⟨i, hi9, rfl, hR, hO⟩ := hrel
    clear hB
    by_cases hlt : i < s
    · have hlt' : (i : Int) < (s : Int) := by omega
      obtain ⟨b, off, rfl, cs⟩ := HC.out wr hO i hlt
      have hx := hz'.out i (by rw [← hs.out]; exact hlt)
      have E : Hid _ := mrkF_step (f := f) (zs := zs) (r := i) (by rw [← hs.out]; exact hlt)
      obtain ⟨x, hxx⟩ : ∃ x, Hid (x = zs.getD i 0) := ⟨_, rfl⟩
      rw [← hxx.out] at cs hx E
      have hx' : (x : Int) < (n : Int) := by omega
      have c1 := hR.cell hx
      have f1 := hR.free x
      have HN : Hid (BoolF (World.setCell wr ⟨g, x, none⟩ (.bool true)) base e g n (mrkF f (zs.take (i + 1)))) := hR.store hx true fun j _ => E.out j
      have HO : Hid (Only g w (World.setCell wr ⟨g, x, none⟩ (.bool true))) := hO.setCell x _
      clear hR hO
      go_wp2
      go_roundw
      case rel => exact ⟨i + 1, by omega, by go_num, HN.out, HO.out⟩
      case measure => simp [intOf]; omega
    · have hge : ¬ (i : Int) < (s : Int) := by omega
      have ei : i = s := by omega
      have e2 : zs.take i = zs := by rw [ei, hs.out]; exact List.take_length
      rw [e2] at hR
      clear ei e2
      go_wp2
      go_end0
      exact ⟨rfl, hO, hR⟩
end Go.Proofs.YtddnfhfangfgeaaGreat.Gf

namespace Go.Proofs.YtddnfhfangfgeaaGreat.Gf
set_option linter.unusedVariables false
set_option linter.unusedSimpArgs false
/-- the word at a place: 0 where no shard is there -/
def atF (hs : List Bool) (L : List (List UInt8)) (t i : Nat) : UInt8 := if hb hs i then co (ro L i) t else 0
def wdAt (hs : List Bool) (L : List (List UInt8)) (n t : Nat) : List UInt8 := upto (atF hs L t) n
theorem wdAt_length (hs : List Bool) (L : List (List UInt8)) (n t : Nat) : (wdAt hs L n t).length = n := upto_length _ _
/-- the length of those that are there; -1: none is, or they are not all of one -/
noncomputable def oneX (hs : List Bool) (L : List (List UInt8)) : Int := by
  classical
  exact if EvenH hs L ∧ ∃ i, hb hs i = true then (((ro L ((plc (hb hs) hs.length).getD 0 0)).length : Nat) : Int) else -1
theorem hb_in {hs : List Bool} {i : Nat} (h : hb hs i = true) : i < hs.length := by
  rcases Nat.lt_or_ge i hs.length with k | k
  · exact k
  · rw [hb_ge k] at h; cases h
theorem oneX_ok {hs : List Bool} {L : List (List UInt8)} {n : Nat} (h0 : ∃ i, hb hs i = true) (h : ∀ i, hb hs i = true → (ro L i).length = n) : oneX hs L = (n : Int) := by
  unfold oneX
  rw [if_pos ⟨fun i j hi hj => (h i hi).trans (h j hj).symm, h0⟩]
  obtain ⟨i, hi⟩ := h0
  have hm : 0 < (plc (hb hs) hs.length).length := List.length_pos_of_mem (plc_mem.2 ⟨hb_in hi, hi⟩)
  rw [h _ (plc_mem.1 (getD_mem hm)).2]
theorem oneX_none {hs : List Bool} {L : List (List UInt8)} (h : ¬ ∃ i, hb hs i = true) : oneX hs L = -1 := by unfold oneX; rw [if_neg fun e => h e.2]
theorem oneX_odd {hs : List Bool} {L : List (List UInt8)} {i j : Nat} (hi : hb hs i = true) (hj : hb hs j = true) (h : (ro L i).length ≠ (ro L j).length) : oneX hs L = -1 := by unfold oneX; rw [if_neg fun e => h (e.1 i j hi hj)]
theorem oneX_cases (hs : List Bool) (L : List (List UInt8)) : oneX hs L = -1 ∨ ∃ n : Nat, oneX hs L = (n : Int) ∧ (∀ i, hb hs i = true → (ro L i).length = n) ∧ ∃ i, hb hs i = true := by
  classical
  by_cases h : EvenH hs L ∧ ∃ i, hb hs i = true
  · right
    obtain ⟨i, hi⟩ := h.2
    exact ⟨(ro L i).length, oneX_ok h.2 (fun j hj => h.1 j i hj hi), fun j hj => h.1 j i hj hi, h.2⟩
  · left
    unfold oneX
    rw [if_neg h]
section
variable (k m : Nat) (hs : List Bool) (L : List (List UInt8))
noncomputable def pX (t : Nat) : Int := wdX k m (wdAt hs L (k + m) t) (notM hs)
noncomputable def pR (t : Nat) : List UInt8 := wdR k m (wdAt hs L (k + m) t) (notM hs)
noncomputable def pP (t : Nat) : List Nat := wdP k m (wdAt hs L (k + m) t) (notM hs)
/-- the shards up to a place -/
noncomputable def rowsP (r : Nat) : List (List UInt8) := mkL (k + m) (fun i => upto (fun t => co (pR k m hs L t) i) r)
/-- those that were wrong up to a place -/
noncomputable def hurtP : Nat → Nat → Bool
  | 0, _ => false
  | r + 1, i => mrkF (hurtP r) (pP k m hs L r) i
end
open Classical in
noncomputable def shX (k m : Int) (hs : List Bool) (L : List (List UInt8)) : Int :=
  if OkC k m then (if (hs.length : Int) = k + m ∧ (L.length : Int) = k + m ∧ oneX hs L ≠ -1 then (if ∀ t, t < (oneX hs L).toNat → pX k.toNat m.toNat hs L t = 0 then 0 else 100) else 60) else 50
open Classical in
noncomputable def shR (k m : Int) (hs : List Bool) (L : List (List UInt8)) : List (List UInt8) := if shX k m hs L = 0 then rowsP k.toNat m.toNat hs L (oneX hs L).toNat else []
open Classical in
noncomputable def shP (k m : Int) (hs : List Bool) (L : List (List UInt8)) : List Nat := if shX k m hs L = 0 then plc (hurtP k.toNat m.toNat hs L (oneX hs L).toNat) (k.toNat + m.toNat) else []
theorem sh_no {k m : Int} {hs : List Bool} {L : List (List UInt8)} {x : Int} (h : shX k m hs L = x) (hx : x ≠ 0) : shX k m hs L = x ∧ shR k m hs L = [] ∧ shP k m hs L = [] := by
  refine ⟨h, ?_, ?_⟩
  · unfold shR; rw [h, if_neg hx]
  · unfold shP; rw [h, if_neg hx]
theorem sh_bad {k m : Int} {hs : List Bool} {L : List (List UInt8)} (c : ¬ OkC k m) : shX k m hs L = 50 ∧ shR k m hs L = [] ∧ shP k m hs L = [] := sh_no (by unfold shX; rw [if_neg c]) (by decide)
theorem sh_shard {k m : Int} {hs : List Bool} {L : List (List UInt8)} (c : OkC k m) (d : ¬ ((hs.length : Int) = k + m ∧ (L.length : Int) = k + m ∧ oneX hs L ≠ -1)) : shX k m hs L = 60 ∧ shR k m hs L = [] ∧ shP k m hs L = [] := sh_no (by unfold shX; rw [if_pos c, if_neg d]) (by decide)
theorem sh_many {k m n t : Nat} {hs : List Bool} {L : List (List UInt8)} (c : OkC k m) (h1 : hs.length = k + m) (h2 : L.length = k + m) (h3 : oneX hs L = (n : Int)) (ht : t < n) (hx : pX k m hs L t ≠ 0) : shX k m hs L = 100 ∧ shR k m hs L = [] ∧ shP k m hs L = [] := by
  refine sh_no ?_ (by decide)
  unfold shX
  rw [if_pos c, if_pos ⟨by omega, by omega, by rw [h3]; omega⟩, if_neg]
  intro h
  exact hx (h t (by rw [h3]; exact ht))
theorem sh_ok {k m n : Nat} {hs : List Bool} {L : List (List UInt8)} (c : OkC k m) (h1 : hs.length = k + m) (h2 : L.length = k + m) (h3 : oneX hs L = (n : Int)) (hx : ∀ t, t < n → pX k m hs L t = 0) : shX k m hs L = 0 ∧ shR k m hs L = rowsP k m hs L n ∧ shP k m hs L = plc (hurtP k m hs L n) (k + m) := by
  have h0 : shX k m hs L = 0 := by
    unfold shX
    rw [if_pos c, if_pos ⟨by omega, by omega, by rw [h3]; omega⟩, if_pos]
    intro t ht
    rw [h3] at ht
    exact hx t ht
  refine ⟨h0, ?_, ?_⟩
  · unfold shR; rw [if_pos h0, h3]; rfl
  · unfold shP; rw [if_pos h0, h3]; rfl
/-- what is told of a place -/
theorem pX_told {k m : Nat} {hs : List Bool} {L : List (List UInt8)} {t : Nat} (h1 : 1 ≤ k) (h2 : k + m ≤ 256) (hl : hs.length = k + m) : (pX k m hs L t = 100 ∧ pR k m hs L t = [] ∧ pP k m hs L t = []) ∨ (pX k m hs L t = 0 ∧ (pR k m hs L t).length = k + m ∧ (∀ i, i < (pP k m hs L t).length → (pP k m hs L t).getD i 0 < k + m) ∧ (pP k m hs L t).length ≤ 256) := by
  have okc : OkC (k : Int) (m : Int) := ⟨by omega, by omega, by omega⟩
  have okw : OkW (k : Int) (m : Int) (wdAt hs L (k + m) t) (notM hs) := ⟨by rw [wdAt_length]; omega, by rw [notM_length]; omega⟩
  by_cases h : IsNear k m (wdAt hs L (k + m) t) (notM hs)
  · right
    obtain ⟨c, hc⟩ := h
    obtain ⟨e1, e2, e3⟩ := wd_ok okc okw hc
    refine ⟨e1, ?_, ?_, ?_⟩
    · unfold pR; rw [e2, upto_length]
    · intro i hi
      unfold pP at hi ⊢
      rw [e3] at hi ⊢
      have := List.getElem_mem hi
      have hm : (plc (wrg (co (wdAt hs L (k + m) t)) c (hb (notM hs))) (k + m)).getD i 0 ∈ plc (wrg (co (wdAt hs L (k + m) t)) c (hb (notM hs))) (k + m) := by
        simp only [List.getD, List.getElem?_eq_getElem hi, Option.getD_some]
        exact this
      exact (plc_mem.1 hm).1
    · unfold pP
      rw [e3, plc_length]
      have := cnt_le (wrg (co (wdAt hs L (k + m) t)) c (hb (notM hs))) (k + m)
      omega
  · left
    exact wd_many okc okw h
theorem rowsP_length (k m : Nat) (hs : List Bool) (L : List (List UInt8)) (r : Nat) : (rowsP k m hs L r).length = k + m := mkL_length _ _
theorem rowsP_ro {k m : Nat} {hs : List Bool} {L : List (List UInt8)} {r i : Nat} (hi : i < k + m) : ro (rowsP k m hs L r) i = upto (fun t => co (pR k m hs L t) i) r := ro_mkL hi
theorem rowsP_zero (k m : Nat) (hs : List Bool) (L : List (List UInt8)) : rowsP k m hs L 0 = mkL (k + m) (fun _ => []) := mkL_congr fun i hi => rfl
/-- the rows, of which the first have one byte more -/
noncomputable def layF (R : List (List UInt8)) (p : List UInt8) (r i : Nat) : List UInt8 := if i < r then ro R i ++ [co p i] else ro R i
theorem layF_zero (R : List (List UInt8)) (p : List UInt8) : layF R p 0 = ro R := by funext i; exact if_neg (Nat.not_lt_zero _)
theorem layF_old (R : List (List UInt8)) (p : List UInt8) (r : Nat) : layF R p r r = ro R r := if_neg (Nat.lt_irrefl _)
theorem layF_new (R : List (List UInt8)) (p : List UInt8) (r : Nat) : layF R p (r + 1) r = ro R r ++ [co p r] := if_pos (Nat.lt_succ_self _)
theorem layF_step {R : List (List UInt8)} {p : List UInt8} {r i : Nat} (h : i ≠ r) : layF R p (r + 1) i = layF R p r i := by
  unfold layF
  by_cases e : i < r
  · rw [if_pos e, if_pos (by omega)]
  · rw [if_neg e, if_neg (by omega)]
theorem rowsP_next {k m : Nat} {hs : List Bool} {L : List (List UInt8)} {r i : Nat} (hi : i < k + m) : layF (rowsP k m hs L r) (pR k m hs L r) (k + m) i = ro (rowsP k m hs L (r + 1)) i := by
  unfold layF
  rw [if_pos hi, rowsP_ro hi, rowsP_ro hi]
  unfold upto
  rw [List.range_succ, List.map_append]
  rfl
end Go.Proofs.YtddnfhfangfgeaaGreat.Gf

namespace Go.Proofs.YtddnfhfangfgeaaGreat.Gf
set_option linter.unusedVariables false
set_option linter.unusedSimpArgs false
open Go.RowKit
theorem cnt_none {p : Nat → Bool} {n : Nat} (h : ∀ i, i < n → p i = false) : cnt p n = 0 := by
  induction n with
  | zero => rfl
  | succ n ih => rw [cnt, ih fun i hi => h i (by omega), h n (by omega)]; rfl
theorem plc_none {p : Nat → Bool} {n : Nat} (h : ∀ i, i < n → p i = false) : plc p n = [] := List.length_eq_zero_iff.1 (by rw [plc_length, cnt_none h])
theorem many10 {k m : Nat} {W : List UInt8} {ms : List Bool} (h1 : 1 ≤ k) (h2 : k + m ≤ 256) (hWl : W.length = k + m) (hml : ms.length = k + m) (hf : m < cnt (hb ms) (k + m)) : wdX k m W ms = 100 ∧ wdR k m W ms = [] ∧ wdP k m W ms = [] := by
  have okc : OkC (k : Int) (m : Int) := ⟨by omega, by omega, by omega⟩
  refine wd_many okc ⟨by omega, by omega⟩ ?_
  rintro ⟨c, hc⟩
  have := hc.few
  omega
end Go.Proofs.YtddnfhfangfgeaaGreat.Gf

namespace Go.Proofs.YtddnfhfangfgeaaGreat.Gf
set_option linter.unusedVariables false
set_option linter.unusedSimpArgs false
theorem col_code {k m n t : Nat} {D : List (List UInt8)} (h1 : 1 ≤ k) (h2 : k + m ≤ 256) (hD : D.length = k) (hE : Even D) (hn : (ro D 0).length = n) (ht : t < n) : CodeW k m (fun i => co (ro (encL m k (parF k) D) i) t) := by
  intro l hl
  refine par_syn h2 (fun i hi => ?_) hl
  show co (ro (encL m k (parF k) D) (k + i)) t = _
  rw [enc_row_ge' (by omega) (by omega), show k + i - D.length = i by omega]
  unfold parR
  rw [co_upto_in (by rw [hn]; exact ht)]
  unfold wd
  exact S_congr fun j hj => by rw [enc_row_lt (by omega)]
/-- a shard as it is handed in -/
def mdS (A : List (List UInt8)) (hs bd : List Bool) (y : UInt8) (n i : Nat) : List UInt8 :=
  if hb hs i = false then [y] else if hb bd i = true ∧ 0 < n then (ro A i).set (i % n) (co (ro A i) (i % n) ^^^ y) else ro A i
/-- those that are wrong -/
def wrSt (hs bd : List Bool) (n i : Nat) : Bool := hb hs i && (hb bd i && decide (0 < n))
theorem mds_len {A : List (List UInt8)} {hs bd : List Bool} {y : UInt8} {n i : Nat} (hA : (ro A i).length = n) (h : hb hs i = true) : (mdS A hs bd y n i).length = n := by
  unfold mdS
  rw [if_neg (by rw [h]; decide)]
  split
  · rw [List.length_set]; exact hA
  · exact hA
theorem mds_co {A : List (List UInt8)} {hs bd : List Bool} {y : UInt8} {n i t : Nat} (hA : (ro A i).length = n) (h : hb hs i = true) (ht : t < n) : co (mdS A hs bd y n i) t = if wrSt hs bd n i = true ∧ t = i % n then co (ro A i) t ^^^ y else co (ro A i) t := by
  unfold mdS wrSt
  rw [if_neg (by rw [h]; decide), h, Bool.true_and]
  have hn : 0 < n := by omega
  by_cases q : hb bd i = true
  · rw [if_pos ⟨q, hn⟩, co_at (by rw [hA]; exact Nat.mod_lt _ hn)]
    by_cases e : t = i % n
    · rw [if_pos e, if_pos ⟨by simp [q, hn], e⟩, e]
    · rw [if_neg e, if_neg fun z => e z.2]
  · rw [if_neg fun z => q z.1, if_neg fun z => q (by simpa [hn] using z.1)]
theorem stripes10 {k m n : Nat} {D : List (List UInt8)} {hs bd : List Bool} {y : UInt8} (h1 : 1 ≤ k) (h2 : k + m ≤ 256) (hD : D.length = k) (hE : Even D) (hn : (ro D 0).length = n) (hhs : hs.length = k + m) (hy : y ≠ 0)
    (hex : cnt (fun i => !hb hs i) (k + m) ≠ k + m) (hf : 2 * cnt (wrSt hs bd n) (k + m) + cnt (fun i => !hb hs i) (k + m) ≤ m) :
    shX k m hs (mkL (k + m) (mdS (encL m k (parF k) D) hs bd y n)) = 0 ∧ shR k m hs (mkL (k + m) (mdS (encL m k (parF k) D) hs bd y n)) = encL m k (parF k) D ∧ shP k m hs (mkL (k + m) (mdS (encL m k (parF k) D) hs bd y n)) = plc (wrSt hs bd n) (k + m) := by
  have okc : OkC (k : Int) (m : Int) := ⟨by omega, by omega, by omega⟩
  obtain ⟨A, hA⟩ : ∃ A, A = encL m k (parF k) D := ⟨_, rfl⟩
  obtain ⟨M, hM⟩ : ∃ M, M = mkL (k + m) (mdS A hs bd y n) := ⟨_, rfl⟩
  have hAl : A.length = k + m := by rw [hA, encL_length, hD]
  have hAr : ∀ i, i < k + m → (ro A i).length = n := fun i hi => by rw [hA, enc_len hE (by omega), hn]
  have hMl : M.length = k + m := by rw [hM, mkL_length]
  have hMr : ∀ i, i < k + m → ro M i = mdS A hs bd y n i := fun i hi => by rw [hM, ro_mkL hi]
  have hin : ∀ i, hb hs i = true → i < k + m := fun i hi => by rw [← hhs]; exact hb_in hi
  have hone : oneX hs M = (n : Int) := by
    refine oneX_ok ?_ fun i hi => by rw [hMr i (hin i hi)]; exact mds_len (hAr i (hin i hi)) hi
    refine Classical.byContradiction fun q => hex ?_
    have e : ∀ i, i < k + m → hb hs i = false := fun i _ => by
      cases e9 : hb hs i
      · rfl
      · exact absurd ⟨i, e9⟩ q
    have h9 := cnt_not (hb hs) (k + m)
    rw [cnt_none e] at h9
    omega
  have hz : ∀ t i, t < n → i < k + m → co (wdAt hs M (k + m) t) i = if hb hs i then (if wrSt hs bd n i = true ∧ t = i % n then co (ro A i) t ^^^ y else co (ro A i) t) else 0 := fun t i ht hi => by
    unfold wdAt
    rw [co_upto_in hi]
    unfold atF
    cases e : hb hs i
    · rfl
    · rw [if_pos rfl, if_pos rfl, hMr i hi, mds_co (hAr i hi) e ht]
  have hw : ∀ t i, t < n → i < k + m → wrg (co (wdAt hs M (k + m) t)) (fun i => co (ro A i) t) (hb (notM hs)) i = (wrSt hs bd n i && decide (t = i % n)) := fun t i ht hi => by
    unfold wrg
    rw [notM_at (by omega), hz t i ht hi]
    cases e : hb hs i
    · simp [wrSt, e]
    · rw [if_pos rfl]
      by_cases q : wrSt hs bd n i = true ∧ t = i % n
      · rw [if_pos q, q.1, decide_eq_true q.2]
        have : co (ro A i) t ≠ co (ro A i) t ^^^ y := fun e9 => hy (by
          have e2 := congrArg (fun x => co (ro A i) t ^^^ x) e9
          rw [show co (ro A i) t ^^^ co (ro A i) t = 0 from x_self _, show co (ro A i) t ^^^ (co (ro A i) t ^^^ y) = y from x_cancel _ _] at e2
          exact e2.symm)
        simp [this]
      · rw [if_neg q]
        by_cases q2 : wrSt hs bd n i = true
        · have : ¬ t = i % n := fun e9 => q ⟨q2, e9⟩
          simp [this]
        · simp [q2]
  have hN : ∀ t, t < n → Near k m (co (wdAt hs M (k + m) t)) (hb (notM hs)) (fun i => co (ro A i) t) := fun t ht => by
    refine ⟨by rw [hA]; exact col_code h1 h2 hD hE hn ht, ?_⟩
    have e1 : cnt (wrg (co (wdAt hs M (k + m) t)) (fun i => co (ro A i) t) (hb (notM hs))) (k + m) ≤ cnt (wrSt hs bd n) (k + m) := cnt_mono fun i hi q => by
      rw [hw t i ht hi] at q
      simp at q
      exact q.1
    have e2 : cnt (hb (notM hs)) (k + m) = cnt (fun i => !hb hs i) (k + m) := cnt_congr fun i hi => notM_at (by omega)
    omega
  have hP : ∀ t, t < n → pX k m hs M t = 0 ∧ pR k m hs M t = upto (fun i => co (ro A i) t) (k + m) ∧ pP k m hs M t = plc (fun i => wrSt hs bd n i && decide (t = i % n)) (k + m) := fun t ht => by
    obtain ⟨e1, e2, e3⟩ := wd_ok (z := wdAt hs M (k + m) t) (ms := notM hs) okc ⟨by rw [wdAt_length]; omega, by rw [notM_length]; omega⟩ (hN t ht)
    refine ⟨e1, e2, e3.trans ?_⟩
    unfold plc
    exact List.filter_congr fun i hi => hw t i ht (List.mem_range.1 hi)
  obtain ⟨e1, e2, e3⟩ := sh_ok okc hhs hMl hone fun t ht => (hP t ht).1
  rw [← hA, ← hM]
  refine ⟨e1, e2.trans ?_, e3.trans ?_⟩
  · refine ro_ext (by rw [rowsP_length, hAl]) fun i hi => ?_
    rw [rowsP_length] at hi
    rw [rowsP_ro hi]
    refine co_ext (by rw [upto_length, hAr i hi]) fun t ht => ?_
    rw [upto_length] at ht
    rw [co_upto_in ht, (hP t ht).2.1, co_upto_in hi]
  · have hu : ∀ r, r ≤ n → ∀ i, i < k + m → (hurtP k m hs M r i = true ↔ wrSt hs bd n i = true ∧ i % n < r) := by
      intro r
      induction r with
      | zero => intro _ i _; exact ⟨fun q => (by cases q), fun q => absurd q.2 (Nat.not_lt_zero _)⟩
      | succ r ih =>
        intro hr i hi
        show mrkF (hurtP k m hs M r) (pP k m hs M r) i = true ↔ _
        unfold mrkF
        rw [(hP r (by omega)).2.2, Bool.or_eq_true, decide_eq_true_eq, plc_mem, ih (by omega) i hi]
        constructor
        · rintro (⟨a, b⟩ | ⟨_, b⟩)
          · exact ⟨a, by omega⟩
          · simp at b; exact ⟨b.1, by omega⟩
        · rintro ⟨a, b⟩
          by_cases q : i % n = r
          · right; exact ⟨hi, by simp [a, q]⟩
          · left; exact ⟨a, by omega⟩
    unfold plc
    refine List.filter_congr fun i hi => ?_
    have hi' := List.mem_range.1 hi
    rw [Bool.eq_iff_iff, hu n (Nat.le_refl _) i hi']
    constructor
    · exact fun q => q.1
    · intro q
      refine ⟨q, Nat.mod_lt _ ?_⟩
      unfold wrSt at q
      simp at q
      exact q.2.2
end Go.Proofs.YtddnfhfangfgeaaGreat.Gf

namespace Go.Proofs.YtddnfhfangfgeaaGreat.Gf
set_option linter.unusedVariables false
def st (x : Nat) : Nat := if x % 2 = 1 then x / 2 ^^^ 2197175160 else x / 2
def stK : Nat → Nat → Nat
  | 0, x => x
  | k + 1, x => st (stK k x)
/-- a step by a byte -/
def sb (x b : Nat) : Nat := stK 8 (x ^^^ b)
def run : Nat → List UInt8 → Nat
  | x, [] => x
  | x, b :: p => run (sb x b.toNat) p
def nt (x : Nat) : Nat := 4294967295 - x
def more (s : Nat) (p : List UInt8) : Nat := nt (run (nt s) p)
theorem xor32 {a b : Nat} (ha : a < 4294967296) (hb : b < 4294967296) : a ^^^ b < 4294967296 := Nat.xor_lt_two_pow (n := 32) ha hb
theorem nt_lt (x : Nat) : nt x < 4294967296 := by unfold nt; omega
theorem nt_inj {x y : Nat} (hx : x < 4294967296) (hy : y < 4294967296) (h : nt x = nt y) : x = y := by unfold nt at h; omega
theorem nt_xor {x : Nat} (h : x < 4294967296) : nt x = x ^^^ 4294967295 := by
  have e := congrArg BitVec.toNat (BitVec.xor_allOnes (x := BitVec.ofNat 32 x))
  rw [BitVec.toNat_xor, BitVec.toNat_not, BitVec.toNat_allOnes, BitVec.toNat_ofNat, Nat.mod_eq_of_lt (by simpa using h)] at e
  unfold nt
  rw [show (4294967295 : Nat) = 2 ^ 32 - 1 from rfl, e]
theorem st_lt {x : Nat} (h : x < 4294967296) : st x < 4294967296 := by
  unfold st
  split
  · exact xor32 (by omega) (by decide)
  · omega
theorem stK_lt {x : Nat} (h : x < 4294967296) : ∀ k, stK k x < 4294967296
  | 0 => h
  | k + 1 => st_lt (stK_lt h k)
theorem half_xor (x y : Nat) : (x ^^^ y) / 2 = x / 2 ^^^ y / 2 := by
  have h := Nat.shiftRight_xor_distrib (a := x) (b := y) (i := 1)
  simpa [Nat.shiftRight_eq_div_pow] using h
theorem odd_xor (x y : Nat) : (x ^^^ y) % 2 = (x % 2 + y % 2) % 2 := by
  have h := Nat.testBit_xor x y 0
  rw [Nat.testBit_zero, Nat.testBit_zero, Nat.testBit_zero] at h
  rcases Nat.mod_two_eq_zero_or_one x with hx | hx <;> rcases Nat.mod_two_eq_zero_or_one y with hy | hy <;> rcases Nat.mod_two_eq_zero_or_one (x ^^^ y) with hz | hz <;> rw [hx, hy, hz] at h <;> first | (simp at h; done) | (rw [hx, hy, hz])
theorem xo_left (a b c : Nat) : a ^^^ (b ^^^ c) = b ^^^ (a ^^^ c) := by rw [← Nat.xor_assoc, Nat.xor_comm a b, Nat.xor_assoc]
theorem st_xor (x y : Nat) : st (x ^^^ y) = st x ^^^ st y := by
  unfold st
  rw [odd_xor, half_xor]
  rcases Nat.mod_two_eq_zero_or_one x with hx | hx <;> rcases Nat.mod_two_eq_zero_or_one y with hy | hy
  · rw [hx, hy]; simp
  · rw [hx, hy]; simp [Nat.xor_assoc]
  · rw [hx, hy]; simp only [Nat.add_zero, Nat.reduceMod, ↓reduceIte, Nat.zero_ne_one]
    rw [Nat.xor_assoc, Nat.xor_assoc, Nat.xor_comm 2197175160]
  · rw [hx, hy]
    simp only [Nat.reduceAdd, Nat.reduceMod, ↓reduceIte, Nat.zero_ne_one]
    rw [Nat.xor_assoc, xo_left 2197175160, Nat.xor_self, Nat.xor_zero]
theorem stK_xor (x y : Nat) : ∀ k, stK k (x ^^^ y) = stK k x ^^^ stK k y
  | 0 => rfl
  | k + 1 => by rw [stK, stK_xor x y k, st_xor]; rfl
theorem st_zero {x : Nat} (hx : x < 4294967296) (h : st x = 0) : x = 0 := by
  unfold st at h
  split at h
  · have : x / 2 = 2197175160 := by
      have e := congrArg (· ^^^ 2197175160) h
      simp only [Nat.xor_assoc, Nat.xor_self, Nat.xor_zero, Nat.zero_xor] at e
      exact e
    omega
  · omega
theorem stK_zero {x : Nat} (hx : x < 4294967296) : ∀ k, stK k x = 0 → x = 0
  | 0, h => h
  | k + 1, h => stK_zero hx k (st_zero (stK_lt hx k) h)
theorem xor_zero_eq {a b : Nat} (h : a ^^^ b = 0) : a = b := by
  have e := congrArg (· ^^^ b) h
  simp only [Nat.xor_assoc, Nat.xor_self, Nat.xor_zero, Nat.zero_xor] at e
  exact e
theorem byte32 (b : UInt8) : b.toNat < 4294967296 := by have := b.toNat_lt; omega
theorem sb_lt {x : Nat} (hx : x < 4294967296) (b : UInt8) : sb x b.toNat < 4294967296 := stK_lt (xor32 hx (byte32 b)) 8
theorem sb_xor (x y b c : Nat) : sb (x ^^^ y) (b ^^^ c) = sb x b ^^^ sb y c := by
  unfold sb
  rw [← stK_xor]
  congr 1
  rw [Nat.xor_assoc, Nat.xor_assoc, xo_left y]
theorem sb_inj {x y : Nat} (hx : x < 4294967296) (hy : y < 4294967296) (b : UInt8) (h : sb x b.toNat = sb y b.toNat) : x = y := by
  refine xor_zero_eq (stK_zero (xor32 hx hy) 8 ?_)
  have e := sb_xor x y b.toNat b.toNat
  rw [h, Nat.xor_self, Nat.xor_self] at e
  unfold sb at e
  rw [Nat.xor_zero] at e
  exact e
theorem sb_byte {x : Nat} (hx : x < 4294967296) {b c : UInt8} (h : sb x b.toNat = sb x c.toNat) : b = c := by
  have e := sb_xor x x b.toNat c.toNat
  rw [h, Nat.xor_self, Nat.xor_self] at e
  unfold sb at e
  rw [Nat.zero_xor] at e
  have := xor_zero_eq (stK_zero (xor32 (byte32 b) (byte32 c)) 8 e)
  exact UInt8.toNat_inj.1 this
theorem run_lt {x : Nat} (hx : x < 4294967296) (p : List UInt8) : run x p < 4294967296 := by
  induction p generalizing x with
  | nil => exact hx
  | cons b p ih => exact ih (sb_lt hx b)
theorem run_append (x : Nat) (p q : List UInt8) : run x (p ++ q) = run (run x p) q := by
  induction p generalizing x with
  | nil => rfl
  | cons b p ih => exact ih _
theorem run_inj {x y : Nat} (hx : x < 4294967296) (hy : y < 4294967296) (p : List UInt8) (h : run x p = run y p) : x = y := by
  induction p generalizing x y with
  | nil => exact h
  | cons b p ih => exact sb_inj hx hy b (ih (sb_lt hx b) (sb_lt hy b) h)
theorem run_take (x : Nat) (p : List UInt8) {k : Nat} (h : k < p.length) : run x (p.take (k + 1)) = sb (run x (p.take k)) p[k].toNat := by
  rw [List.take_succ_eq_append_getElem h, run_append]; rfl
theorem more_lt (s : Nat) (p : List UInt8) : more s p < 4294967296 := nt_lt _
/-- one byte that is another one is told -/
theorem more_tells {p q : List UInt8} {b c : UInt8} {s : Nat} (hbc : b ≠ c) : more s (p ++ b :: q) ≠ more s (p ++ c :: q) := by
  intro h
  have h1 := nt_inj (run_lt (nt_lt _) _) (run_lt (nt_lt _) _) h
  rw [run_append, run_append] at h1
  have hx : run (nt s) p < 4294967296 := run_lt (nt_lt _) _
  exact hbc (sb_byte hx (run_inj (sb_lt hx b) (sb_lt hx c) q h1))
end Go.Proofs.YtddnfhfangfgeaaGreat.Gf

namespace Go.Proofs.YtddnfhfangfgeaaGreat.Gf
set_option linter.unusedVariables false
set_option linter.unusedSimpArgs false
open Go.RowKit
theorem Below.step {w w1 w2 : World} (h : Below w.heap.size w w1) (k : Below w1.heap.size w1 w2) : Below w.heap.size w w2 := h.trans (k.mono h.size)
theorem rd_nil0 {w : World} : Rd w (.slice none 0 0) [] := Or.inl ⟨none, 0, rfl, rfl, Nat.zero_le _, fun _ => rfl⟩
end Go.Proofs.YtddnfhfangfgeaaGreat.Gf

namespace Go.Proofs.YtddnfhfangfgeaaGreat.Gf
set_option linter.unusedVariables false
set_option linter.unusedSimpArgs false
open Go.RowKit
theorem own_new (w : World) (e : TypeId) : (w.alloc (.cells #[] e)).ownsRow w.heap.size e 1 (.slice (some ⟨w.heap.size, 0, none⟩) 0 0) 0 [] := World.ownsRow_made w #[] 0 (Nat.le_refl _) (Nat.zero_le _) rfl
theorem rd_one {w : World} {N e : Nat} {v : Value} {p : List UInt8} (h : w.ownsRow N e 1 v (0 + p.length) ([] ++ p.map vb)) : Rd w v p := by
  refine Rd.owned (base := N) (e := e) ?_
  rw [Nat.zero_add, List.nil_append] at h
  exact h
theorem tells_set {L : List UInt8} {t : Nat} (ht : t < L.length) {y : UInt8} (hy : y ≠ co L t) : more 0 (L.set t y) ≠ more 0 L := by
  have e1 : L.set t y = L.take t ++ y :: L.drop (t + 1) := by rw [List.set_eq_take_append_cons_drop, if_pos ht]
  have e2 : L = L.take t ++ co L t :: L.drop (t + 1) := by
    rw [co_lt ht]
    conv => lhs; rw [← List.take_append_drop t L, List.drop_eq_getElem_cons ht]
  rw [e1]
  conv => rhs; rw [e2]
  exact more_tells hy
end Go.Proofs.YtddnfhfangfgeaaGreat.Gf

namespace Go.Proofs.YtddnfhfangfgeaaGreat.Gf
set_option linter.unusedVariables false
set_option linter.unusedSimpArgs false
open Go.RowKit
/-- a number's four bytes -/
def fo (n : Nat) : List UInt8 := [UInt8.ofNat (n / 16777216), UInt8.ofNat (n / 65536), UInt8.ofNat (n / 256), UInt8.ofNat n]
/-- the number of four bytes -/
def nu (p : List UInt8) : Nat := (co p 0).toNat * 16777216 + (co p 1).toNat * 65536 + (co p 2).toNat * 256 + (co p 3).toNat
theorem fo_length (n : Nat) : (fo n).length = 4 := rfl
theorem nu_fo {n : Nat} (h : n < 4294967296) : nu (fo n) = n := by
  show (UInt8.ofNat (n / 16777216)).toNat * 16777216 + (UInt8.ofNat (n / 65536)).toNat * 65536 + (UInt8.ofNat (n / 256)).toNat * 256 + (UInt8.ofNat n).toNat = n
  simp only [UInt8.toNat_ofNat']
  omega
theorem four_of {p : List UInt8} (h : p.length = 4) : p = [co p 0, co p 1, co p 2, co p 3] := by
  match p, h with
  | [a, b, c, d], _ => rfl
theorem fo_nu {p : List UInt8} (h : p.length = 4) : fo (nu p) = p := by
  conv => rhs; rw [four_of h]
  have h0 := (co p 0).toNat_lt
  have h1 := (co p 1).toNat_lt
  have h2 := (co p 2).toNat_lt
  have h3 := (co p 3).toNat_lt
  unfold fo
  congr 1
  · apply UInt8.toNat_inj.1
    rw [UInt8.toNat_ofNat']
    unfold nu
    omega
  congr 1
  · apply UInt8.toNat_inj.1
    rw [UInt8.toNat_ofNat']
    unfold nu
    omega
  congr 1
  · apply UInt8.toNat_inj.1
    rw [UInt8.toNat_ofNat']
    unfold nu
    omega
  congr 1
  · apply UInt8.toNat_inj.1
    rw [UInt8.toNat_ofNat']
    unfold nu
    omega
/-- what stands ahead of the check sum -/
def hdS (a e : Nat) (d : List UInt8) : List UInt8 := fo a ++ (fo e ++ d)
/-- a sector -/
def pkS (a e : Nat) (d : List UInt8) : List UInt8 := hdS a e d ++ fo (more 0 (hdS a e d))
theorem hdS_length (a e : Nat) (d : List UInt8) : (hdS a e d).length = d.length + 8 := by
  unfold hdS
  rw [List.length_append, List.length_append, fo_length, fo_length]
  omega
theorem pk_length (a e : Nat) (d : List UInt8) : (pkS a e d).length = d.length + 12 := by
  unfold pkS
  rw [List.length_append, hdS_length, fo_length]
/-- the epoch that stands in bytes, and the data -/
def epS (b : List UInt8) : Nat := nu ((b.drop 4).take 4)
def daS (b : List UInt8) : List UInt8 := (b.drop 8).take (b.length - 12)
theorem daS_length (b : List UInt8) : (daS b).length = b.length - 12 := by unfold daS; rw [List.length_take, List.length_drop]; omega
theorem epS_pk {a e : Nat} (d : List UInt8) (he : e < 4294967296) : epS (pkS a e d) = e := by
  unfold epS
  have : ((pkS a e d).drop 4).take 4 = fo e := rfl
  rw [this, nu_fo he]
theorem daS_pk (a e : Nat) (d : List UInt8) : daS (pkS a e d) = d := by
  unfold daS
  rw [pk_length, Nat.add_sub_cancel]
  have : (pkS a e d).drop 8 = d ++ fo (more 0 (hdS a e d)) := rfl
  rw [this]
  exact List.take_left' rfl
/-- any bytes, part by part -/
theorem partsS {b : List UInt8} (h : 12 ≤ b.length) : b = (b.take 4 ++ ((b.drop 4).take 4 ++ daS b)) ++ b.drop (b.length - 4) := by
  have e1 : b.take (b.length - 4) = b.take 4 ++ ((b.drop 4).take 4 ++ daS b) := by
    have e2 : b.length - 4 = 4 + (4 + (b.length - 12)) := by omega
    rw [e2, List.take_add, List.take_add, List.drop_drop]
    rfl
  rw [← e1, List.take_append_drop]
theorem aheadS {b : List UInt8} (h : 12 ≤ b.length) : b.take (b.length - 4) = b.take 4 ++ ((b.drop 4).take 4 ++ daS b) := by
  have e2 : b.length - 4 = 4 + (4 + (b.length - 12)) := by omega
  rw [e2, List.take_add, List.take_add, List.drop_drop]
  rfl
/-- bytes that are a sector of the place a, told as the document's answer asks it -/
theorem pk_iff {b : List UInt8} {a : Nat} (h : 12 ≤ b.length) (ha : a < 4294967296) : pkS a (epS b) (daS b) = b ↔ (nu (b.take 4) = a ∧ nu (b.drop (b.length - 4)) = more 0 (b.take (b.length - 4))) := by
  have l1 : (b.take 4).length = 4 := by rw [List.length_take]; omega
  have l2 : ((b.drop 4).take 4).length = 4 := by rw [List.length_take, List.length_drop]; omega
  have l3 : (b.drop (b.length - 4)).length = 4 := by rw [List.length_drop]; omega
  have hp := partsS h
  have hh := aheadS h
  constructor
  · intro e
    have e1 : pkS a (epS b) (daS b) = (b.take 4 ++ ((b.drop 4).take 4 ++ daS b)) ++ b.drop (b.length - 4) := e.trans hp
    unfold pkS at e1
    have e2 := List.append_inj e1 (by rw [← hh, hdS_length, daS_length, List.length_take]; omega)
    have e3 : fo a = b.take 4 := (List.append_inj e2.1 (by rw [fo_length, l1])).1
    refine ⟨by rw [← e3, nu_fo ha], ?_⟩
    rw [← e2.2, nu_fo (more_lt _ _), e2.1, hh]
  · rintro ⟨h1, h2⟩
    have e1 : hdS a (epS b) (daS b) = b.take (b.length - 4) := by
      rw [hh]
      unfold hdS epS
      rw [fo_nu l2, ← h1, fo_nu l1]
    unfold pkS
    rw [e1, ← h2, fo_nu l3, List.take_append_drop]
/-- numbers and data that may stand in a sector -/
def OkSe (a e : Int) (n : Nat) : Prop := (0 ≤ a ∧ a ≤ 2147483647) ∧ (0 ≤ e ∧ e ≤ 2147483647) ∧ n ≤ 4096
instance (a e : Int) (n : Nat) : Decidable (OkSe a e n) := inferInstanceAs (Decidable (_ ∧ _ ∧ _))
def paX (a e : Int) (d : List UInt8) : Int := if OkSe a e d.length then 0 else 1
def paR (a e : Int) (d : List UInt8) : List UInt8 := if OkSe a e d.length then pkS a.toNat e.toNat d else []
theorem pa_ok {a e : Int} {d : List UInt8} (h : OkSe a e d.length) : paX a e d = 0 ∧ paR a e d = pkS a.toNat e.toNat d := ⟨if_pos h, if_pos h⟩
theorem pa_not {a e : Int} {d : List UInt8} (h : ¬ OkSe a e d.length) : paX a e d = 1 ∧ paR a e d = [] := ⟨if_neg h, if_neg h⟩
/-- bytes that are a sector of a place -/
def OkUe (a : Int) (b : List UInt8) : Prop := 12 ≤ b.length ∧ OkSe a (epS b : Int) (daS b).length ∧ pkS a.toNat (epS b) (daS b) = b
instance (a : Int) (b : List UInt8) : Decidable (OkUe a b) := inferInstanceAs (Decidable (_ ∧ _ ∧ _))
def upX (a : Int) (b : List UInt8) : Int := if OkUe a b then 0 else 110
def upN (a : Int) (b : List UInt8) : Nat := if OkUe a b then epS b else 0
def upD (a : Int) (b : List UInt8) : List UInt8 := if OkUe a b then daS b else []
theorem up_ok {a : Int} {b : List UInt8} (h : OkUe a b) : upX a b = 0 ∧ upN a b = epS b ∧ upD a b = daS b := ⟨if_pos h, if_pos h, if_pos h⟩
theorem up_not {a : Int} {b : List UInt8} (h : ¬ OkUe a b) : upX a b = 110 ∧ upN a b = 0 ∧ upD a b = [] := ⟨if_neg h, if_neg h, if_neg h⟩
theorem okU_iff {a : Int} {b : List UInt8} : OkUe a b ↔ (12 ≤ b.length ∧ b.length ≤ 4108 ∧ 0 ≤ a ∧ a ≤ 2147483647 ∧ nu (b.drop (b.length - 4)) = more 0 (b.take (b.length - 4)) ∧ nu (b.take 4) = a.toNat ∧ epS b ≤ 2147483647) := by
  unfold OkUe OkSe
  rw [daS_length]
  constructor
  · rintro ⟨h1, ⟨h2, h3, h4⟩, h5⟩
    have h6 := (pk_iff h1 (by omega)).1 h5
    exact ⟨h1, by omega, h2.1, h2.2, h6.2, h6.1, by omega⟩
  · rintro ⟨h1, h2, h3, h4, h5, h6, h7⟩
    exact ⟨h1, ⟨⟨h3, h4⟩, ⟨by omega, by omega⟩, by omega⟩, (pk_iff h1 (by omega)).2 ⟨h6, h5⟩⟩
/-- what is packed is unpacked -/
theorem ok_pk {a e : Int} {d : List UInt8} (h : OkSe a e d.length) : OkUe a (pkS a.toNat e.toNat d) ∧ epS (pkS a.toNat e.toNat d) = e.toNat ∧ daS (pkS a.toNat e.toNat d) = d := by
  have h1 : epS (pkS a.toNat e.toNat d) = e.toNat := epS_pk d (by have := h.2.1; omega)
  have h2 := daS_pk a.toNat e.toNat d
  refine ⟨⟨by rw [pk_length]; omega, ?_, by rw [h1, h2]⟩, h1, h2⟩
  rw [h1, h2, show ((e.toNat : Nat) : Int) = e by have := h.2.1; omega]
  exact h
theorem co_drop0 (p : List UInt8) (n i : Nat) : co (p.drop n) i = co p (n + i) := by unfold co; rw [List.getElem?_drop]
/-- one byte that is another one, anywhere in a sector, is seen -/
theorem pk_tells {a e o : Int} {d : List UInt8} {t : Nat} {y : UInt8} (h : OkSe a e d.length) (ht : t < (pkS a.toNat e.toNat d).length) (hy : y ≠ co (pkS a.toNat e.toNat d) t) : ¬ OkUe o ((pkS a.toNat e.toNat d).set t y) := by
  intro hu
  have hl : ((pkS a.toNat e.toNat d).set t y).length = (pkS a.toNat e.toNat d).length := List.length_set
  have h1 := okU_iff.1 hu
  have h2 := okU_iff.1 (ok_pk h).1
  obtain ⟨_, _, _, _, s1, _⟩ := h1
  obtain ⟨g1, _, _, _, s2, _⟩ := h2
  rw [hl] at s1
  obtain ⟨b, hb⟩ : ∃ b, b = pkS a.toNat e.toNat d := ⟨_, rfl⟩
  rw [← hb] at s1 s2 ht hy g1
  have l3 : (b.drop (b.length - 4)).length = 4 := by rw [List.length_drop]; omega
  by_cases hc : t < b.length - 4
  · have e1 : (b.set t y).drop (b.length - 4) = b.drop (b.length - 4) := by rw [List.drop_set, if_pos hc]
    have e2 : (b.set t y).take (b.length - 4) = (b.take (b.length - 4)).set t y := List.take_set
    rw [e1, e2, s2] at s1
    refine tells_set (L := b.take (b.length - 4)) (t := t) (by rw [List.length_take]; omega) (y := y) ?_ s1.symm
    rw [co_take hc]
    exact hy
  · have e1 : (b.set t y).take (b.length - 4) = b.take (b.length - 4) := by rw [List.take_set_of_le (by omega)]
    rw [e1, ← s2] at s1
    have l4 : ((b.set t y).drop (b.length - 4)).length = 4 := by rw [List.length_drop, List.length_set]; omega
    have e2 : (b.set t y).drop (b.length - 4) = b.drop (b.length - 4) := by rw [← fo_nu l4, ← fo_nu l3, s1]
    have e3 := congrArg (fun z => co z (t - (b.length - 4))) e2
    simp only [co_drop0] at e3
    rw [show b.length - 4 + (t - (b.length - 4)) = t by omega, co_set y ht, if_pos rfl] at e3
    exact hy e3
end Go.Proofs.YtddnfhfangfgeaaGreat.Gf

namespace Go.Proofs.YtddnfhfangfgeaaGreat.Gf
set_option linter.unusedVariables false
set_option linter.unusedSimpArgs false
open Go.RowKit
open Go.ChangeShapes
theorem rdI_row2 {w : World} {a : Option Addr} {len cap : Nat} {zs : List Int}
    (h : (a = none ∧ len = 0 ∧ cap = 0 ∧ zs = []) ∨ ∃ x, a = some x ∧ len ≤ cap ∧ cap ≤ maxLen ∧ zs.length = cap ∧ (∀ i, i < zs.length → w.cell? (x.add i) = some (.int .i64 (zs.getD i 0))) ∧ ∀ n ∈ zs, (Lit.int .i64 n).wf = true) :
    ∃ p : List Int, RdI w (.slice a len cap) p ∧ ∀ z ∈ p, (Lit.int .i64 z).wf = true := by
  rcases h with ⟨rfl, rfl, rfl, rfl⟩ | ⟨x, rfl, hl, hm, hz, hcell, hwz⟩
  · exact ⟨[], Or.inl ⟨none, 0, rfl, rfl⟩, by simp⟩
  · have hlen : (zs.take len).length = len := by rw [List.length_take]; omega
    refine ⟨zs.take len, ?_, fun z hz1 => hwz z (List.mem_of_mem_take hz1)⟩
    by_cases h0 : len = 0
    · subst h0
      exact Or.inl ⟨_, cap, by simp, rfl⟩
    · obtain ⟨b, off, spot⟩ := x
      have hc := hcell 0 (by omega)
      have hspot : spot = none := by simpa [Addr.add] using World.cell?_spot hc
      subst hspot
      have hbw : b < w.heap.size := by
        have e : w.cell? ⟨b, off, none⟩ = some (.int .i64 (zs.getD 0 0)) := by simpa [Addr.add] using hc
        unfold World.cell? at e
        by_cases hb : b < w.heap.size
        · exact hb
        · rw [Array.getElem?_eq_none (by show w.heap.size ≤ b; omega)] at e; cases e
      refine Or.inr ⟨b, off, cap, fun h => by rw [h] at hlen; simp at hlen; omega, by rw [hlen], by rw [hlen]; omega, hbw, fun i hi => ?_⟩
      rw [hlen] at hi
      have e1 := hcell i (by omega)
      rw [add_at] at e1
      rw [e1]
      simp [List.getD, List.getElem?_take_of_lt hi]
end Go.Proofs.YtddnfhfangfgeaaGreat.Gf

namespace Go.Proofs.YtddnfhfangfgeaaGreat.Gf
set_option linter.unusedVariables false
set_option linter.unusedSimpArgs false
open Go.RowKit
open Go.ChangeShapes
theorem seven {cs : List Value} (h : cs.length = 7) : ∃ v0 v1 v2 v3 v4 v5 v6, cs = [v0, v1, v2, v3, v4, v5, v6] := by
  match cs, h with
  | [a, b, c, d, e, f, g], _ => exact ⟨a, b, c, d, e, f, g, rfl⟩
end Go.Proofs.YtddnfhfangfgeaaGreat.Gf

