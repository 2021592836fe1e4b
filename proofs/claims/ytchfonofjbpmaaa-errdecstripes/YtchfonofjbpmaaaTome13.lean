/- TEXTS JOINED: WdCG, WdCH, WdAwM, BkEven, WdAwake, WdInts. -/
import Derived.Test.YtchfonofjbpmaaaTome12
import Derived.BigQuiet
import Derived.Deep.OwnRows
import Derived.Test.YtchfonofjbpmaaaTome3
import Derived.Test.YtchfonofjbpmaaaTome1
import Derived.Test.YtchfonofjbpmaaaTome8
/-
  THE PROGRAM's 'oneLength', 'wordAt', 'lay' (package errdec) BY CONTRACT.
-/

namespace Go.Proofs.Ytchfonofjbpmaaa.Gf
set_option linter.unusedVariables false
set_option linter.unusedSimpArgs false
open Go.RowKit

/-- the length of the first of the first r places; of none -1 -/
def flZ (Z : List Nat) (L : List (List UInt8)) (r : Nat) : Int := if r = 0 then -1 else (((ro L (Z.getD 0 0)).length : Nat) : Int)

set_option maxRecDepth 100000 in
set_option maxHeartbeats 2000000 in
theorem eonl_any {va vb : Value} {h : List Bool} {L : List (List UInt8)} {w : World} (hH : RdB w va h) (hL : Rs w vb L) (hlen : h.length = L.length) (hl : h.length ≤ 300) : Calls Try.prog 35 #[va, vb] w fun e w' => e = .returned (.int .i64 (oneX h L)) ∧ Below w.heap.size w w' := by
  obtain ⟨a, c, rfl⟩ := hH.form
  obtain ⟨a', c', rfl⟩ := hL.form
  have hlen' : Hid _ := hlen
  clear hlen
  go_enter Try.func35, Try.ntmps35
  go_wp2_with fail
  refine (epl_any hH hl).mono ?_
  rintro e u ⟨v, rfl, O1, B1⟩
  obtain ⟨ga, gc, rfl⟩ := O1.form
  have hL1 := hL.below B1
  obtain ⟨Z, hZ⟩ : ∃ Z, Hid (Z = plc (hb h) h.length) := ⟨_, rfl⟩
  rw [← hZ.out] at O1 ⊢
  clear hH hL
  have hin : Hid (∀ j, j < Z.length → Z.getD j 0 < L.length ∧ hb h (Z.getD j 0) = true) := fun j hj => by
    rw [hZ.out] at hj ⊢
    have hm := plc_mem.1 (getD_mem hj)
    exact ⟨by rw [← hlen'.out]; exact hm.1, hm.2⟩
  have HP : Hid (∀ j, j < Z.length → ∃ qb, ga = some ⟨qb, 0, none⟩ ∧ u.cell? ⟨qb, j, none⟩ = some (.int .i64 ((Z.getD j 0 : Nat) : Int))) := fun j hj => by
    obtain ⟨qb, e1, _, _, e4⟩ := O1.cell hj
    exact ⟨qb, e1, e4⟩
  have HB : Hid _ := B1
  have hZl : Z.length ≤ 300 := by rw [hZ.out, plc_length]; have := cnt_le (hb h) h.length; omega
  clear O1 B1
  go_wp2_with fail
  go_loop [5, 11] (fun x i => ∃ r : Nat, r ≤ Z.length ∧ i = .int .i64 (r : Int) ∧ x = .int .i64 (flZ Z L r) ∧ Hid (∀ j, j < r → (ro L (Z.getD j 0)).length = (ro L (Z.getD 0 0)).length)) (fun _ i => Z.length - (intOf i).toNat)
  case atStart => exact ⟨0, by omega, rfl, rfl, fun j hj => by omega⟩
  case round =>
    obtain ⟨r, hr, rfl, rfl, hI⟩ := hrel
    by_cases hlt : r < Z.length
    · have hlt' : (r : Int) < (Z.length : Int) := by omega
      obtain ⟨qb, rfl, cq⟩ := HP.out r hlt
      obtain ⟨hx, hbx⟩ := hin.out r hlt
      have hl1 := hL1.len
      unfold maxLen at hl1
      obtain ⟨bb, off, xa, xc, rfl, _, cl, rl⟩ := hL1.at hx
      have hll := rl.len
      unfold maxLen at hll
      by_cases r0 : r = 0
      · subst r0
        have E0 : flZ Z L 0 = -1 := rfl
        have E1 : Hid (flZ Z L 1 = (((ro L (Z.getD 0 0)).length : Nat) : Int)) := rfl
        have HI : Hid (∀ j, j < 0 + 1 → (ro L (Z.getD j 0)).length = (ro L (Z.getD 0 0)).length) := fun j hj => by rw [show j = 0 by omega]
        rw [E0]
        obtain ⟨x, hxx⟩ : ∃ x, Hid (x = Z.getD 0 0) := ⟨_, rfl⟩
        rw [← hxx.out] at cq hx cl rl E1 hll
        obtain ⟨l, hl9⟩ : ∃ l, Hid (l = (ro L x).length) := ⟨_, rfl⟩
        rw [← hl9.out] at cl rl E1 hll
        have hx' : (x : Int) < (L.length : Int) := by omega
        clear rl hbx E0 hI
        go_wp2
        go_round
        case rel => exact ⟨1, by omega, by go_num, by rw [E1.out], HI⟩
        case measure => simp [intOf]; omega
      · have E0 : flZ Z L r = (((ro L (Z.getD 0 0)).length : Nat) : Int) := if_neg r0
        have E1 : Hid (flZ Z L (r + 1) = (((ro L (Z.getD 0 0)).length : Nat) : Int)) := if_neg (by omega)
        rw [E0]
        have h0b := (hin.out 0 (by omega)).2
        by_cases e : (ro L (Z.getD r 0)).length = (ro L (Z.getD 0 0)).length
        · have HI : Hid (∀ j, j < r + 1 → (ro L (Z.getD j 0)).length = (ro L (Z.getD 0 0)).length) := fun j hj => by
            by_cases ej : j = r
            · rw [ej]; exact e
            · exact hI.out j (by omega)
          rw [e] at cl rl hll
          obtain ⟨x, hxx⟩ : ∃ x, Hid (x = Z.getD r 0) := ⟨_, rfl⟩
          rw [← hxx.out] at cq hx cl
          have hx' : (x : Int) < (L.length : Int) := by omega
          have hn0 : ¬ ((ro L (Z.getD 0 0)).length : Int) < 0 := by omega
          clear rl hbx E0 hI e h0b hll
          go_wp2
          go_round
          case rel => exact ⟨r + 1, by omega, by go_num, by rw [E1.out], HI⟩
          case measure => simp [intOf]; omega
        · have EX : Hid (oneX h L = -1) := oneX_odd hbx h0b e
          obtain ⟨x, hxx⟩ : ∃ x, Hid (x = Z.getD r 0) := ⟨_, rfl⟩
          rw [← hxx.out] at cq hx cl e
          obtain ⟨l, hl9⟩ : ∃ l, Hid (l = (ro L (Z.getD 0 0)).length) := ⟨_, rfl⟩
          obtain ⟨l2, hl8⟩ : ∃ l2, Hid (l2 = (ro L x).length) := ⟨_, rfl⟩
          rw [← hl9.out] at e ⊢
          rw [← hl8.out] at e cl
          have hx' : (x : Int) < (L.length : Int) := by omega
          have hn0 : ¬ (l : Int) < 0 := by omega
          have hq : ((l2 : Int) != (l : Int)) = true := by simp; omega
          clear rl hbx E0 hI e h0b hll E1
          go_wp2
          try rw [Exit.noGoto_ret]
          go_ret
          exact ⟨by rw [EX.out]; rfl, HB.out⟩
    · have hge : ¬ (r : Int) < (Z.length : Int) := by omega
      have er : r = Z.length := by omega
      have EX : Hid (oneX h L = flZ Z L r) := by
        show _ = _
        have hmem : ∀ i, hb h i = true → i ∈ Z := fun i hi => by rw [hZ.out]; exact plc_mem.2 ⟨hb_in hi, hi⟩
        by_cases h0 : Z.length = 0
        · have : Z = [] := List.length_eq_zero_iff.1 h0
          rw [er, h0, oneX_none (fun ⟨i, hi⟩ => by have := hmem i hi; rw [‹Z = []›] at this; simp at this)]
          rfl
        · rw [show flZ Z L r = (((ro L (Z.getD 0 0)).length : Nat) : Int) from if_neg (by omega)]
          refine oneX_ok ⟨_, (hin.out 0 (by omega)).2⟩ fun i hi => ?_
          obtain ⟨j, hj, e⟩ := List.getElem_of_mem (hmem i hi)
          have := hI.out j (by omega)
          rw [show Z.getD j 0 = i by simp [List.getD, hj, e]] at this
          exact this
      clear hI er
      generalize flZ Z L r = fz at *
      go_wp2
      try rw [Exit.noGoto_ret]
      go_ret
      exact ⟨by rw [EX.out]; rfl, HB.out⟩

/-- the word of the first r places -/
def watF (h : List Bool) (L : List (List UInt8)) (t : Nat) (Z : List Nat) (r i : Nat) : UInt8 := if i ∈ Z.take r then co (ro L i) t else 0
theorem watF_all {h : List Bool} {L : List (List UInt8)} {t : Nat} {Z : List Nat} {i : Nat} : watF h L t Z Z.length i = if i ∈ Z then co (ro L i) t else 0 := by unfold watF; rw [List.take_length]
theorem watF_step {h : List Bool} {L : List (List UInt8)} {t : Nat} {Z : List Nat} {r : Nat} (hr : r < Z.length) (i : Nat) : watF h L t Z (r + 1) i = if i = Z.getD r 0 then co (ro L (Z.getD r 0)) t else watF h L t Z r i := by
  have e : Z.take (r + 1) = Z.take r ++ [Z.getD r 0] := by
    rw [List.take_add_one, List.getElem?_eq_getElem hr]
    simp [List.getD, hr]
  unfold watF
  rw [e]
  by_cases q : i = Z.getD r 0
  · rw [if_pos q, q, if_pos (by simp)]
  · rw [if_neg q]
    simp only [List.mem_append, List.mem_singleton, q, or_false]

set_option maxRecDepth 100000 in
set_option maxHeartbeats 2000000 in
theorem ewat_any {va vb : Value} {h : List Bool} {L : List (List UInt8)} {w : World} {t : Nat} (hH : RdB w va h) (hL : Rs w vb L) (hlen : h.length = L.length) (hl : h.length ≤ 300) (ht : ∀ i, hb h i = true → t < (ro L i).length) {x : Int} (hx : x = (t : Int)) : Calls Try.prog 37 #[va, vb, .int .i64 x] w fun e w' => ∃ v, e = .returned v ∧ Rd w' v (wdAt h L L.length t) ∧ Below w.heap.size w w' := by
  subst hx
  obtain ⟨a, c, rfl⟩ := hH.form
  obtain ⟨a', c', rfl⟩ := hL.form
  obtain ⟨i0, hi, hz0, hz1, hz2⟩ := info_parts info_u8
  have hlen' : Hid _ := hlen
  have hl2 : L.length ≤ 300 := by omega
  have ht' : Hid _ := ht
  clear hlen ht
  obtain ⟨n, hn⟩ : ∃ n, Hid (n = L.length) := ⟨_, rfl⟩
  rw [← hn.out] at hl2 ⊢
  go_enter Try.func37, Try.ntmps37
  go_wp2_with (at_make; go_loud (refine wpList_make_full _ rfl (.tmp 11) (.tmp 11) 22 rfl w.heap.size 5 i0 (.int .u8 0) 1 Try.underlying22 hi hz0 hz1 _ _ _ _ n rfl rfl (by omega) (by omega) (by rw [hz2]; omega) (by unfold maxLen; omega) (Nat.le_refl _) ?_); intro w1 hown1 hgrow1)
  have R1 : RowF w1 w.heap.size 5 w.heap.size n n (fun _ => 0) := RowF.made hown1
  have B1 : Below w.heap.size w w1 := (Below.refl _ _).grown hgrow1 (Nat.le_refl _) (fun k h => by cases h)
  clear hown1 hgrow1
  go_wp2_with fail
  refine (epl_any (hH.below B1) hl).mono ?_
  rintro e u ⟨v, rfl, O1, b1⟩
  obtain ⟨ga, gc, rfl⟩ := O1.form
  obtain ⟨Z, hZ⟩ : ∃ Z, Hid (Z = plc (hb h) h.length) := ⟨_, rfl⟩
  rw [← hZ.out] at O1 ⊢
  have g1 := R1.lt.2
  have hin : Hid (∀ j, j < Z.length → Z.getD j 0 < n ∧ hb h (Z.getD j 0) = true) := fun j hj => by
    rw [hZ.out] at hj ⊢
    have hm := plc_mem.1 (getD_mem hj)
    exact ⟨by rw [hn.out, ← hlen'.out]; exact hm.1, hm.2⟩
  have HP : Hid (∀ j, j < Z.length → ∃ qb, ga = some ⟨qb, 0, none⟩ ∧ qb ≠ w.heap.size ∧ u.cell? ⟨qb, j, none⟩ = some (.int .i64 ((Z.getD j 0 : Nat) : Int))) := fun j hj => by
    obtain ⟨qb, e1, _, e3, e4⟩ := O1.cell hj
    exact ⟨qb, e1, by omega, e4⟩
  have HB : Hid _ := Below.next B1 b1
  have R3 : RowF u w.heap.size 5 w.heap.size n n (fun _ => 0) := owns_later R1 b1
  have R2 : RowF u w.heap.size 5 w.heap.size n n (watF h L t Z 0) := R3.congr fun i hi => by simp [watF]
  have hZl : Z.length ≤ 300 := by rw [hZ.out, plc_length]; have := cnt_le (hb h) h.length; omega
  clear O1 B1 b1 R1 hH R3
  go_wp2_with fail
  go_loopw [16] (fun x wr => ∃ i : Nat, i ≤ Z.length ∧ x = .int .i64 i ∧ Only w.heap.size u wr ∧ RowF wr w.heap.size 5 w.heap.size n n (watF h L t Z i)) (fun x _ => Z.length - (intOf x).toNat)
  case atStart => exact ⟨0, by omega, rfl, Only.refl _ _, R2⟩
  case round =>
    obtain ⟨r, hr, rfl, hO, hRw⟩ := hrel
    clear R2
    have hB : Below w.heap.size w wr := HB.out.trans (hO.below (Nat.le_refl _))
    by_cases hlt : r < Z.length
    · have hlt' : (r : Int) < (Z.length : Int) := by omega
      obtain ⟨qb, rfl, hqg, cq⟩ := HP.out r hlt
      have cq2 := (hO.cell (p := ⟨qb, r, none⟩) hqg).trans cq
      obtain ⟨hx, hbx⟩ := hin.out r hlt
      have E := watF_step (h := h) (L := L) (t := t) (Z := Z) hlt
      have htl := ht'.out _ hbx
      obtain ⟨bb, off, xa, xc, rfl, _, cl, rl⟩ := (hL.below hB).at (by rw [← hn.out]; exact hx)
      obtain ⟨x, hxx⟩ : ∃ x, Hid (x = Z.getD r 0) := ⟨_, rfl⟩
      rw [← hxx.out] at cq2 hx E htl cl rl
      obtain ⟨b3, o3, rfl, _, cb⟩ := rl.byte htl
      obtain ⟨l, hl9⟩ : ∃ l, Hid (l = (ro L x).length) := ⟨_, rfl⟩
      rw [← hl9.out] at cl htl
      have hx' : (x : Int) < (n : Int) := by omega
      have htl' : (t : Int) < (l : Int) := by omega
      have c1 := hRw.cell hx
      have f1 := hRw.unfrozen x
      have HN : Hid (RowF (wr.setCell ⟨w.heap.size, x, none⟩ (.int .u8 ((co (ro L x) t).toNat : Nat))) w.heap.size 5 w.heap.size n n (watF h L t Z (r + 1))) := hRw.store hx _ fun s => E s
      have HO : Hid (Only w.heap.size u (wr.setCell ⟨w.heap.size, x, none⟩ (.int .u8 ((co (ro L x) t).toNat : Nat)))) := hO.setCell x _
      clear hRw hO rl E cq hbx hB hL
      go_wp2
      go_roundw
      case rel => exact ⟨r + 1, by omega, by go_num, HO.out, HN.out⟩
      case measure => simp [intOf]; omega
    · have hge : ¬ (r : Int) < (Z.length : Int) := by omega
      have er : r = Z.length := by omega
      have HR : Hid (Rd wr (.slice (some ⟨w.heap.size, 0, none⟩) n n) (wdAt h L n t)) := by
        show Rd _ _ _
        have := (hRw.congr (f' := atF h L t) (fun i hi => by
          rw [er, watF_all]
          unfold atF
          have hm : i ∈ Z ↔ hb h i = true := by rw [hZ.out, plc_mem]; exact ⟨fun q => q.2, fun q => ⟨hb_in q, q⟩⟩
          by_cases q : hb h i = true
          · rw [if_pos (hm.2 q), if_pos q]
          · rw [if_neg (fun e => q (hm.1 e)), if_neg q])).rd
        exact this
      clear hRw er hL
      go_wp2
      try rw [Exit.noGoto_ret]
      go_ret
      exact ⟨_, rfl, HR.out, hB⟩

theorem lay_set {R : List (List UInt8)} {p : List UInt8} {n r : Nat} (h : r < n) : (mkL n (layF R p r)).set r (ro R r ++ [co p r]) = mkL n (layF R p (r + 1)) := by
  refine ro_ext (by rw [List.length_set, mkL_length, mkL_length]) fun i hi => ?_
  rw [List.length_set, mkL_length] at hi
  rw [ro_set (by rw [mkL_length]; exact h), ro_mkL hi, ro_mkL hi]
  by_cases e : i = r
  · rw [if_pos e, e, layF_new]
  · rw [if_neg e, layF_step e]

set_option maxRecDepth 100000 in
set_option maxHeartbeats 2000000 in
/-- a word's bytes are laid behind shards of the caller's own -/
theorem elay_any {vw : Value} {w : World} {base G n C : Nat} {p : List UInt8} {R : List (List UInt8)} {P : Nat → Prop} (hR : OsP w base 22 5 (.slice (some ⟨G, 0, none⟩) n C) R P) (hP : ∀ q, P q → q < w.heap.size) (hp : Rd w vw p) (hv : ∀ x n c, vw = .slice (some x) n c → P x.block) (hpl : p.length = n) (hRl : R.length = n) (hn : n ≤ 300) (hsm : ∀ i, (ro R i).length ≤ 100000) (hbw : base ≤ w.heap.size) :
    Calls Try.prog 38 #[.slice (some ⟨G, 0, none⟩) n C, vw] w fun e w' => e = .returned (.tuple #[]) ∧ OsP w' base 22 5 (.slice (some ⟨G, 0, none⟩) n C) (mkL n (layF R p n)) P ∧ Keep P w w' := by
  obtain ⟨i0, hi, hz0, hz1, hz2⟩ := info_parts info_u8
  obtain ⟨a, c, rfl⟩ := hp.form
  rw [hpl] at hp hv ⊢
  have hpl' : Hid _ := hpl
  have hRl' : Hid _ := hRl
  have hsm' : Hid _ := hsm
  have hP' : Hid _ := hP
  have hv' : Hid _ := hv
  have R0 : OsP w base 22 5 (.slice (some ⟨G, 0, none⟩) n C) (mkL n (layF R p 0)) P := hR.as (by rw [layF_zero, ← hRl, mkL_ro])
  clear hR hpl hRl hsm hP hv
  go_enter Try.func38, Try.ntmps38
  go_wp2_with fail
  go_loopw [8] (fun x wr => ∃ r : Nat, r ≤ n ∧ x = .int .i64 (r : Int) ∧ OsP wr base 22 5 (.slice (some ⟨G, 0, none⟩) n C) (mkL n (layF R p r)) P ∧ Keep P w wr) (fun x _ => n - (intOf x).toNat)
  case atStart => exact ⟨0, by omega, rfl, R0, Keep.refl _ _⟩
  case round =>
    obtain ⟨r, hr, rfl, hO, hK⟩ := hrel
    clear R0
    have hlen : Hid ((mkL n (layF R p r)).length = n) := mkL_length _ _
    by_cases hlt : r < n
    · have hlt' : (r : Int) < (n : Int) := by omega
      obtain ⟨bb, off, rfl, _, cb⟩ := (hK.rd hp hv'.out).byte (i := r) (by rw [hpl'.out]; exact hlt)
      obtain ⟨x, cx, fx, gb, gl, ox, hnl, hput⟩ := hO.spot (k := r) (by rw [hlen.out]; exact hlt)
      rw [ro_mkL hlt, layF_old] at ox
      have hl5 := hsm'.out r
      have hput' : Hid _ := hput
      obtain ⟨xa, xc, rfl⟩ := owns_form ox
      have hsw := hK.size
      have A1 : Hid (Below wr.heap.size wr (wr.alloc (.cells #[.int .u8 ((co p r).toNat : Nat)] 5))) := (Below.refl _ _).alloc (Nat.le_refl _) _
      have hPs : Hid (∀ q, P q → q < (wr.alloc (.cells #[.int .u8 ((co p r).toNat : Nat)] 5)).heap.size) := fun q hq => by have := hP'.out q hq; simp; omega
      have hox : Hid _ := ox
      clear ox hO hput hnl
      go_wp2_with (at_builtin; go_loud (refine wpList_append_rd2 _ rfl (.tmp 18) (.tmp 20) 22 rfl base 5 i0 Try.underlying22 hi hz0 hz1 hz2 (.slice xa (ro R r).length xc) (ro R r).length ((ro R r).map vb) rfl (owns_later hox.out A1.out) _ [co p r] rfl (rd_lit (n := 1) [co p r] rfl rfl (by decide)) (by simp; omega) (by simp; omega) ?_); intro x' w7 hx7 hg7 hb7; have hq7 := hput'.out _ _ x' (ro R r ++ [co p r]) A1.out hg7 (by unfold OwnP; rw [List.length_append, List.map_append]; exact hx7) hb7 hPs.out; obtain ⟨c7, f7, o7, k7⟩ := hq7; obtain ⟨ya, yc, rfl⟩ := owns_form hx7)
      rw [lay_set hlt] at o7
      have HO : Hid _ := o7
      have HK : Hid (Keep P w (w7.setCell ⟨G, r, none⟩ (.slice ya ((ro R r).length + [co p r].length) yc))) := hK.trans (k7.mono fun q hq => ⟨hq, by have := hP'.out q hq; omega⟩)
      clear o7 k7 hx7 hg7 hb7 c7 f7 cx fx cb hK hput' hox
      try go_wp2
      go_roundw
      case rel => exact ⟨r + 1, by omega, by go_num, HO.out, HK.out⟩
      case measure => simp [intOf]; omega
    · have hge : ¬ (r : Int) < (n : Int) := by omega
      have er : r = n := by omega
      rw [er] at hO
      clear er hp
      go_wp2
      go_end0
      exact ⟨rfl, hO, hK⟩

end Go.Proofs.Ytchfonofjbpmaaa.Gf

/-
  THE PROGRAM's 'Shards' (package errdec) BY CONTRACT.
-/



namespace Go.Proofs.Ytchfonofjbpmaaa.Gf
set_option linter.unusedVariables false
set_option linter.unusedSimpArgs false
open Go.RowKit

/-- what is left: shards, places, an error -/
def MakesS10 (w : World) (X : Int) (R : List (List UInt8)) (P : List Nat) (e : Ending) (w' : World) : Prop := ∃ va vd, e = .returned (.tuple #[va, vd, .int .i64 X]) ∧ Rs w' va R ∧ OwnI w' w.heap.size 3 vd P ∧ Below w.heap.size w w'
theorem nilS10 {w w' : World} {x : Int} (b : Below w.heap.size w w') {X : Int} {R : List (List UInt8)} {P : List Nat} (h : X = x ∧ R = [] ∧ P = []) : MakesS10 w X R P (.returned (.tuple #[.slice none 0 0, .slice none 0 0, .int .i64 x])) w' := by
  obtain ⟨rfl, rfl, rfl⟩ := h
  exact ⟨_, _, rfl, rs_none, OwnI.nil _ _ _, b⟩
theorem info_bytes10 : (Try.prog.info? 22).map (fun i => (i.zero, i.size, i.bytes)) = some (some (.slice none 0 0), 1, 24) := by kernel_rfl

theorem made_owns (w : World) {base e n : Nat} {z : Value} (hb : base ≤ w.heap.size) (hn : n ≤ 1000000) : (w.alloc (.cells (madeCells #[z] n) e)).ownsRow base e 1 (.slice (some ⟨w.heap.size, 0, none⟩) n n) n (List.replicate n z) := by
  have h1 : (madeCells #[z] n).toList = List.replicate n z := toList_madeCells_one _ _
  have h2 : (madeCells #[z] n).size = n := by rw [← Array.length_toList, h1, List.length_replicate]
  exact ⟨by rw [List.length_replicate, Nat.mul_one], .inr ⟨w.heap.size, n, _, rfl, hb, heap_alloc_new w _, Nat.le_refl _, by unfold maxLen; omega, by rw [h2, Nat.mul_one], by rw [h1, Nat.mul_one, List.take_of_length_le (by rw [List.length_replicate]; exact Nat.le_refl _)]⟩⟩
theorem made_owns' (w : World) {base e n g : Nat} {z : Value} (hg : g = w.heap.size) (hb : base ≤ w.heap.size) (hn : n ≤ 1000000) : (w.alloc (.cells (madeCells #[z] n) e)).ownsRow base e 1 (.slice (some ⟨g, 0, none⟩) n n) n (List.replicate n z) := by
  subst hg
  exact made_owns w hb hn
theorem bool_made {w : World} {base e g n : Nat} (h : w.ownsRow base e 1 (.slice (some ⟨g, 0, none⟩) n n) n (List.replicate n (.bool false))) : BoolF w base e g n (fun _ => false) := by
  unfold BoolF
  have e2 : (List.range n).map (fun _ => Value.bool false) = List.replicate n (.bool false) := by
    rw [List.map_const']; simp
  rw [e2]; exact h

set_option maxRecDepth 100000 in
set_option maxHeartbeats 2000000 in
theorem esh_bad {b : Nat} {k m : Int} {vh vl : Value} {hs : List Bool} {L : List (List UInt8)} {w : World} (h : ¬ OkC k m) (hH : RdB w vh hs) (hL : Rs w vl L) : Calls Try.prog 16 #[.pointer (some ⟨b, 0, none⟩), .int .i64 k, .int .i64 m, vh, vl] w (MakesS10 w (shX k m hs L) (shR k m hs L) (shP k m hs L)) := by
  have EE : Hid _ := sh_bad (hs := hs) (L := L) h
  obtain ⟨za, zc, rfl⟩ := hH.form
  obtain ⟨ma, mc, rfl⟩ := hL.form
  clear hH hL
  go_enter Try.func16, Try.ntmps16
  go_wp2_with fail
  go_step3
  go_wp2_with fail
  refine (wts_bad w h).mono ?_
  rintro e w2 ⟨vs, rfl, hR, b2⟩
  obtain ⟨sa, sc, rfl⟩ := hR.form
  clear hR h
  go_wp2
  try rw [Exit.noGoto_ret]
  exact bodyPost_ret (v := .tuple #[.slice none 0 0, .slice none 0 0, .int .i64 50]) (by simp [results, Try.results16, go_sem]) rfl (nilS10 b2 EE.out)

set_option maxRecDepth 100000 in
set_option maxHeartbeats 2000000 in
/-- .. where the lengths do not fit -/
theorem esh_lens {b k m s : Nat} {vh vl : Value} {hs : List Bool} {L : List (List UInt8)} {w : World} (hF : FieldAt w b) (h1 : 1 ≤ k) (h2 : k + m ≤ 256) (hH : RdB w vh hs) (hL : Rs w vl L) (hs0 : s = k + m) (hne : hs.length ≠ s ∨ L.length ≠ s) : Calls Try.prog 16 #[.pointer (some ⟨b, 0, none⟩), .int .i64 (k : Int), .int .i64 (m : Int), vh, vl] w (MakesS10 w (shX k m hs L) (shR k m hs L) (shP k m hs L)) := by
  have c : OkC (k : Int) (m : Int) := ⟨by omega, by omega, by omega⟩
  have EE : Hid _ := sh_shard (hs := hs) (L := L) c (fun h => by have h1 := h.1; have h2 := h.2.1; rcases hne with e | e <;> omega)
  obtain ⟨za, zc, rfl⟩ := hH.form
  obtain ⟨ma, mc, rfl⟩ := hL.form
  have g1 : (k : Int) + (m : Int) = (s : Int) := by omega
  have gw : IntKind.i64.wrap (s : Int) = (s : Int) := by rw [IntKind.wrap_i64]; omega
  have W1 := wts_ok (w := w) hF h1 h2 rfl rfl
  have hs0' : Hid _ := hs0
  clear hF hs0 hH hL c
  by_cases p1 : hs.length = s
  · have q1 : ((hs.length : Int) != (s : Int)) = false := by simp [p1]
    have p2 : L.length ≠ s := hne.resolve_left (fun h => h p1)
    have q2 : ((L.length : Int) != (s : Int)) = true := by simp; omega
    clear p1 p2 hne
    go_enter Try.func16, Try.ntmps16
    go_wp2_with fail
    go_step3
    go_wp2_with fail
    refine W1.mono ?_
    rintro e w2 ⟨vs, rfl, hR, b2⟩
    obtain ⟨sa, sc, rfl⟩ := hR.form
    clear hR W1
    go_wp2
    try rw [Exit.noGoto_ret]
    exact bodyPost_ret (v := .tuple #[.slice none 0 0, .slice none 0 0, .int .i64 60]) (by simp [results, Try.results16, go_sem]) rfl (nilS10 b2 EE.out)
  · have q1 : ((hs.length : Int) != (s : Int)) = true := by simp; omega
    clear p1 hne
    go_enter Try.func16, Try.ntmps16
    go_wp2_with fail
    go_step3
    go_wp2_with fail
    refine W1.mono ?_
    rintro e w2 ⟨vs, rfl, hR, b2⟩
    obtain ⟨sa, sc, rfl⟩ := hR.form
    clear hR W1
    go_wp2
    try rw [Exit.noGoto_ret]
    exact bodyPost_ret (v := .tuple #[.slice none 0 0, .slice none 0 0, .int .i64 60]) (by simp [results, Try.results16, go_sem]) rfl (nilS10 b2 EE.out)

set_option maxRecDepth 100000 in
set_option maxHeartbeats 4000000 in
theorem esh_main {b k m s : Nat} {vh vl : Value} {hs : List Bool} {L : List (List UInt8)} {w : World} (hF : FieldAt w b) (h1 : 1 ≤ k) (h2 : k + m ≤ 256) (hH : RdB w vh hs) (hL : Rs w vl L) (hs0 : s = k + m) (p1 : hs.length = s) (p2 : L.length = s) (hsm : ∀ i, hb hs i = true → (ro L i).length ≤ 300) : Calls Try.prog 16 #[.pointer (some ⟨b, 0, none⟩), .int .i64 (k : Int), .int .i64 (m : Int), vh, vl] w (MakesS10 w (shX k m hs L) (shR k m hs L) (shP k m hs L)) := by
  have c : OkC (k : Int) (m : Int) := ⟨by omega, by omega, by omega⟩
  have HNo : Hid (oneX hs L = -1 → _) := fun h => sh_shard (k := (k : Int)) (m := (m : Int)) (hs := hs) (L := L) c (fun q => q.2.2 h)
  have HMany : Hid (∀ n t : Nat, oneX hs L = (n : Int) → t < n → pX k m hs L t ≠ 0 → _) := fun n t h3 ht hx => sh_many c (by omega) (by omega) h3 ht hx
  have HOk : Hid (∀ n : Nat, oneX hs L = (n : Int) → (∀ t, t < n → pX k m hs L t = 0) → _) := fun n h3 hx => sh_ok c (by omega) (by omega) h3 hx
  have HT : Hid (∀ t, _) := fun t => pX_told (L := L) (t := t) h1 h2 (show hs.length = k + m by omega)
  obtain ⟨za, zc, rfl⟩ := hH.form
  obtain ⟨ma, mc, rfl⟩ := hL.form
  have g1 : (k : Int) + (m : Int) = (s : Int) := by omega
  have gw : IntKind.i64.wrap (s : Int) = (s : Int) := by rw [IntKind.wrap_i64]; omega
  have W1 := wts_ok (w := w) hF h1 h2 rfl rfl
  have hs256 : s ≤ 256 := by omega
  have hs0' : Hid _ := hs0
  have p1' : Hid _ := p1
  have p2' : Hid _ := p2
  have hsm' : Hid _ := hsm
  rw [p1] at hH ⊢
  rw [p2] at hL ⊢
  clear hs0 c p1 p2 hsm
  go_enter Try.func16, Try.ntmps16
  go_wp2_with fail
  go_step3
  go_wp2_with fail
  refine W1.mono ?_
  rintro e w2 ⟨vs, rfl, hR, b2⟩
  obtain ⟨sa, sc, rfl⟩ := hR.form
  clear W1
  go_wp2_with fail
  refine (eonl_any (hH.below b2) (hL.below b2) (by rw [p1'.out, p2'.out]) (by rw [p1'.out]; omega)).mono ?_
  rintro e w3 ⟨rfl, b3⟩
  have B3 := Below.next b2 b3
  have R3 := hR.below b3
  clear b2 b3 hR
  rcases oneX_cases hs L with e0 | ⟨n, e0, hn, hex⟩
  · have EE : Hid _ := HNo.out e0
    rw [e0]
    clear HNo HMany HOk HT R3 hF hH hL e0
    go_wp2
    try rw [Exit.noGoto_ret]
    exact bodyPost_ret (v := .tuple #[.slice none 0 0, .slice none 0 0, .int .i64 60]) (by simp [results, Try.results16, go_sem]) rfl (nilS10 B3 EE.out)
  · have hn300 : n ≤ 300 := by
      obtain ⟨i, hi⟩ := hex
      rw [← hn i hi]
      exact hsm'.out i hi
    have HMany2 : Hid (∀ t, t < n → pX k m hs L t ≠ 0 → _) := fun t => HMany.out n t e0
    have HOk2 : Hid ((∀ t, t < n → pX k m hs L t = 0) → _) := HOk.out n e0
    have hn' : Hid _ := hn
    rw [e0]
    have hn0 : ¬ (n : Int) < 0 := by omega
    clear HNo HMany HOk e0 hn hex
    obtain ⟨WS, hWS⟩ : ∃ WS, Hid (WS = upto (wtF k m) (k + m)) := ⟨_, rfl⟩
    rw [← hWS.out] at R3 ⊢
    go_wp2_with fail
    refine (eopp_any (hH.below B3) (by rw [p1'.out]; omega)).mono ?_
    rintro e w4 ⟨vo, rfl, M4, b4⟩
    obtain ⟨oa, oc, rfl⟩ := M4.form
    have hnl : Hid ((notM hs).length = s) := by show _ = _; rw [notM_length, p1'.out]
    rw [hnl.out] at M4 ⊢
    have B4 := Below.next B3 b4
    have R4 := R3.below b4
    clear R3 b4 B3
    go_wp2_with fail
    refine (erig_any (hF.below B4) R4 M4 (by rw [hnl.out]; omega)).mono ?_
    rintro e w5 ⟨gb, mb, fb, kb, nb, sb, wb, vg, vn, rfl, T5, O5, N5, b5⟩
    rw [hnl.out, hs0'.out] at O5 N5
    have B5 := Below.next B4 b5
    have R5 := R4.below b5
    have M5 := M4.below b5
    clear R4 M4 b5 B4
    have mk1 := run_make_row' (P := Try.prog) 36 22 (.slice none 0 0) 24 Try.underlying36 info_bytes10 rfl .i64 .i64 s (by omega) (by omega)
    have mk2 := run_make_row' (P := Try.prog) 23 4 (.bool false) 1 Try.underlying23 info_bool10 rfl .i64 .i64 s (by omega) (by omega)
    go_wp2_with fail
    go_region
    · -- ORDER A
      obtain ⟨G, hG0⟩ : ∃ G, Hid (G = w5.heap.size) := ⟨_, rfl⟩
      obtain ⟨H, hH0⟩ : ∃ H, Hid (H = w5.heap.size + 1) := ⟨_, rfl⟩
      obtain ⟨u6, hu6⟩ : ∃ u6, u6 = ((w5.alloc (.cells (madeCells #[.slice none 0 0] s) 22)).alloc (.cells (madeCells #[.bool false] s) 4)).drew := ⟨_, rfl⟩
      rw [← hu6]
      rw [← hH0.out, ← hG0.out]
      have hGH : G ≠ H := by rw [hG0.out, hH0.out]; omega
      have s6 : u6.heap.size = w5.heap.size + 2 := by rw [hu6]; show (World.alloc _ _).heap.size = _; simp
      have B6 : Below w5.heap.size w5 u6 := by rw [hu6]; exact (below_lit (below_lit (Below.refl _ _) _) _).drew
      have O6 : OsP u6 w5.heap.size 22 5 (.slice (some ⟨G, 0, none⟩) s s) (rowsP k m hs L 0) (fun q => q < w5.heap.size ∨ q = H) := by
        rw [rowsP_zero, ← hs0'.out]
        refine OsP.blank (cs := List.replicate s (.slice none 0 0)) ?_ (fun y hy => List.eq_of_mem_replicate hy) (fun q hq => by have h9 := hG0.out; rcases hq with h | h <;> omega)
        rw [hu6, hG0.out]
        exact World.ownsRow.alloc (made_owns w5 (Nat.le_refl _) (by omega)) _
      have F6 : BoolF u6 w5.heap.size 4 H s (hurtP k m hs L 0) := by
        refine bool_made ?_
        rw [hu6, hH0.out]
        exact made_owns' (w5.alloc (.cells (madeCells #[.slice none 0 0] s) 22)) (by simp) (by simp) (by omega)
      clear hu6
      -- BODY
      have hG5 : w5.heap.size ≤ G ∧ G < w5.heap.size + 2 := by have := hG0.out; omega
      have hH5 : w5.heap.size ≤ H ∧ H < w5.heap.size + 2 := by have := hH0.out; omega
      have s6' : Hid (w5.heap.size + 2 ≤ u6.heap.size) := by show _ ≤ _; omega
      have HA : Hid (∀ W, Below w5.heap.size w5 W → ∀ v t, Rd W v (wdAt hs L (k + m) t) → Calls Try.prog 54 #[v, .pointer (some ⟨gb, 0, none⟩), .pointer (some ⟨mb, 0, none⟩), .pointer (some ⟨fb, 0, none⟩), .pointer (some ⟨kb, 0, none⟩), .pointer (some ⟨nb, 0, none⟩), .pointer (some ⟨sb, 0, none⟩), .pointer (some ⟨wb, 0, none⟩)] W (Makes10 W (pX k m hs L t) (pR k m hs L t) (pP k m hs L t))) := fun W h v t r =>
        erig1_any ((hF.below B5).below h) (T5.below h) (owns_later O5 h) (N5.below h) (M5.below h) (by have := R5.below h; rw [hWS.out] at this ⊢; exact this) r h1 h2 (wdAt_length _ _ _ _) (by rw [hnl.out]; exact hs0'.out)
      have HWd : Hid (∀ W, Below w5.heap.size w5 W → ∀ t, t < n → Calls Try.prog 37 #[.slice za s zc, .slice ma s mc, .int .i64 (t : Int)] W fun e w' => ∃ v, e = .returned v ∧ Rd w' v (wdAt hs L (k + m) t) ∧ Below W.heap.size W w') := fun W h t ht => by
        have := ewat_any ((hH.below B5).below h) ((hL.below B5).below h) (by rw [p1'.out, p2'.out]) (by rw [p1'.out]; omega) (t := t) (fun i hi => by rw [hn'.out i hi]; exact ht) rfl
        rw [p2'.out, hs0'.out] at this
        rw [hs0'.out]
        exact this
      have HB5 : Hid _ := B5
      clear mk1 mk2 hG0 hH0 s6 hF hH hL T5 O5 N5 M5 R5 B5
      go_wp2_with fail
      go_step3
      go_wp2_with fail
      go_loopw [14, 68] (fun er x wr => ∃ r : Nat, r ≤ n ∧ er = .int .i64 0 ∧ x = .int .i64 (r : Int) ∧ Below w5.heap.size w5 wr ∧ OsP wr w5.heap.size 22 5 (.slice (some ⟨G, 0, none⟩) s s) (rowsP k m hs L r) (fun q => q < w5.heap.size ∨ q = H) ∧ BoolF wr w5.heap.size 4 H s (hurtP k m hs L r) ∧ Hid (∀ t, t < r → pX k m hs L t = 0) ∧ Hid (w5.heap.size + 2 ≤ wr.heap.size)) (fun _ x _ => n - (intOf x).toNat)
      case atStart => exact ⟨0, by omega, rfl, rfl, B6, O6, F6, fun t ht => by omega, s6'⟩
      case round =>
        obtain ⟨r, hr, rfl, rfl, hB, hO, hBo, hX, hsz⟩ := hrel
        clear B6 O6 F6 s6'
        by_cases hlt : r < n
        · have hlt' : (r : Int) < (n : Int) := by omega
          have C1 := HWd.out wr hB r hlt
          go_wp2_with fail
          refine C1.mono ?_
          rintro e w7 ⟨vw, rfl, R7, b7⟩
          have B7 : Below w5.heap.size w5 w7 := Below.next hB b7
          have C2 := HA.out w7 B7 vw r R7
          obtain ⟨va, vc, rfl⟩ := R7.form
          clear C1
          go_wp2_with fail
          refine C2.mono ?_
          rintro e w8 ⟨vx, vd, rfl, R8, O8, b8, f8⟩
          obtain ⟨xa, xc, rfl⟩ := R8.form
          obtain ⟨da, dc, rfl⟩ := O8.form
          have B8 := Below.next B7 b8
          have b78 := Below.next b7 b8
          have F8 := f8.mono b7.size
          have h7s : Hid (wr.heap.size ≤ w7.heap.size) := b7.size
          clear C2 R7 b7 b8 f8 B7
          rcases HT.out r with ⟨e1, e2, e3⟩ | ⟨e1, e2, e3, e4⟩
          · have EE : Hid _ := HMany2.out r hlt (by rw [e1]; decide)
            have HBB : Hid (Below w.heap.size w w8) := Below.next HB5.out B8
            rw [e1]
            clear e1 e2 e3 R8 O8 B8 b78 F8 hO hBo hB hX
            go_wp2
            rw [Exit.noGoto_ret]
            exact bodyPost_ret (v := .tuple #[.slice none 0 0, .slice none 0 0, .int .i64 100]) (by simp [results, Try.results16, go_sem]) rfl (nilS10 HBB.out EE.out)
          · have HX : Hid (∀ t, t < r + 1 → pX k m hs L t = 0) := fun t ht => by
              by_cases q : t = r
              · rw [q]; exact e1
              · exact hX.out t (by omega)
            rw [e1]
            have sz8 := b78.size
            have szr := hsz.out
            have O8' : OsP w8 w5.heap.size 22 5 (.slice (some ⟨G, 0, none⟩) s s) (rowsP k m hs L r) (fun q => (q < w5.heap.size ∨ q = H) ∨ (wr.heap.size ≤ q ∧ q < w8.heap.size)) := hO.later b78 (fun q hq => by
              rcases hq with h | h
              · exact Or.inl h
              · exact Or.inr h.1)
            have C3 := elay_any O8' (fun q hq => by rcases hq with (h | h) | h <;> omega) R8 (fun x n' c' e => by
              obtain ⟨bb, off, e9, h9, _⟩ := R8.byte (i := 0) (by rw [e2]; omega)
              subst e9
              simp at e
              have h8 := F8 _ _ _ rfl
              rw [← e.1]
              exact Or.inr ⟨h8, h9⟩) (by rw [e2, hs0'.out]) (by rw [rowsP_length, hs0'.out]) (by omega) (fun i => by
              rcases Nat.lt_or_ge i (k + m) with h | h
              · rw [rowsP_ro h, upto_length]; omega
              · rw [ro_ge (by rw [rowsP_length]; exact h)]; simp) (by omega)
            have hBo8 : BoolF w8 w5.heap.size 4 H s (hurtP k m hs L r) := owns_later hBo b78
            have h77 : wr.heap.size ≤ w7.heap.size := h7s.out
            have E2 : Hid _ := e2
            have E3 : Hid _ := e3
            have E4 : Hid _ := e4
            clear hO hBo hB F8 R8 O8' e1 e2 e3 e4
            go_wp2_with fail
            refine C3.mono ?_
            rintro e w9 ⟨rfl, O9, K9⟩
            have O9' : OsP w9 w5.heap.size 22 5 (.slice (some ⟨G, 0, none⟩) s s) (rowsP k m hs L (r + 1)) (fun q => (q < w5.heap.size ∨ q = H) ∨ (wr.heap.size ≤ q ∧ q < w8.heap.size)) := O9.as (by
              rw [hs0'.out]
              refine ro_ext (by rw [mkL_length, rowsP_length]) fun i hi => ?_
              rw [mkL_length] at hi
              rw [ro_mkL hi]
              exact rowsP_next hi)
            have O9i : OwnI w9 w7.heap.size 3 (.slice da (pP k m hs L r).length dc) (pP k m hs L r) := K9.owns O8 fun q hq => by
              have := World.ownsRow.lt O8 q hq
              exact Or.inr ⟨by omega, this.2⟩
            have B9 : Below w5.heap.size w5 w9 := B8.trans (K9.below fun q hq => Or.inl (Or.inl hq))
            have hBo9 := hBo8.keep K9 (Or.inl (Or.inr rfl))
            have C4 := emark_any (O9i.rd (by have := E4.out; omega)) (by have := E4.out; omega) (by rw [hs0'.out]; exact E3.out) hBo9 (fun b9 off9 m9 c9 e9 => by
              simp at e9
              have h9 := World.ownsRow.lt O9i b9 (by
                obtain ⟨_, ⟨q1, _⟩ | ⟨gq, capq, curq, q1, _⟩⟩ := O9i
                · simp at q1; rw [q1.1] at e9; simp at e9
                · simp at q1; rw [q1.1] at e9; simp at e9; rw [q1.1]; simp [Value.ownBlock]; exact e9.1.1)
              omega)
            have K9s := K9.size
            clear C3 O9 hBo8 O8 K9 B8
            go_wp2_with fail
            refine C4.mono ?_
            rintro e w10 ⟨rfl, ho, hB10⟩
            have HO : Hid (OsP w10 w5.heap.size 22 5 (.slice (some ⟨G, 0, none⟩) s s) (rowsP k m hs L (r + 1)) (fun q => q < w5.heap.size ∨ q = H)) := (O9'.only ho (Or.inl (Or.inr rfl))).less fun q hq => Or.inl hq
            have HBo : Hid (BoolF w10 w5.heap.size 4 H s (hurtP k m hs L (r + 1))) := hB10
            have HB : Hid (Below w5.heap.size w5 w10) := B9.trans (ho.below hH5.1)
            have HS : Hid (w5.heap.size + 2 ≤ w10.heap.size) := by show _ ≤ _; rw [ho.size]; omega
            clear C4 ho hB10 O9' hBo9 O9i B9 b78
            go_wp2
            go_roundw
            case rel => exact ⟨r + 1, by omega, rfl, by go_num, HB.out, HO.out, HBo.out, HX, HS⟩
            case measure => simp [intOf]; omega
        · have hge : ¬ (r : Int) < (n : Int) := by omega
          have er : r = n := by omega
          have EE : Hid _ := HOk2.out (fun t ht => hX.out t (by omega))
          have C1 := epl_any (hBo.rdB (by omega)) (by simp; omega)
          have hl9 : Hid (((List.range s).map (hurtP k m hs L r)).length = s) := by show _ = _; simp
          have hp9 : Hid (plc (hb ((List.range s).map (hurtP k m hs L r))) s = shP (k : Int) (m : Int) hs L) := by
            show _ = _
            rw [EE.out.2.2, er, ← hs0'.out]
            exact List.filter_congr fun i hi => by have := List.mem_range.1 hi; simp [hb, List.getD, this]
          have HR : Hid (Rs wr (.slice (some ⟨G, 0, none⟩) s s) (shR (k : Int) (m : Int) hs L)) := by
            show Rs _ _ _
            rw [EE.out.2.1, ← er]
            exact hO.os.rs
          have HBr : Hid _ := Below.next HB5.out hB
          clear hO hBo hX er hB
          go_wp2_with fail
          refine C1.mono ?_
          rintro e w7 ⟨vd, rfl, O7, b7⟩
          rw [hl9.out, hp9.out] at O7
          obtain ⟨da, dc, rfl⟩ := O7.form
          have HO : Hid (OwnI w7 w.heap.size 3 (.slice da (shP (k : Int) (m : Int) hs L).length dc) (shP (k : Int) (m : Int) hs L)) := ownsRow_base O7 HBr.out.size
          have HR7 : Hid _ := HR.out.below b7
          have HB7 : Hid _ := Below.next HBr.out b7
          clear C1 O7 b7
          go_wp2
          try rw [Exit.noGoto_ret]
          exact bodyPost_ret (v := .tuple #[.slice (some ⟨G, 0, none⟩) s s, .slice da (shP (k : Int) (m : Int) hs L).length dc, .int .i64 0]) (by simp [results, Try.results16, go_sem]) rfl ⟨_, _, by rw [EE.out.1], HR7.out, HO.out, HB7.out⟩
    · -- ORDER B
      obtain ⟨G, hG0⟩ : ∃ G, Hid (G = w5.heap.size + 1) := ⟨_, rfl⟩
      obtain ⟨H, hH0⟩ : ∃ H, Hid (H = w5.heap.size) := ⟨_, rfl⟩
      obtain ⟨u6, hu6⟩ : ∃ u6, u6 = ((w5.alloc (.cells (madeCells #[.bool false] s) 4)).alloc (.cells (madeCells #[.slice none 0 0] s) 22)).drew := ⟨_, rfl⟩
      rw [← hu6]
      rw [← hG0.out, ← hH0.out]
      have hGH : G ≠ H := by rw [hG0.out, hH0.out]; omega
      have s6 : u6.heap.size = w5.heap.size + 2 := by rw [hu6]; show (World.alloc _ _).heap.size = _; simp
      have B6 : Below w5.heap.size w5 u6 := by rw [hu6]; exact (below_lit (below_lit (Below.refl _ _) _) _).drew
      have O6 : OsP u6 w5.heap.size 22 5 (.slice (some ⟨G, 0, none⟩) s s) (rowsP k m hs L 0) (fun q => q < w5.heap.size ∨ q = H) := by
        rw [rowsP_zero, ← hs0'.out]
        refine OsP.blank (cs := List.replicate s (.slice none 0 0)) ?_ (fun y hy => List.eq_of_mem_replicate hy) (fun q hq => by have h9 := hG0.out; rcases hq with h | h <;> omega)
        rw [hu6, hG0.out]
        exact made_owns' (w5.alloc (.cells (madeCells #[.bool false] s) 4)) (by simp) (by simp) (by omega)
      have F6 : BoolF u6 w5.heap.size 4 H s (hurtP k m hs L 0) := by
        refine bool_made ?_
        rw [hu6, hH0.out]
        exact World.ownsRow.alloc (made_owns w5 (Nat.le_refl _) (by omega)) _
      clear hu6
      -- BODY
      have hG5 : w5.heap.size ≤ G ∧ G < w5.heap.size + 2 := by have := hG0.out; omega
      have hH5 : w5.heap.size ≤ H ∧ H < w5.heap.size + 2 := by have := hH0.out; omega
      have s6' : Hid (w5.heap.size + 2 ≤ u6.heap.size) := by show _ ≤ _; omega
      have HA : Hid (∀ W, Below w5.heap.size w5 W → ∀ v t, Rd W v (wdAt hs L (k + m) t) → Calls Try.prog 54 #[v, .pointer (some ⟨gb, 0, none⟩), .pointer (some ⟨mb, 0, none⟩), .pointer (some ⟨fb, 0, none⟩), .pointer (some ⟨kb, 0, none⟩), .pointer (some ⟨nb, 0, none⟩), .pointer (some ⟨sb, 0, none⟩), .pointer (some ⟨wb, 0, none⟩)] W (Makes10 W (pX k m hs L t) (pR k m hs L t) (pP k m hs L t))) := fun W h v t r =>
        erig1_any ((hF.below B5).below h) (T5.below h) (owns_later O5 h) (N5.below h) (M5.below h) (by have := R5.below h; rw [hWS.out] at this ⊢; exact this) r h1 h2 (wdAt_length _ _ _ _) (by rw [hnl.out]; exact hs0'.out)
      have HWd : Hid (∀ W, Below w5.heap.size w5 W → ∀ t, t < n → Calls Try.prog 37 #[.slice za s zc, .slice ma s mc, .int .i64 (t : Int)] W fun e w' => ∃ v, e = .returned v ∧ Rd w' v (wdAt hs L (k + m) t) ∧ Below W.heap.size W w') := fun W h t ht => by
        have := ewat_any ((hH.below B5).below h) ((hL.below B5).below h) (by rw [p1'.out, p2'.out]) (by rw [p1'.out]; omega) (t := t) (fun i hi => by rw [hn'.out i hi]; exact ht) rfl
        rw [p2'.out, hs0'.out] at this
        rw [hs0'.out]
        exact this
      have HB5 : Hid _ := B5
      clear mk1 mk2 hG0 hH0 s6 hF hH hL T5 O5 N5 M5 R5 B5
      go_wp2_with fail
      go_step3
      go_wp2_with fail
      go_loopw [14, 68] (fun er x wr => ∃ r : Nat, r ≤ n ∧ er = .int .i64 0 ∧ x = .int .i64 (r : Int) ∧ Below w5.heap.size w5 wr ∧ OsP wr w5.heap.size 22 5 (.slice (some ⟨G, 0, none⟩) s s) (rowsP k m hs L r) (fun q => q < w5.heap.size ∨ q = H) ∧ BoolF wr w5.heap.size 4 H s (hurtP k m hs L r) ∧ Hid (∀ t, t < r → pX k m hs L t = 0) ∧ Hid (w5.heap.size + 2 ≤ wr.heap.size)) (fun _ x _ => n - (intOf x).toNat)
      case atStart => exact ⟨0, by omega, rfl, rfl, B6, O6, F6, fun t ht => by omega, s6'⟩
      case round =>
        obtain ⟨r, hr, rfl, rfl, hB, hO, hBo, hX, hsz⟩ := hrel
        clear B6 O6 F6 s6'
        by_cases hlt : r < n
        · have hlt' : (r : Int) < (n : Int) := by omega
          have C1 := HWd.out wr hB r hlt
          go_wp2_with fail
          refine C1.mono ?_
          rintro e w7 ⟨vw, rfl, R7, b7⟩
          have B7 : Below w5.heap.size w5 w7 := Below.next hB b7
          have C2 := HA.out w7 B7 vw r R7
          obtain ⟨va, vc, rfl⟩ := R7.form
          clear C1
          go_wp2_with fail
          refine C2.mono ?_
          rintro e w8 ⟨vx, vd, rfl, R8, O8, b8, f8⟩
          obtain ⟨xa, xc, rfl⟩ := R8.form
          obtain ⟨da, dc, rfl⟩ := O8.form
          have B8 := Below.next B7 b8
          have b78 := Below.next b7 b8
          have F8 := f8.mono b7.size
          have h7s : Hid (wr.heap.size ≤ w7.heap.size) := b7.size
          clear C2 R7 b7 b8 f8 B7
          rcases HT.out r with ⟨e1, e2, e3⟩ | ⟨e1, e2, e3, e4⟩
          · have EE : Hid _ := HMany2.out r hlt (by rw [e1]; decide)
            have HBB : Hid (Below w.heap.size w w8) := Below.next HB5.out B8
            rw [e1]
            clear e1 e2 e3 R8 O8 B8 b78 F8 hO hBo hB hX
            go_wp2
            rw [Exit.noGoto_ret]
            exact bodyPost_ret (v := .tuple #[.slice none 0 0, .slice none 0 0, .int .i64 100]) (by simp [results, Try.results16, go_sem]) rfl (nilS10 HBB.out EE.out)
          · have HX : Hid (∀ t, t < r + 1 → pX k m hs L t = 0) := fun t ht => by
              by_cases q : t = r
              · rw [q]; exact e1
              · exact hX.out t (by omega)
            rw [e1]
            have sz8 := b78.size
            have szr := hsz.out
            have O8' : OsP w8 w5.heap.size 22 5 (.slice (some ⟨G, 0, none⟩) s s) (rowsP k m hs L r) (fun q => (q < w5.heap.size ∨ q = H) ∨ (wr.heap.size ≤ q ∧ q < w8.heap.size)) := hO.later b78 (fun q hq => by
              rcases hq with h | h
              · exact Or.inl h
              · exact Or.inr h.1)
            have C3 := elay_any O8' (fun q hq => by rcases hq with (h | h) | h <;> omega) R8 (fun x n' c' e => by
              obtain ⟨bb, off, e9, h9, _⟩ := R8.byte (i := 0) (by rw [e2]; omega)
              subst e9
              simp at e
              have h8 := F8 _ _ _ rfl
              rw [← e.1]
              exact Or.inr ⟨h8, h9⟩) (by rw [e2, hs0'.out]) (by rw [rowsP_length, hs0'.out]) (by omega) (fun i => by
              rcases Nat.lt_or_ge i (k + m) with h | h
              · rw [rowsP_ro h, upto_length]; omega
              · rw [ro_ge (by rw [rowsP_length]; exact h)]; simp) (by omega)
            have hBo8 : BoolF w8 w5.heap.size 4 H s (hurtP k m hs L r) := owns_later hBo b78
            have h77 : wr.heap.size ≤ w7.heap.size := h7s.out
            have E2 : Hid _ := e2
            have E3 : Hid _ := e3
            have E4 : Hid _ := e4
            clear hO hBo hB F8 R8 O8' e1 e2 e3 e4
            go_wp2_with fail
            refine C3.mono ?_
            rintro e w9 ⟨rfl, O9, K9⟩
            have O9' : OsP w9 w5.heap.size 22 5 (.slice (some ⟨G, 0, none⟩) s s) (rowsP k m hs L (r + 1)) (fun q => (q < w5.heap.size ∨ q = H) ∨ (wr.heap.size ≤ q ∧ q < w8.heap.size)) := O9.as (by
              rw [hs0'.out]
              refine ro_ext (by rw [mkL_length, rowsP_length]) fun i hi => ?_
              rw [mkL_length] at hi
              rw [ro_mkL hi]
              exact rowsP_next hi)
            have O9i : OwnI w9 w7.heap.size 3 (.slice da (pP k m hs L r).length dc) (pP k m hs L r) := K9.owns O8 fun q hq => by
              have := World.ownsRow.lt O8 q hq
              exact Or.inr ⟨by omega, this.2⟩
            have B9 : Below w5.heap.size w5 w9 := B8.trans (K9.below fun q hq => Or.inl (Or.inl hq))
            have hBo9 := hBo8.keep K9 (Or.inl (Or.inr rfl))
            have C4 := emark_any (O9i.rd (by have := E4.out; omega)) (by have := E4.out; omega) (by rw [hs0'.out]; exact E3.out) hBo9 (fun b9 off9 m9 c9 e9 => by
              simp at e9
              have h9 := World.ownsRow.lt O9i b9 (by
                obtain ⟨_, ⟨q1, _⟩ | ⟨gq, capq, curq, q1, _⟩⟩ := O9i
                · simp at q1; rw [q1.1] at e9; simp at e9
                · simp at q1; rw [q1.1] at e9; simp at e9; rw [q1.1]; simp [Value.ownBlock]; exact e9.1.1)
              omega)
            have K9s := K9.size
            clear C3 O9 hBo8 O8 K9 B8
            go_wp2_with fail
            refine C4.mono ?_
            rintro e w10 ⟨rfl, ho, hB10⟩
            have HO : Hid (OsP w10 w5.heap.size 22 5 (.slice (some ⟨G, 0, none⟩) s s) (rowsP k m hs L (r + 1)) (fun q => q < w5.heap.size ∨ q = H)) := (O9'.only ho (Or.inl (Or.inr rfl))).less fun q hq => Or.inl hq
            have HBo : Hid (BoolF w10 w5.heap.size 4 H s (hurtP k m hs L (r + 1))) := hB10
            have HB : Hid (Below w5.heap.size w5 w10) := B9.trans (ho.below hH5.1)
            have HS : Hid (w5.heap.size + 2 ≤ w10.heap.size) := by show _ ≤ _; rw [ho.size]; omega
            clear C4 ho hB10 O9' hBo9 O9i B9 b78
            go_wp2
            go_roundw
            case rel => exact ⟨r + 1, by omega, rfl, by go_num, HB.out, HO.out, HBo.out, HX, HS⟩
            case measure => simp [intOf]; omega
        · have hge : ¬ (r : Int) < (n : Int) := by omega
          have er : r = n := by omega
          have EE : Hid _ := HOk2.out (fun t ht => hX.out t (by omega))
          have C1 := epl_any (hBo.rdB (by omega)) (by simp; omega)
          have hl9 : Hid (((List.range s).map (hurtP k m hs L r)).length = s) := by show _ = _; simp
          have hp9 : Hid (plc (hb ((List.range s).map (hurtP k m hs L r))) s = shP (k : Int) (m : Int) hs L) := by
            show _ = _
            rw [EE.out.2.2, er, ← hs0'.out]
            exact List.filter_congr fun i hi => by have := List.mem_range.1 hi; simp [hb, List.getD, this]
          have HR : Hid (Rs wr (.slice (some ⟨G, 0, none⟩) s s) (shR (k : Int) (m : Int) hs L)) := by
            show Rs _ _ _
            rw [EE.out.2.1, ← er]
            exact hO.os.rs
          have HBr : Hid _ := Below.next HB5.out hB
          clear hO hBo hX er hB
          go_wp2_with fail
          refine C1.mono ?_
          rintro e w7 ⟨vd, rfl, O7, b7⟩
          rw [hl9.out, hp9.out] at O7
          obtain ⟨da, dc, rfl⟩ := O7.form
          have HO : Hid (OwnI w7 w.heap.size 3 (.slice da (shP (k : Int) (m : Int) hs L).length dc) (shP (k : Int) (m : Int) hs L)) := ownsRow_base O7 HBr.out.size
          have HR7 : Hid _ := HR.out.below b7
          have HB7 : Hid _ := Below.next HBr.out b7
          clear C1 O7 b7
          go_wp2
          try rw [Exit.noGoto_ret]
          exact bodyPost_ret (v := .tuple #[.slice (some ⟨G, 0, none⟩) s s, .slice da (shP (k : Int) (m : Int) hs L).length dc, .int .i64 0]) (by simp [results, Try.results16, go_sem]) rfl ⟨_, _, by rw [EE.out.1], HR7.out, HO.out, HB7.out⟩

theorem esh_any {b : Nat} {k m : Int} {vh vl : Value} {hs : List Bool} {L : List (List UInt8)} {w : World} (hF : FieldAt w b) (hH : RdB w vh hs) (hL : Rs w vl L) (hsm : ∀ i, hb hs i = true → (ro L i).length ≤ 300) : Calls Try.prog 16 #[.pointer (some ⟨b, 0, none⟩), .int .i64 k, .int .i64 m, vh, vl] w (MakesS10 w (shX k m hs L) (shR k m hs L) (shP k m hs L)) := by
  by_cases c : OkC k m
  · obtain ⟨k, m, rfl, rfl, h1, h2⟩ := c.nat
    by_cases p1 : hs.length = k + m
    · by_cases p2 : L.length = k + m
      · exact esh_main hF h1 h2 hH hL rfl p1 p2 hsm
      · exact esh_lens hF h1 h2 hH hL rfl (Or.inr p2)
    · exact esh_lens hF h1 h2 hH hL rfl (Or.inl p1)
  · exact esh_bad c hH hL

end Go.Proofs.Ytchfonofjbpmaaa.Gf

/-
  PLAIN MATHEMATICS: the words of the document's examples of layer 10. No program is named here.
-/

namespace Go.Proofs.Ytchfonofjbpmaaa.Gf
set_option linter.unusedVariables false
set_option linter.unusedSimpArgs false

theorem aw_code1 : CodeW 1 2 (co [5, 5, 140]) := fun l hl => by
  rcases l with _ | _ | l
  · decide +kernel
  · decide +kernel
  · omega
theorem aw_code2 : CodeW 1 2 (co [14, 14, 7]) := fun l hl => by
  rcases l with _ | _ | l
  · decide +kernel
  · decide +kernel
  · omega
theorem aw_okc : OkC ((1 : Nat) : Int) ((2 : Nat) : Int) := ⟨by decide, by decide, by decide⟩
theorem aw1 : wdX 1 2 [5, 9, 140] [false, false, false] = 0 ∧ wdR 1 2 [5, 9, 140] [false, false, false] = [5, 5, 140] ∧ wdP 1 2 [5, 9, 140] [false, false, false] = [1] := by
  have h : Near 1 2 (co [5, 9, 140]) (hb [false, false, false]) (co [5, 5, 140]) := ⟨aw_code1, by decide +kernel⟩
  have := wd_ok (k := 1) (m := 2) (z := [5, 9, 140]) (ms := [false, false, false]) aw_okc ⟨rfl, rfl⟩ h
  obtain ⟨e1, e2, e3⟩ := this
  refine ⟨e1, e2.trans (by decide +kernel), e3.trans (by decide +kernel)⟩
/-- a word of the code of one data shard and two of parity -/
theorem aw_par {c : Nat → UInt8} (hc : CodeW 1 2 c) : c 1 = c 0 ∧ c 2 = mu (iv 2) (c 0) := by
  have hu : (upto c 1).length = 1 := upto_length _ _
  have h1 := enc_code (k := 1) (m := 2) (by decide) (by decide) hc (i := 1) (by decide)
  have h2 := enc_code (k := 1) (m := 2) (by decide) (by decide) hc (i := 2) (by decide)
  have g1 := encC_par (p := upto c 1) (k := 1) (m := 2) (i := 0) hu (by decide) (by decide)
  have g2 := encC_par (p := upto c 1) (k := 1) (m := 2) (i := 1) hu (by decide) (by decide)
  rw [show (1 : Nat) + 0 = 1 from rfl, h1] at g1
  rw [show (1 : Nat) + 1 = 2 from rfl, h2] at g2
  have e0 : co (upto c 1) 0 = c 0 := co_upto_in (by decide)
  have f1 : parF 1 0 0 = 1 := by decide +kernel
  have f2 : parF 1 1 0 = iv 2 := by decide +kernel
  constructor
  · rw [g1]
    show S 1 _ = _
    rw [S, S]
    show 0 ^^^ mu (parF 1 0 0) (co (upto c 1) 0) = c 0
    rw [e0, f1, one_mu, zero_x]
  · rw [g2]
    show 0 ^^^ mu (parF 1 1 0) (co (upto c 1) 0) = _
    rw [e0, f2, zero_x]
theorem aw2 : wdX 1 2 [5, 9, 7] [false, false, false] = 100 ∧ wdR 1 2 [5, 9, 7] [false, false, false] = [] ∧ wdP 1 2 [5, 9, 7] [false, false, false] = [] := by
  refine wd_many (k := 1) (m := 2) aw_okc ⟨rfl, rfl⟩ ?_
  rintro ⟨c, hc⟩
  obtain ⟨h1, h2⟩ := aw_par hc.code
  have hf := hc.few
  have hm : cnt (hb [false, false, false]) (1 + 2) = 0 := by decide
  rw [hm] at hf
  have w0 : wrg (co [5, 9, 7]) c (hb [false, false, false]) 0 = decide (c 0 ≠ 5) := rfl
  have w1 : wrg (co [5, 9, 7]) c (hb [false, false, false]) 1 = decide (c 1 ≠ 9) := rfl
  have w2 : wrg (co [5, 9, 7]) c (hb [false, false, false]) 2 = decide (c 2 ≠ 7) := rfl
  have e : cnt (wrg (co [5, 9, 7]) c (hb [false, false, false])) (1 + 2) = 0 + (if decide (c 0 ≠ 5) = true then 1 else 0) + (if decide (c 1 ≠ 9) = true then 1 else 0) + (if decide (c 2 ≠ 7) = true then 1 else 0) := by
    show cnt _ 3 = _
    rw [cnt, cnt, cnt, cnt, w0, w1, w2]
  rw [e] at hf
  by_cases q0 : c 0 = 5
  · have q1 : c 1 ≠ 9 := by rw [h1, q0]; decide
    have q2 : c 2 ≠ 7 := by rw [h2, q0]; decide +kernel
    rw [if_pos (decide_eq_true q1), if_pos (decide_eq_true q2)] at hf
    omega
  · rw [if_pos (decide_eq_true q0)] at hf
    by_cases q1 : c 1 = 9
    · have q2 : c 2 ≠ 7 := by rw [h2, ← h1, q1]; decide +kernel
      rw [if_pos (decide_eq_true q2)] at hf
      omega
    · rw [if_pos (decide_eq_true q1)] at hf
      omega
theorem aw_at : wdAt [true, false, true] [[14], [], [7]] (1 + 2) 0 = [14, 0, 7] := by decide +kernel
theorem aw_not : notM [true, false, true] = [false, true, false] := by decide
theorem aw_p : pX 1 2 [true, false, true] [[14], [], [7]] 0 = 0 ∧ pR 1 2 [true, false, true] [[14], [], [7]] 0 = [14, 14, 7] ∧ pP 1 2 [true, false, true] [[14], [], [7]] 0 = [] := by
  unfold pX pR pP
  rw [aw_at, aw_not]
  have h : Near 1 2 (co [14, 0, 7]) (hb [false, true, false]) (co [14, 14, 7]) := ⟨aw_code2, by decide +kernel⟩
  obtain ⟨e1, e2, e3⟩ := wd_ok (k := 1) (m := 2) (z := [14, 0, 7]) (ms := [false, true, false]) aw_okc ⟨rfl, rfl⟩ h
  exact ⟨e1, e2.trans (by decide +kernel), e3.trans (by decide +kernel)⟩
theorem aw3 : shX 1 2 [true, false, true] [[14], [], [7]] = 0 ∧ shR 1 2 [true, false, true] [[14], [], [7]] = [[14], [14], [7]] ∧ shP 1 2 [true, false, true] [[14], [], [7]] = [] := by
  have h1 : oneX [true, false, true] [[14], [], [7]] = ((1 : Nat) : Int) := oneX_ok ⟨0, rfl⟩ fun i hi => by
    rcases i with _ | _ | _ | i
    · rfl
    · cases hi
    · rfl
    · rw [hb_ge (by simp)] at hi; cases hi
  obtain ⟨e1, e2, e3⟩ := sh_ok (k := 1) (m := 2) aw_okc rfl rfl h1 (fun t ht => by rw [show t = 0 by omega]; exact aw_p.1)
  refine ⟨e1, e2.trans ?_, e3.trans ?_⟩
  · unfold rowsP
    have : ∀ i, upto (fun t => co (pR 1 2 [true, false, true] [[14], [], [7]] t) i) 1 = [co [14, 14, 7] i] := fun i => by
      show [co (pR 1 2 [true, false, true] [[14], [], [7]] 0) i] = _
      rw [aw_p.2.1]
    rw [mkL_congr fun i _ => this i]
    decide +kernel
  · have : ∀ i, hurtP 1 2 [true, false, true] [[14], [], [7]] 1 i = false := fun i => by
      show mrkF (hurtP 1 2 [true, false, true] [[14], [], [7]] 0) (pP 1 2 [true, false, true] [[14], [], [7]] 0) i = false
      rw [aw_p.2.2]
      simp [mrkF, hurtP]
    unfold plc
    rw [List.filter_eq_nil_iff]
    intro i _
    rw [this i]
    decide

end Go.Proofs.Ytchfonofjbpmaaa.Gf

/-
  THE DOCUMENT's ANSWER FOR LAYER 6 (package aumbryref06) BY CONTRACT: 'Same'.
-/

namespace Go.Proofs.Ytchfonofjbpmaaa.Gf
set_option linter.unusedVariables false
set_option linter.unusedSimpArgs false
open Go.RowKit

set_option maxRecDepth 100000 in
set_option maxHeartbeats 1000000 in
theorem same6_any {va vb : Value} {A B : List (List UInt8)} {w : World} (hA : Rs w va A) (hB : Rs w vb B) : Calls Try.prog 18 #[va, vb] w fun e w' => e = .returned (.bool (sameL A B)) ∧ ∃ n, w' = w.drewN n := by
  obtain ⟨a, c, rfl⟩ := hA.form
  obtain ⟨a', c', rfl⟩ := hB.form
  have hl := hA.len
  unfold maxLen at hl
  by_cases hx : A.length = B.length
  · have hb : ((A.length : Int) != (B.length : Int)) = false := by simp [hx]
    have hx' : Hid (A.length = B.length) := hx
    clear hx
    go_enter Try.func18, Try.ntmps18
    go_wp2
    clear hb
    go_loopw [5] (fun i wr => ∃ k : Nat, k ≤ A.length ∧ i = .int .i64 k ∧ Hid (∀ j, j < k → ro A j = ro B j) ∧ ∃ n, wr = w.drewN n) (fun i _ => A.length - (intOf i).toNat)
    case atStart => exact ⟨0, by omega, rfl, fun j hj => by omega, 0, rfl⟩
    case round =>
      obtain ⟨k, hk, rfl, hs, nd, hd0⟩ := hrel
      have hd : Hid (wr = w.drewN nd) := hd0
      have hA' : Rs wr (.slice a A.length c) A := by rw [hd0]; exact hA.drewN nd
      have hB' : Rs wr (.slice a' B.length c') B := by rw [hd0]; exact hB.drewN nd
      clear hd0 hA hB
      by_cases hlt : k < A.length
      · have hltB : k < B.length := by have := hx'.out; omega
        obtain ⟨b, off, xa, xc, rfl, hb, c1, r1⟩ := hA'.at hlt
        obtain ⟨b', off', ya, yc, rfl, hb', c0, r0⟩ := hB'.at hltB
        have hlt' : (k : Int) < (A.length : Int) := by omega
        have h0' : (k : Int) < (B.length : Int) := by omega
        by_cases e : ro A k = ro B k
        · have hn : sameB (ro A k) (ro B k) = true := sameB_of e
          have HS : Hid (∀ j, j < k + 1 → ro A j = ro B j) := fun j hj => by
            by_cases e2 : j = k
            · rw [e2]; exact e
            · exact hs.out j (by omega)
          clear e hs hA' hB'
          go_wp2
          go_quiet ((go_at_call 14; go_loud (exact Calls.quiet_of (same_any (r1.drewN _) (r0.drewN _)))))
          go_wp2
          go_roundw
          case rel => exact ⟨k + 1, by omega, by go_num, HS, _, by show _ = _; rw [hd.out, World.drewN_drewN]⟩
          case measure => simp [intOf]; omega
        · have hn : sameB (ro A k) (ro B k) = false := decide_eq_false e
          have E : Hid (sameL A B = false) := decide_eq_false fun h => e (by rw [h])
          clear e hs hA' hB'
          go_wp2
          go_quiet ((go_at_call 14; go_loud (exact Calls.quiet_of (same_any (r1.drewN _) (r0.drewN _)))))
          go_wp2
          go_ret
          exact ⟨by rw [E.out]; rfl, _, by show _ = _; rw [hd.out, World.drewN_drewN]⟩
      · have E : Hid (sameL A B = true) := decide_eq_true (ro_ext hx'.out fun i hi => hs.out i (by omega))
        have hge : ¬ (k : Int) < (A.length : Int) := by omega
        clear hs hA' hB'
        go_wp2
        go_ret
        exact ⟨by rw [E.out]; rfl, _, hd.out⟩
  · have hb : ((A.length : Int) != (B.length : Int)) = true := by simp; omega
    have E : Hid (sameL A B = false) := decide_eq_false fun h => hx (by rw [h])
    clear hA hB hx
    go_enter Try.func18, Try.ntmps18
    go_wp2
    go_ret
    exact ⟨by rw [E.out]; rfl, 0, rfl⟩

end Go.Proofs.Ytchfonofjbpmaaa.Gf

/-
  THE STATEMENTS' HEAD OF LAYER 10 BY CONTRACT: 'awake' answers true.
-/



namespace Go.Proofs.Ytchfonofjbpmaaa.Gf
set_option linter.unusedVariables false
set_option linter.unusedSimpArgs false
open Go.RowKit

theorem same10_t {va vb : Value} {p q : List UInt8} {w : World} (hp : Rd w va p) (hq : Rd w vb q) (h : p = q) : Calls Try.prog 14 #[va, vb] w fun e w' => e = .returned (.bool true) ∧ Below w.heap.size w w' :=
  (same_any hp hq).mono fun e w' ⟨h1, n, h2⟩ => ⟨by rw [h1, sameB_of h], by rw [h2]; exact (Below.refl _ _).drewN n⟩
theorem same106_t {va vb : Value} {A B : List (List UInt8)} {w : World} (hA : Rs w va A) (hB : Rs w vb B) (h : A = B) : Calls Try.prog 18 #[va, vb] w fun e w' => e = .returned (.bool true) ∧ Below w.heap.size w w' :=
  (same6_any hA hB).mono fun e w' ⟨he, n, hw⟩ => ⟨by rw [he]; exact congrArg (fun b => Ending.returned (.bool b)) (decide_eq_true h), by rw [hw]; exact (Below.refl _ _).drewN n⟩
theorem rs_lit310 {w : World} {x y z : Value} {e b : Nat} {p q r : List UInt8} (hb : b = w.heap.size) (h : Rd w x p) (h2 : Rd w y q) (h3 : Rd w z r) : Rs (w.alloc (.cells #[x, y, z] e)) (.slice (some ⟨b, 0, none⟩) 3 3) [p, q, r] :=
  rs_lit hb rfl (by decide) fun i hi => by
    rcases i with _ | _ | _ | i
    · exact ⟨x, rfl, h⟩
    · exact ⟨y, rfl, h2⟩
    · exact ⟨z, rfl, h3⟩
    · simp at hi; omega
theorem aw_small : ∀ i, hb [true, false, true] i = true → (ro [[14], [], [7]] i).length ≤ 300 := fun i hi => by
  rcases i with _ | _ | _ | i
  · decide
  · cases hi
  · decide
  · rw [hb_ge (by simp)] at hi; cases hi

set_option maxRecDepth 100000 in
set_option maxHeartbeats 4000000 in
theorem awake10_any (w : World) : Calls Try.prog 9 #[] w fun e w' => e = .returned (.bool true) ∧ Below w.heap.size w w' := by
  go_enter Try.func9, Try.ntmps9
  have B : Below w.heap.size w w := Below.refl _ _
  go_wp2_with fail
  refine (new_any _).mono ?_
  rintro e u1 ⟨rfl, F, hO⟩
  have b := hO.below
  clear hO
  have D : Below (World.heap w |>.size) w u1 := Below.next (by repeat (first | exact Below.refl _ _ | apply Below.drewN | apply Below.drew | apply Below.draws | apply below_lit)) b
  replace B := Below.next B D
  clear b D
  go_wp2_with fail
  refine (eword_any (k := 1) (m := 2) (z := [5, 9, 140]) (ms := [false, false, false]) (F.below (by repeat (first | exact Below.refl _ _ | apply Below.drewN | apply Below.drew | apply Below.draws | apply below_lit))) ((rd_lit2 (w := u1) (cs := #[.int .u8 5, .int .u8 9, .int .u8 140]) (e := 5) [5, 9, 140] (by simp) rfl rfl (by decide)).below (by repeat (first | exact Below.refl _ _ | apply Below.drewN | apply Below.drew | apply Below.draws | apply below_lit))) ((rdB_lit (w := (World.alloc u1 (.cells #[.int .u8 5, .int .u8 9, .int .u8 140] 5))) (cs := #[.bool false, .bool false, .bool false]) (e := 4) [false, false, false] (by simp) rfl rfl (by decide)).below (by repeat (first | exact Below.refl _ _ | apply Below.drewN | apply Below.drew | apply Below.draws | apply below_lit)))).mono ?_
  rintro e u2 ⟨va, vd, rfl, Ra, Oa, b, fa⟩
  rw [aw1.1]
  rw [aw1.2.1] at Ra
  rw [aw1.2.2] at Oa
  have Wa := Oa.rd (by decide)
  clear fa Oa
  have D : Below (World.heap u1 |>.size) u1 u2 := Below.next (by repeat (first | exact Below.refl _ _ | apply Below.drewN | apply Below.drew | apply Below.draws | apply below_lit)) b
  replace F := F.below D
  replace B := Below.next B D
  clear b D
  obtain ⟨aa, ac, rfl⟩ := Ra.form
  obtain ⟨da, dc, rfl⟩ := Wa.form
  go_wp2_with fail
  refine (eword_any (k := 1) (m := 2) (z := [5, 9, 7]) (ms := [false, false, false]) (F.below (by repeat (first | exact Below.refl _ _ | apply Below.drewN | apply Below.drew | apply Below.draws | apply below_lit))) ((rd_lit2 (w := u2) (cs := #[.int .u8 5, .int .u8 9, .int .u8 7]) (e := 5) [5, 9, 7] (by simp) rfl rfl (by decide)).below (by repeat (first | exact Below.refl _ _ | apply Below.drewN | apply Below.drew | apply Below.draws | apply below_lit))) ((rdB_lit (w := (World.alloc u2 (.cells #[.int .u8 5, .int .u8 9, .int .u8 7] 5))) (cs := #[.bool false, .bool false, .bool false]) (e := 4) [false, false, false] (by simp) rfl rfl (by decide)).below (by repeat (first | exact Below.refl _ _ | apply Below.drewN | apply Below.drew | apply Below.draws | apply below_lit)))).mono ?_
  rintro e u3 ⟨vb, ve, rfl, Rb, Ob, b, fa⟩
  rw [aw2.1]
  obtain ⟨ba, bc, rfl⟩ := Rb.form
  obtain ⟨ea, ec, rfl⟩ := Ob.form
  clear fa Rb Ob
  have D : Below (World.heap u2 |>.size) u2 u3 := Below.next (by repeat (first | exact Below.refl _ _ | apply Below.drewN | apply Below.drew | apply Below.draws | apply below_lit)) b
  replace F := F.below D
  replace Ra := Ra.below D
  replace Wa := Wa.below D
  replace B := Below.next B D
  clear b D
  go_wp2_with fail
  refine (esh_any (k := 1) (m := 2) (hs := [true, false, true]) (L := [[14], [], [7]]) (F.below (by repeat (first | exact Below.refl _ _ | apply Below.drewN | apply Below.drew | apply Below.draws | apply below_lit))) ((rdB_lit (w := u3) (cs := #[.bool true, .bool false, .bool true]) (e := 4) [true, false, true] (by simp) rfl rfl (by decide)).below (by repeat (first | exact Below.refl _ _ | apply Below.drewN | apply Below.drew | apply Below.draws | apply below_lit))) (rs_lit310 (by simp) (((rd_lit2 (w := (World.alloc u3 (.cells #[.bool true, .bool false, .bool true] 4))) (cs := #[.int .u8 14]) (e := 5) [14] (by simp) rfl rfl (by decide)).below (by repeat (first | exact Below.refl _ _ | apply Below.drewN | apply Below.drew | apply Below.draws | apply below_lit)))) (rd9_nil _) ((rd_lit2 (w := (World.alloc (World.alloc u3 (.cells #[.bool true, .bool false, .bool true] 4)) (.cells #[.int .u8 14] 5))) (cs := #[.int .u8 7]) (e := 5) [7] (by simp) rfl rfl (by decide)).below (by repeat (first | exact Below.refl _ _ | apply Below.drewN | apply Below.drew | apply Below.draws | apply below_lit)))) aw_small).mono ?_
  rintro e u4 ⟨vs, vx, rfl, Rs1, Ox, b⟩
  rw [aw3.1]
  rw [aw3.2.1] at Rs1
  rw [aw3.2.2] at Ox
  obtain ⟨xa, xc, rfl⟩ := Ox.form
  clear Ox
  have D : Below (World.heap u3 |>.size) u3 u4 := Below.next (by repeat (first | exact Below.refl _ _ | apply Below.drewN | apply Below.drew | apply Below.draws | apply below_lit)) b
  replace F := F.below D
  replace Ra := Ra.below D
  replace Wa := Wa.below D
  replace B := Below.next B D
  clear b D
  obtain ⟨sa, sc, rfl⟩ := Rs1.form
  go_wp2_with fail
  refine (same10_t (Ra.below (by repeat (first | exact Below.refl _ _ | apply Below.drewN | apply Below.drew | apply Below.draws | apply below_lit))) ((rd_lit2 (w := u4) (cs := #[.int .u8 5, .int .u8 5, .int .u8 140]) (e := 5) [5, 5, 140] (by simp) rfl rfl (by decide)).below (by repeat (first | exact Below.refl _ _ | apply Below.drewN | apply Below.drew | apply Below.draws | apply below_lit))) rfl).mono ?_
  rintro e u5 ⟨rfl, b⟩
  have D : Below (World.heap u4 |>.size) u4 u5 := Below.next (by repeat (first | exact Below.refl _ _ | apply Below.drewN | apply Below.drew | apply Below.draws | apply below_lit)) b
  replace F := F.below D
  replace Ra := Ra.below D
  replace Wa := Wa.below D
  replace Rs1 := Rs1.below D
  replace B := Below.next B D
  clear b D
  go_wp2_with fail
  refine (same106_t (Rs1.below (by repeat (first | exact Below.refl _ _ | apply Below.drewN | apply Below.drew | apply Below.draws | apply below_lit))) (rs_lit310 (by simp) ((rd_lit2 (w := u5) (cs := #[.int .u8 14]) (e := 5) [14] (by simp) rfl rfl (by decide)).below (by repeat (first | exact Below.refl _ _ | apply Below.drewN | apply Below.drew | apply Below.draws | apply below_lit))) ((rd_lit2 (w := (World.alloc u5 (.cells #[.int .u8 14] 5))) (cs := #[.int .u8 14]) (e := 5) [14] (by simp) rfl rfl (by decide)).below (by repeat (first | exact Below.refl _ _ | apply Below.drewN | apply Below.drew | apply Below.draws | apply below_lit))) ((rd_lit2 (w := (World.alloc (World.alloc u5 (.cells #[.int .u8 14] 5)) (.cells #[.int .u8 14] 5))) (cs := #[.int .u8 7]) (e := 5) [7] (by simp) rfl rfl (by decide)).below (by repeat (first | exact Below.refl _ _ | apply Below.drewN | apply Below.drew | apply Below.draws | apply below_lit)))) rfl).mono ?_
  rintro e u6 ⟨rfl, b⟩
  have D : Below (World.heap u5 |>.size) u5 u6 := Below.next (by repeat (first | exact Below.refl _ _ | apply Below.drewN | apply Below.drew | apply Below.draws | apply below_lit)) b
  replace F := F.below D
  replace Ra := Ra.below D
  replace Wa := Wa.below D
  replace Rs1 := Rs1.below D
  replace B := Below.next B D
  clear b D
  obtain ⟨qb, qo, rfl, _, c1⟩ := Wa.at (i := 0) (by decide)
  rw [Nat.add_zero] at c1
  have e1 : (toI [1]).getD 0 0 = 1 := rfl
  rw [e1] at c1
  clear e1 Wa
  go_wp2
  go_ret
  exact ⟨rfl, Below.next B (by repeat (first | exact Below.refl _ _ | apply Below.drewN | apply Below.drew | apply Below.draws | apply below_lit))⟩

end Go.Proofs.Ytchfonofjbpmaaa.Gf

/-
  THE DOCUMENT's ANSWER FOR LAYER 10 (package aumbryref10) BY CONTRACT: 'Ints'.
-/

namespace Go.Proofs.Ytchfonofjbpmaaa.Gf
set_option linter.unusedVariables false
set_option linter.unusedSimpArgs false
open Go.RowKit

theorem ints_ext {xs ys : List Int} (hl : xs.length = ys.length) (h : ∀ i, i < xs.length → xs.getD i 0 = ys.getD i 0) : xs = ys := by
  refine List.ext_getElem hl fun i h1 h2 => ?_
  have := h i h1
  simpa [List.getD, h1, h2] using this

set_option maxRecDepth 100000 in
set_option maxHeartbeats 1000000 in
theorem rints_any {va vb : Value} {xs ys : List Int} {w : World} (ha : RdI w va xs) (hb : RdI w vb ys) (hl : xs.length ≤ 1000000) (hl2 : ys.length ≤ 1000000) :
    Calls Try.prog 15 #[va, vb] w fun e w' => e = .returned (.bool (decide (xs = ys))) ∧ Below w.heap.size w w' := by
  obtain ⟨a1, c1, rfl⟩ := ha.form
  obtain ⟨a2, c2, rfl⟩ := hb.form
  by_cases hlen : xs.length = ys.length
  · have hn : (((xs.length : Nat) : Int) != ((ys.length : Nat) : Int)) = false := by simp [hlen]
    have hlen' : Hid _ := hlen
    clear hlen
    go_enter Try.func15, Try.ntmps15
    go_wp2
    go_loopw [5] (fun i wr => ∃ k : Nat, k ≤ xs.length ∧ i = .int .i64 k ∧ Hid (∀ j, j < k → xs.getD j 0 = ys.getD j 0) ∧ Below w.heap.size w wr) (fun i _ => xs.length - (intOf i).toNat)
    case atStart => exact ⟨0, by omega, rfl, fun j hj => by omega, Below.refl _ _⟩
    case round =>
      obtain ⟨k, hk, rfl, hs, hB⟩ := hrel
      by_cases hlt : k < xs.length
      · obtain ⟨b1, o1, rfl, _, k1⟩ := (ha.below hB).at hlt
        obtain ⟨b2, o2, rfl, _, k2⟩ := (hb.below hB).at (show k < ys.length by have := hlen'.out; omega)
        have hlt1 : (k : Int) < (xs.length : Int) := by omega
        have hlt2 : (k : Int) < (ys.length : Int) := by have := hlen'.out; omega
        by_cases e : xs.getD k 0 = ys.getD k 0
        · have HS : Hid (∀ j, j < k + 1 → xs.getD j 0 = ys.getD j 0) := fun j hj => by
            by_cases e2 : j = k
            · rw [e2]; exact e
            · exact hs.out j (by omega)
          rw [e] at k1
          generalize ys.getD k 0 = y at k1 k2
          clear e hs ha hb
          go_wp2_with fail
          try go_quiet (fail)
          try go_wp2
          go_roundw
          case rel => exact ⟨k + 1, by omega, by go_num, HS, by first | exact hB | exact hB.drewN _⟩
          case measure => simp [intOf]; omega
        · have hne : (xs.getD k 0 != ys.getD k 0) = true := bne_iff_ne.2 e
          have E : Hid (decide (xs = ys) = false) := decide_eq_false fun q => e (by rw [q])
          generalize ys.getD k 0 = y at k2 hne
          generalize xs.getD k 0 = x at k1 hne
          clear e hs ha hb
          go_wp2_with fail
          try go_quiet (fail)
          try go_wp2
          go_ret
          exact ⟨by rw [E.out]; rfl, by first | exact hB | exact hB.drewN _⟩
      · have hge : ¬ (k : Int) < (xs.length : Int) := by omega
        have E : Hid (decide (xs = ys) = true) := decide_eq_true (ints_ext hlen'.out fun i hi => hs.out i (by omega))
        clear hs ha hb
        go_wp2
        go_ret
        exact ⟨by rw [E.out]; rfl, hB⟩
  · have hn : (((xs.length : Nat) : Int) != ((ys.length : Nat) : Int)) = true := by simp; omega
    have E : Hid (decide (xs = ys) = false) := decide_eq_false fun q => hlen (by rw [q])
    clear ha hb hlen
    go_enter Try.func15, Try.ntmps15
    go_wp2
    go_ret
    exact ⟨by rw [E.out]; rfl, Below.refl _ _⟩

end Go.Proofs.Ytchfonofjbpmaaa.Gf

