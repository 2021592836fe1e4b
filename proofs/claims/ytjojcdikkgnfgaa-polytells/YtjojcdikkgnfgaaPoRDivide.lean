/-
  THE DOCUMENT's ANSWER FOR LAYER 2 (package aumbryref02) BY CONTRACT: 'Divide'.
-/
import Derived.Test.YtjojcdikkgnfgaaPoRNorm
import Derived.Test.YtjojcdikkgnfgaaPoREval
import Derived.Test.YtjojcdikkgnfgaaPoMulMath
import Derived.Test.YtjojcdikkgnfgaaPoDivMath
import Derived.Test.YtjojcdikkgnfgaaGfRefInv
import Derived.Deep.RegionWith
namespace Go.Proofs.Ytjojcdikkgnfgaa.Gf
set_option linter.unusedVariables false
set_option linter.unusedSimpArgs false
open Go.RowKit

theorem rdv_at {w : World} (a b : UInt8) {x y : Int} (hx : x = ((a.toNat : Nat) : Int)) (hy : y = ((b.toNat : Nat) : Int)) :
    Calls Try.prog 34 #[.int .u8 x, .int .u8 y] w fun e w' => e = .returned (.tuple #[.int .u8 ((mu a (iv b)).toNat : Nat), .int .i64 (zE b.toNat : Nat)]) ∧ w' = w := by
  rw [mu_toNat, iv_toNat]
  exact rdiv_at a.toNat b.toNat hx hy (u8_lt a) (u8_lt b)

set_option maxRecDepth 100000 in
set_option maxHeartbeats 2000000 in
theorem rdivide_zero {va vq : Value} {p q : List UInt8} {w : World} (hq : Rd w vq q) (hl2 : q.length ≤ 400000) (h0 : norm q = []) :
    Calls Try.prog 22 #[va, vq] w fun e w' => e = .returned (.tuple #[.slice none 0 0, .slice none 0 0, .int .i64 20]) ∧ Below w.heap.size w w' := by
  go_enter Try.func22, Try.ntmps22
  go_wp2_with fail
  refine (rnorm_any hq (by omega)).mono ?_
  rintro e w1 ⟨v1, rfl, hown1, hb1⟩
  obtain ⟨a1, c1, e1⟩ := (Rd.owned hown1).form
  rw [h0] at e1
  clear hown1
  subst e1
  go_wp2
  go_ret3
  exact ⟨rfl, hb1⟩

set_option maxRecDepth 100000 in
set_option maxHeartbeats 2000000 in
theorem rdivide_main {va vq : Value} {p q : List UInt8} {w : World} (hp : Rd w va p) (hq : Rd w vq q) (hl : p.length ≤ 400000) (hl2 : q.length ≤ 400000) (h0 : 0 < (norm q).length) (h1 : (norm q).length ≤ (norm p).length) :
    Calls Try.prog 22 #[va, vq] w fun e w' => ∃ vs vr s r, e = .returned (.tuple #[vs, vr, .int .i64 0]) ∧ IsDiv p q s r ∧ Rd w' vs s ∧ Rd w' vr r ∧ Below w.heap.size w w' := by
  obtain ⟨i0, hi, hz0, hz1, hz2⟩ := info_parts info_u8
  have hdq : (norm q).length ≤ q.length := by rw [norm, mk_length]; exact deg_le _ _
  have hdp : (norm p).length ≤ p.length := by rw [norm, mk_length]; exact deg_le _ _
  have hqt : co q ((norm q).length - 1) ≠ 0 := by rw [norm, mk_length]; exact deg_top _ _ (by rw [norm, mk_length] at h0; omega)
  have hqf : Fin0 (co q) (norm q).length := by rw [norm, mk_length]; exact deg_fin (co_fin q)
  have hpf : Fin0 (co p) (norm p).length := by rw [norm, mk_length]; exact deg_fin (co_fin p)
  obtain ⟨m, hm⟩ : ∃ m, Hid (m = (norm q).length) := ⟨_, rfl⟩
  obtain ⟨n, hn⟩ : ∃ n, Hid (n = (norm p).length) := ⟨_, rfl⟩
  go_enter Try.func22, Try.ntmps22
  go_wp2_with fail
  refine (rnorm_any hq (by omega)).mono ?_
  rintro e w1 ⟨v1, rfl, hown1, hb1⟩
  obtain ⟨gq, cq, e1, Rq⟩ := RowF.of hown1 h0
  rw [co_norm] at Rq
  rw [← hm.out] at e1 Rq h0 h1 hqt hqf hdq
  clear hown1
  subst e1
  have hm0 : ((m : Int) == 0) = false := by simp; omega
  have hp1 := hp.below hb1
  go_wp2_with fail
  refine (rnorm_any hp1 (by omega)).mono ?_
  rintro e w2 ⟨v2, rfl, hown2, hb2⟩
  obtain ⟨gr, cr, e2, Rr⟩ := RowF.of hown2 (by rw [← hn.out]; have := hn.out; omega)
  rw [co_norm] at Rr
  rw [← hn.out] at e2 Rr h1 hpf hdp
  clear hown2
  subst e2
  have Rq2 := Rq.later hb2
  have s1 := hb1.size
  have s2 := hb2.size
  have hgq := Rq.lt
  have hgr := Rr.lt
  have B2 : Below w.heap.size w w2 := hb1.trans (hb2.mono s1)
  clear Rq hb1 hb2 hp1
  go_wp2_with (at_make; go_loud (refine wpList_make_full _ rfl (.tmp 21) (.tmp 21) 23 rfl w2.heap.size 5 i0 (.int .u8 0) 1 Try.underlying23 hi hz0 hz1 _ _ _ _ n rfl rfl (by omega) (by omega) (by rw [hz2]; omega) (by unfold maxLen; omega) (Nat.le_refl _) ?_); intro w3 hown3 hgrow3)
  have Rs := RowF.made hown3
  have B23 : Below w2.heap.size w2 w3 := (Below.refl _ _).grown hgrow3 (Nat.le_refl _) (fun k h => by cases h)
  clear hown3 hgrow3
  have B3 : Below w.heap.size w w3 := B2.trans (B23.mono (by omega))
  have Rq3 := Rq2.later B23
  have Rr3 := Rr.later B23
  have hgs := Rs.lt
  clear Rq2 Rr B23 B2
  have HQ : Hid (co q (m - 1) ≠ 0) := hqt
  have HF : Hid (Fin0 (co q) m) := hqf
  have D0 : DivInv (co p) (co q) (fun _ => 0) (co p) n m (n - m + 1) := DivInv.start hpf _ (by omega)
  clear hqt hqf hp hq
  go_loopw [9] (fun i wr => ∃ (x : Int) (fs fr : Nat → UInt8), i = .int .i64 x ∧ -1 ≤ x ∧ x + m ≤ n ∧ Hid (DivInv (co p) (co q) fs fr n m (x + 1).toNat) ∧ Hid (Fin0 fr n) ∧
      RowF wr w.heap.size 5 gq m cq (co q) ∧ RowF wr w1.heap.size 5 gr n cr fr ∧ RowF wr w2.heap.size 5 w2.heap.size n n fs ∧ Below w.heap.size w wr) (fun i _ => (intOf i + 1).toNat)
  case atStart => exact ⟨(n : Int) - (m : Int), _, _, rfl, by omega, by omega, (by rw [show ((n : Int) - (m : Int) + 1).toNat = n - m + 1 by omega]; exact D0), hpf, Rq3, Rr3, Rs, B3⟩
  case round =>
    obtain ⟨x, fs, fr, rfl, hx1, hx2, hD, hFr, RQ, RR, RS, BB⟩ := hrel
    clear D0 Rq3 Rr3 Rs B3 hpf
    by_cases hx : 0 ≤ x
    · obtain ⟨i, rfl⟩ := Int.eq_ofNat_of_zero_le hx
      have ei : ((i : Int) + 1).toNat = i + 1 := by omega
      have hin : i + m ≤ n := by omega
      have D1 : Hid (DivInv (co p) (co q) fs fr n m (i + 1)) := by rw [← ei]; exact hD
      clear hD ei hx hx1 hx2
      obtain ⟨c, hc⟩ : ∃ c, Hid (c = mu (fr (i + m - 1)) (iv (co q (m - 1)))) := ⟨_, rfl⟩
      obtain ⟨fs', hfs⟩ : ∃ fs' : Nat → UInt8, Hid (∀ t, fs' t = if t = i then c else fs t) := ⟨fun t => if t = i then c else fs t, fun _ => rfl⟩
      have D2 : Hid (DivInv (co p) (co q) fs' (rk fr (co q) c i m) n m i) := by
        have := D1.out.step h0 HF.out HQ.out (by omega) (fs' := fs') (by rw [← hc.out]; exact hfs.out)
        rw [← hc.out] at this
        exact this
      have k1 := RR.cell (j := i + m - 1) (by omega)
      have k2 := RQ.cell (j := m - 1) (by omega)
      have k3 := RS.cell (j := i) (by omega)
      have k4 := RS.unfrozen i
      have R0 : RowF wr w1.heap.size 5 gr n cr (rk fr (co q) c i 0) := by rw [rk_zero]; exact RR
      have RS' := RS.store (j := i) (by omega) c hfs.out
      have RQ' := RQ.other (a := ⟨w2.heap.size, i, none⟩) (by show gq ≠ w2.heap.size; omega) (.int .u8 ((c.toNat : Nat) : Int))
      have RR' := R0.other (a := ⟨w2.heap.size, i, none⟩) (by show gr ≠ w2.heap.size; omega) (.int .u8 ((c.toNat : Nat) : Int))
      have BB' := BB.setCell (p := ⟨w2.heap.size, i, none⟩) (by show w.heap.size ≤ w2.heap.size; omega) (.int .u8 ((c.toNat : Nat) : Int))
      have hcall : ∀ W, Calls Try.prog 34 #[.int .u8 (((fr (i + m - 1)).toNat : Nat) : Int), .int .u8 (((co q (m - 1)).toNat : Nat) : Int)] W fun e w' => e = .returned (.tuple #[.int .u8 ((c.toNat : Nat) : Int), .int .i64 (zE (co q (m - 1)).toNat : Nat)]) ∧ w' = W := fun W => by
        rw [hc.out]; exact rdv_at (fr (i + m - 1)) (co q (m - 1)) rfl rfl
      have H1 : Hid _ := RS'
      have H2 : Hid _ := RQ'
      have H3 : Hid _ := RR'
      have H4 : Hid _ := BB'
      clear RS' RQ' RR' BB' R0 RQ RR RS D1
      go_wp2
      go_quiet ((go_at_call 34; exact Calls.quiet_of_same (hcall _)))
      go_wp2
      clear hcall k1 k2 k3 k4
      have H5 : Below w.heap.size w (wr.drewN nq) := BB.trans ⟨rfl, rfl, rfl, Nat.le_refl _, fun _ _ => rfl⟩
      clear BB H4
      go_loopw [12] (fun j w4 => ∃ l : Nat, l ≤ m ∧ j = .int .i64 l ∧ RowF w4 w.heap.size 5 gq m cq (co q) ∧ RowF w4 w1.heap.size 5 gr n cr (rk fr (co q) c i l) ∧ RowF w4 w2.heap.size 5 w2.heap.size n n fs' ∧ Below w.heap.size w w4) (fun j _ => m - (intOf j).toNat)
      case atStart => exact ⟨0, by omega, rfl, H2, H3, H1, H5.setCell (p := ⟨w2.heap.size, i, none⟩) (by show w.heap.size ≤ w2.heap.size; omega) _⟩
      case round =>
        obtain ⟨l, hlm, rfl, RQ, RR, RS, BB⟩ := hrel
        clear H1 H2 H3 H5
        by_cases hlt : l < m
        · obtain ⟨t, ht⟩ : ∃ t, Hid (t = i + l) := ⟨_, rfl⟩
          have ht' := ht.out
          have htl : t < n := by omega
          have g0 : (i : Int) + (l : Int) = (t : Int) := by omega
          have c1 := RR.cell htl
          have f1 := RR.unfrozen t
          have c3 := RQ.cell hlt
          have E := xor_u8 (rk fr (co q) c i l t) (mu c (co q l))
          have N1 : Hid (RowF (wr.setCell ⟨gr, t, none⟩ (.int .u8 (((rk fr (co q) c i l t).toNat ^^^ (mu c (co q l)).toNat : Nat) : Int))) w1.heap.size 5 gr n cr (rk fr (co q) c i (l + 1))) := by
            rw [← UInt8.toNat_xor]; exact RR.store htl _ (by rw [ht']; exact rk_step fr (co q) c i l)
          have N2 := RQ.other (a := ⟨gr, t, none⟩) (by show gq ≠ gr; omega) (.int .u8 (((rk fr (co q) c i l t).toNat ^^^ (mu c (co q l)).toNat : Nat) : Int))
          have N3 := RS.other (a := ⟨gr, t, none⟩) (by show w2.heap.size ≠ gr; omega) (.int .u8 (((rk fr (co q) c i l t).toNat ^^^ (mu c (co q l)).toNat : Nat) : Int))
          have N4 := BB.setCell (p := ⟨gr, t, none⟩) (by show w.heap.size ≤ gr; omega) (.int .u8 (((rk fr (co q) c i l t).toNat ^^^ (mu c (co q l)).toNat : Nat) : Int))
          have M2 : Hid _ := N2
          have M3 : Hid _ := N3
          have M4 : Hid _ := N4
          clear N2 N3 N4 RQ RR RS BB ht'
          have g1 : (t : Int) < (n : Int) := by omega
          have gw : IntKind.i64.wrap (t : Int) = (t : Int) := by rw [IntKind.wrap_i64]; omega
          have g3 : (l : Int) < (m : Int) := by omega
          go_wp2
          go_region_with ((go_at_call 32; refine (rmu_at c (co q l) rfl rfl).mono ?_; rintro e w' ⟨rfl, rfl⟩))
          all_goals go_wp2
          all_goals
            go_roundw
            case rel => exact ⟨l + 1, by omega, by go_num, M2.out.drew, N1.out.drew, M3.out.drew, M4.out.drew⟩
            case measure => simp [intOf]; omega
        · have e : l = m := by omega
          subst e
          have HF2 : Hid (Fin0 (rk fr (co q) c i l) n) := fun t htn => D2.out.top t (by omega)
          go_wp2
          go_roundw
          case rel => exact ⟨(i : Int) - 1, fs', rk fr (co q) c i l, by go_num, by omega, by omega, by rw [show ((i : Int) - 1 + 1).toNat = i by omega]; exact D2, HF2, RQ, RR, RS, BB⟩
          case measure => first | (simp [intOf]; omega) | simp [intOf]
    · have hx0 : (x + 1).toNat = 0 := by omega
      rw [hx0] at hD
      have hDiv := div_done hD.out hm.out.symm h0 hdp hFr.out
      have r1 := RS.rd
      have r2 := RR.rd
      have HN1 : Hid (norm (upto fs n) = mk fs n) := norm_upto hD.out.fin hD.out.fin
      have HN2 : Hid (norm (upto fr n) = mk fr n) := norm_upto hFr.out hFr.out
      have HDD : Hid _ := hDiv
      clear hDiv hx0 hD hFr RS RR RQ
      go_wp2_with fail
      refine (rnorm_any r1 (by rw [upto_length]; omega)).mono ?_
      rintro e w5 ⟨v5, rfl, hown5, hb5⟩
      have r2' := r2.below hb5
      go_wp2_with fail
      refine (rnorm_any r2' (by rw [upto_length]; omega)).mono ?_
      rintro e w6 ⟨v6, rfl, hown6, hb6⟩
      have z5 : Rd w6 v5 (norm (upto fs n)) := (Rd.owned hown5).below hb6
      have z6 : Rd w6 v6 (norm (upto fr n)) := Rd.owned hown6
      have sB := BB.size
      have s5 := hb5.size
      go_wp2
      go_ret3
      refine ⟨v5, v6, mk fs n, mk fr n, rfl, HDD.out, ?_, ?_, (BB.trans (hb5.mono sB)).trans (hb6.mono (by omega))⟩
      · rw [← HN1.out]; exact z5
      · rw [← HN2.out]; exact z6

end Go.Proofs.Ytjojcdikkgnfgaa.Gf
